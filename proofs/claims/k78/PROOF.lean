import PyProof.Rows.All
import Wide.All
import OpenK.AllK
import Wide.FinOn
import Lean
import PyProof.EqAt
import PyProof.EqKinds
import PyProof.TupleCall
import KE.KUnpack
import PyProof.StrWalks
import PyProof.Rows.SortStr
import PyProof.FactsAll.dict_1
import PyProof.FactsAll.subtypes_3
import PyProof.FactsAll.subtypes_4
import PyProof.StrLawsIn
import PyProof.ListMulRoad
import PyProof.FactsAll.tuple
import PyProof.FactsAll.str
import KE.KIntText
import PyProof.StrBlockH
import PyProof.Rows.FStr
import PyProof.StrLawsTight
import KE.KDictSum
import PyProof.StrBlock2
import PyProof.Rows.SetFrom
import KE.KSortTup
import KE.KSortKey
import PyProof.Rows.CallKwBuiltin
import PyProof.Rows.Range3
import PyProof.ListRange
import PyProof.EnumFor
import PyProof.Rows.EnumRows
import PyProof.ZipIter
import PyProof.AutoSeq1
import PyProof.AttrMissHeap
import KE.KDictOf
import KE.KEqDict
import PySem.Challenge.RW_goneday_k78_whole_days_moved
open PySem.Str renaming ofString->Od,ofString->Og,empty->Uv
open PySem.W renaming Frag->Oe,fnOf->Oh,keepIn->Ot,nsIn->Ow,codeIn->Oy,mg_of->OC,findIn->OP,mg_none_of->PJ,emptyDict->Qs,isFn->QK,instObj->QZ,plainGet->Rb,hasDictIn->RA,plainOver->RW,methodCall_KW->R3,makesIn->Se,callWith_K->Ss,plainGet_of->S5,lookIn->S7,methodObj->Tr,takerIn->T1,cellsFrom_some->T4,handedIn->UU,OpenLaw->U6,WalkO->Vf
open List renaming length_map->Of,map_cons->Ol,mem_map->Oq,map_map->Ov,length_cons->Oz,mem_cons->OA,getElem?_eq_some_iff->OB,getElem?_map->OD,getElem?_set_ne->OG,length_append->OH,size_toArray->OI,mem_append->OL,map_append->OM,mem_singleton->OO,mem_cons_of_mem->OQ,getElem?_set_self->OS,getElem?_eq_getElem->OT,replicate->OX,mem_of_getElem?->OY,foldl_cons->O4,not_mem_nil->O5,take_of_length_le->O7,mem_cons_self->O8,mem_filter->Pa,lookup_cons->Pd,append_nil->Pg,length_filter_le->Ph,take_succ->Pk,map_congr_left->Pm,length_nil->Pn,getElem?_cons_succ->Po,mem_append_right->Pq,map->Pr,filterMap_cons->Pu,pairwise_map->Px,map_nil->PD,length_take->PF,filter_cons->PH,getElem?_append_left->PK,find?_cons->PL,nil_append->PM,cons_append->PN,any_cons->PQ,getElem?_cons_zero->P5,pairwise_cons->P8,range->Qa,getElem?_append_right->Qf,nodup_cons->Qj,getElem?_eq_none->Qm,set_cons_zero->Qn,set_cons_succ->Qo,getElem?_nil->Qu,flatMap_cons->Qv,length_singleton->Qw,getElem_mem->Qy,filter->QN,getD_eq_getElem?_getD->QP,all_eq_true->QS,all_cons->Q7,getElem?_replicate->Q8,any_eq_true->Rc,foldl_append->RB,mem_of_mem_take->RH,ext_getElem->RK,all_nil->RL,any_nil->RM,flatMap_append->RN,mem_filterMap->RQ,length_range->RX,mem_range->RZ,any_map->R4,mem_append_left->R7,length_drop->R8,perm_ext_iff_of_nodup->R9,lookup->Sa,getElem_of_mem->Sb,filter_sublist->Sd,drop_eq_getElem_cons->Sj,pairwise_iff_getElem->Sq,find?_eq_none->Sw,Nodup->SD,append_assoc->SH,map_take->SM,getElem_inj->SN,mem_flatMap->SR,length_replicate->SS,take_append_drop->SV,pairwise_append->S0,eq_nil_of_length_eq_zero->S4,tail_cons->Ta,contains_cons->Td,filter_append->Te,length_eraseIdx_of_lt->Tn,nodup_append->Tt,mem_of_find?_eq_some->Tw,length_filterMap_le->TN,getElem?_set_self'->TV,pairwise_singleton->TZ,of_mem_zip->T2,length->T5,drop_of_length_le->T6,pairwise_lt_range->T7,filterMap_append->Ud,mem_of_mem_drop->Uk,replicate_succ->Ur,filterMap_map->Uz,toArray->UC,append_of_mem->UG,any_eq_false->UI,find?_append->UO,not_lt->US,map_id->UT,le_antisymm->UY,map_snd_zip->U2,take_length->U3,forIn_cons->U4,filterMap->Vd,lt_trans->Vi,all_map->Vq
open PySem.PyData renaming str->Oi,strOk->Om,eqv->ON,tuple->OW,int->OZ,canLay0->Pj,canLayAll0->Qe,eqvAll->Qr,list->QF,bool->RT,none->RV,depthAll->Sk,depth->Sv
open Nat renaming le_refl->Oj,ne_of_lt->OV,le_trans->O6,zero_le->Pe,lt_of_lt_of_le->Py,reduceAdd->Qh,reduceSub->Qi,le_succ->Qk,lt_succ_of_lt->Qt,lt_or_ge->QL,lt_irrefl->QO,lt_succ_self->QQ,le_of_not_lt->QR,reduceLeDiff->QT,sub_self->Q2,zero_add->Q3,le_of_lt->Rj,add_zero->Rq,reduceLT->Rr,ne_of_gt->R0,lt_of_le_of_lt->SA,add_le_add_left->Uo,le_of_eq->Uw,eq_zero_or_pos->UE,min_le_right->UW,lt_trans->Vo,mul_succ->Vp
open PySem.Heap renaming get?_push_of_some->Oo,lt_size->OJ,get?_push_size->OR,get?_update_self->Qx,SameBut->Q0,get?_update_other->Ri,size_push->S8,get?_update_ne->Ul,get?_push_ne->UJ,ExtBut->VB
open PySem.ScopeKind renaming function->Ou
open PySem renaming Spec->Ox,Scope->O3,mem_of_lookup->Ra,boot_len->Rh,Within->Ut,Fin->UD,call->U5
open PySem.NameKind renaming free->OE,globalImplicit->O9,free->P1,cell->Tj
open Bool renaming false_ne_true->OF,and_eq_true->Pw,false_eq_true->PR,not_eq_true'->P6,true_and->P9,false_or->Qq,true_eq_false->QC,or_false->QE,not_false->Rg,not_true->Rx,and_true->Ry,false_and->R1,or_eq_true->So,not_eq_true->SQ,eq_iff_iff->SY,not_eq_false->UP,and_false->Vb,and_comm->Vk
open Array renaming length_toList->OU,getD_eq_getD_getElem?->Qc,getD->RF,getElem?_eq_getElem->RG,getElem?_toList->SU,perm_iff_toList_perm->To,getElem?_eq_none->T8,mem_toList_iff->Ug,toList_push->UL,toList_inj->UZ,toList_map->U0,toList_zip->U1,toList->Vl
open List.cons renaming injEq->Pb,inj->Tp
open PySem.Value renaming ref->Pc,int->QU,none->QY,bool->RC,str->RP,type->R6,isInt_shape->UH,isInt->UR,isStrOf->Ve,bytes->Vr,float->Vs
open Option.some renaming inj->Pf,injEq->PX
open PySem.PassesOwn renaming never->Pz
open PySem.Heap.SameBut renaming update->PB
open PySem.PyData.int renaming injEq->PV
open PySem.Obj renaming mapSeq->PY,data_mapFields->Qz,isFreed_of_fields->R5,cls_mapFields->Tu,putSet->Tx,mapFields->Vh
open PySem.SeqAt renaming canLay_of_shaped->PZ,shaped->Q1
open PySem.PyData.tuple renaming injEq->P0
open Function renaming comp->P2
open PySem.PyData.str renaming injEq->P4
open Sum renaming inr->P7,inl->TH
open PySem.Builtin.Int renaming intBits->Qb
open PySem.SetTable renaming below->Qg,grown->Rf,orStandIn->UA,sizeAbove->UB,layClean->UK,relaid->U8,laid->Vg,slot->Vj
open PySem.PyData.list renaming injEq->Ql
open False renaming elim->Qp
open Option renaming join_some->QA,join_none->QB,map_some->QI,map_none->QJ,map_eq_some_iff->QM,isSome_map->SG,map->TC,isSome_iff_exists->TJ,getD_none->TK,map_map->Ue,mem_toList->UQ,bind->VA
open PyProof.Rows renaming boot_sorted->QD,slot_tuple_getitem->QX,callWith_type1->Rk,bubble->S6,boot_max->VC,boot_min->VD
open True renaming intro->QG
open PySem.PyData.bool renaming injEq->QH
open PySem.F renaming slot_dict_get->QV,entry_dict_get->RU,args_tuple_add_2->Su,slot_list_extend->Sx,entry_tuple_add->SE,plainAttrs_list->SF,slot_tuple_add->SI,plain_extend_loop->Tz,type_list_extend->TL,args_dict_get_2->TQ,args_dict_get_3->TR,plainAttrs_dict->TU,plain_list_iadd->TY,type_dict_get->Ua,plain_set_new->Ub,slot_set_iter->Uc
open Int renaming emod_lt_of_pos->QW,toNat_natCast->Q4,reduceNeg->Q5,reducePow->Q6,eq_ofNat_of_zero_le->Q9,reduceLT->Rt,reduceLE->Ru,emod_nonneg->Rv,le_of_add_le_add_right->Rz,add_le_add_right->Uj,le_antisymm->U9,le_refl->Vz
open PyProof.Rows.F renaming plain_set_update_loop->Rm,entry_set_update_loop->Sy
open PySem.Builtin.Slice renaming slicePlaces->RD,sliceAdjust->Sg,sliceApplied->Th
open PySem.Around renaming under_plainId->RE,under->Ux
open PySem.Builtin.Tuple renaming tupleExact->RI,tupleItemsOf->Ti
open PySem.Builtin.List renaming listTooLong->RJ,listLengthHint->Tb,listExtendWith->Tc,listSameRef->TM,listUpdate->TX
open PySem.Builtin.Range renaming rangeSize->RO,small->Um
open PySem.W.WData renaming int->RR,weightAll->Si,list->Tv,layableAll->UX,weight->Vn
open ForInStep renaming yield->RS
open PySem.SetTable.below renaming go->RY
open PySem.Calls renaming call_function_entry->Sm,spliced_cons->Sr,callWith_builtin->SJ,evalArgs_plain->SW,Name_function_global->Tg,spliced_nil->Ts
open PySem.W.KasT renaming kasWp_bind->Sn
open Nat.succ renaming inj->Sz
open Prod.mk renaming injEq->SK
open PySem.AutoSeq1 renaming list_extend_list_list_0->SO
open Or renaming inr->SX,inl->T9
open PySem.Builtin renaming divisionGoesByPylong->S9
open PySem.Paired renaming length->Tf,snoc->Vy
open PySem.Txt renaming mul->Tq
open PySem.Expr renaming List->T3,Tuple->Va,Subscript->Vc,Call->VF
open PySem.SeqAt.RcAt renaming tuple_str->Uh
open PySem.SeqAt.EqAt renaming str_tuple->Ui,str_int->Us
open PyProof.Rows.IsTup renaming new->Uu
open PySem.Code renaming isFrame->Uy,frames->Vx
open PySem.PyData.dict renaming injEq->UM
open PySem.SetTable.probe renaming go->UN
open PySem.Walks renaming list->U7,range->Vv
open Prod renaming ext->Vm
open PySem.CmpOp renaming NotIn->Vt
open PySem.Data renaming fields->Vu
open PySem.IsRange renaming new->Vw
open PySem.Flow renaming next->VE
open PySem renaming PyData->VL,Value->VM,wpAny_bind->VN,Addr->VO,Shared->VP,wpAny_pure->VQ,mainGlobals->VR,wpAny->VS,starEach->VT,model->VU,Expr->VV,sizeLine->VW,FuncData->VX,Program->VY,World->VZ,Heap->V0,Stmt->V1,Around->V2,foldedSetIterable->V3,backTo->V5,swapsWith->V6,wpAny_newObj_type->V7,compareOp->V8,bootBuiltins->V9,wpAny_mono->Wa,cLine->Wb,wpAny_call_entry->Wc,wpAny_holding->Wf,behindInMarks->Wg,sizeLine_eq->Wh,attributeBase->Wi,wpAny_callSpecial?_slot->Wj,wpAny_truthy_bool->Wk,keywordEach->Wl,binaryOp->Wm,Scope->Wn,wpAny_loadPart'->Wo,SetTable->Wq,sysModules->Wr,tupleKind_room_in1->Ws,wpAny_passesOwn->Wt,wpAny_setState_of->Wu,backToKw->Wv,codeAny_mono->Ww,NameKind->Wx,wpAny_askSetting->Wy,wpAny_setEntries_of->Wz,codeAny->WA,Keyword->WB,wpAny_Call_Name_kw->WC,codeAny_builtin->WD,scanBound->WE,rawInt->WG,wpAny_setField->WH,pyNext->WI,wpAny_newList->WK,getItem->WM,sliceBounds->WN,intKind->WQ,holding->WR,assignEach->WS,call_meets->WT,setNext->WU,plainId_quiet->WV,wpAny_attempt->WW,relayAll->WX,tupleKind->WY,standAt->W0,PassesOwn->W2,getMethod->W3,wpAny_execs_nil->W4,wpAny_rule->W5,letOwnedTupleGo->W6,wpAny_typeOf->W7,typeIs_str->W8,wpAny_ite_split->W9,wpAny_fieldsOf->Xc,firstArgMember->Xd,subscripted->Xe,wpAny_of_eq->Xf,DictEntry->Xh,pickOrder->Xi,swapsWithSole->Xj,swappedStores->Xk,wpAny_pyIter_list->Xl,noFill_tuple_add->Xm,wpAny_comprehension_free->Xn,wpAny_isInstance->Xo,GenState->Xp
open PyProof.Rows renaming seqObj->V4,IntsAre->We,envOfC->WJ,listUpdate_at->WL,get?_update_seq->WO,AllBare->WZ,entry_list_sort->Xa,slot_list_sort->Xb,assignInOrder_cons->Xg
theorem cp{p:Prop}[Decidable p](h:decide p=true:=by decide+kernel):p:=of_decide_eq_true h
theorem VG{p:Prop}(h:p:=by decide):p:=h
theorem VH{p:Prop}(h:p:=by omega):p:=h
theorem VI{c:Prop}{h:Decidable c}(k:¬c){α:Sort u}{t e:α}:ite c t e=e:=if_neg k
theorem VJ{c:Prop}{h:Decidable c}(k:c){α:Sort u}{t e:α}:ite c t e=t:=if_pos k
def rzS:="↓pI ↓pK ↓pL ↓pM ↓pN ↓pJ ↓oO ↓oP ↓oQ ↓oR ↓oT ↓oU ↓oV ↓oW ↓oX ↓oY ↓oZ ↓o9 ↓pb ↓pd ↓pe ↓pf ↓ph ↓pj ↓pk ↓pq ↓pz ↓pA ↓pB ↓pC ↓pE ↓pF ↓pG ↓pH iT jX jY iV hZ iU h7 jZ j4 j5 iY eM iS dC cK dI ke kh ki kj gf kC kB kn km dL iW jR fW fX dM jS jT jU jV jW fY nH nI nJ nK nL nM nN nO nP nQ nR nS nT nU nV nW nX nY nZ n8 n9 oe oh oi oj om oo oq ot oz oA oB oC oE oF oG oH oI oJ oK oM oN kr i4 ko kq ku kx i3 kz kA kD kE gc j7 j8 j9 kJ kN nG kI gh kM kL kO kQ kP kR kT kU kW kX kY lr lh lq kZ lx lC lE lz lA lB lF lG lH lI lL lK lM lO lP lN gL mZ ni nq nt nv ny nA nB nE nF ne_eq m7 m8 m9 nc nh m3 m4 m6 ig ij iZ iX j3 j2 j1 fZ d9 cv iL iM gE Ol PD Oz Pn OX PN PM Pg Qh Qi Rq Q3 Q2 P5 Po Qu Qn Qo PX exists_eq_left' exists_eq_left exists_and_left exists_and_right QA QB Sl.v.injEq Sl.o.injEq Sl.k.injEq PV QH P4 P0 Ql Pb and_true true_and Rr QT exists_const decide_eq_true_eq Rt Ru Q5 Q6 P6 decide_eq_false_iff_not and_assoc or_true true_or ↓reduceIte if_true if_false PR QC not_true_eq_false not_false_eq_true Rx Rg ite_true ite_false eq_self exists_eq reduceCtorEq false_and and_false or_false false_or exists_false QI QJ Q7 RL PQ RM Ry QE P9 Qq cT fk gJ fo kF cL mV mW beq_self_eq_true mS mT mU cx sizeLine_eq"
def rzT (n : String) : Lean.MacroM (Lean.TSyntax `tactic) := do
 let ts : Array (Lean.TSyntax `Lean.Parser.Tactic.simpLemma) <- ((n.splitOn " ").toArray).mapM λs =>do
  if s.startsWith "↓" then
   let i := Lean.mkIdent (s.drop 1).toString.toName
   `(Lean.Parser.Tactic.simpLemma| ↓ $i:ident)
  else
   let i := Lean.mkIdent s.toName
   `(Lean.Parser.Tactic.simpLemma| $i:ident)
 `(tactic| simp only [$ts,*])
set_option Elab.async false
set_option linter.all false
set_option maxRecDepth 100000
set_option maxHeartbeats 0
namespace L2
open PySem PySem.Spec PyProof.Rows
abbrev ak:=Sum Int Str
def qV:ak->VM->Bool
 | .inl k,v=>UR k v
 | .inr x,v=>Ve x v
def ET(w:VZ):ak->Int
 | .inl k=>hashInt k
 | .inr x=>hashStr w x
theorem iJ:∀{k:ak}{v:VM},qV k v=true->(∃i t,k=TH i/\v=QU i t)\/(∃x t,k=P7 x/\v=RP x t)
 | .inl i,v,h=>by
  obtain⟨t,e⟩:=UH (k:=i) (v:=v) h;exact .inl ⟨i,t,rfl,e⟩
 | .inr x,v,h=>by
  obtain⟨t,e⟩:=Value.isStrOf_shape (x:=x) (v:=v) h;exact .inr ⟨x,t,rfl,e⟩
theorem EU(i:Int)(t:Tok):qV (.inl i) (.int i t)=true:=by simp [qV,UR]
theorem EV(x:Str)(t:Tok):qV (.inr x) (.str x t)=true:=by simp [qV,Ve]
theorem EW(a b:Int):decide ((TH a:ak)=TH b)=(a==b):=by
 by_cases e:a=b
 ·subst e;simp
 ·have h:¬(TH a:ak)=TH b:=λq=>e (TH.inj q);rw [decide_eq_false h];exact(beq_eq_false_iff_ne.mpr e).symm
theorem EX(a b:Str):decide ((P7 a:ak)=P7 b)=decide (a=b):=by
 by_cases e:a=b
 ·subst e;simp
 ·have h:¬(P7 a:ak)=P7 b:=λq=>e (P7.inj q);rw [decide_eq_false h,decide_eq_false e]
theorem EY(a:Int)(b:Str):decide ((TH a:ak)=P7 b)=false:=decide_eq_false (λq=>nomatch q)
theorem EZ(a:Str)(b:Int):decide ((P7 a:ak)=TH b)=false:=decide_eq_false (λq=>nomatch q)
def dn(prog:VY)(w:VZ):PySem.KeyKind prog w ak where
 is:=qV
 hash:=ET w
 inj:=λv a b ha hb=>by
  rcases iJ ha with⟨i,t,rfl,rfl⟩ | ⟨x,t,rfl,rfl⟩
  ·rcases iJ hb with⟨j,u,rfl,e⟩ | ⟨y,u,rfl,e⟩
   ·injection e with e1 _;rw [e1]
   ·exact nomatch e
  ·rcases iJ hb with⟨j,u,rfl,e⟩ | ⟨y,u,rfl,e⟩
   ·exact nomatch e
   ·injection e with e1 _;rw [e1]
 byValue:=λk v h=>by
  rcases iJ h with⟨i,t,rfl,rfl⟩ | ⟨x,t,rfl,rfl⟩ <;> rfl
 pyHash:=λhv h=>by
  rcases iJ hv with⟨i,t,rfl,rfl⟩ | ⟨x,t,rfl,rfl⟩
  ·exact wpAny_pyHash_int h
  ·exact wpAny_pyHash_str h
 eqBool:=λhu hv h=>by
  rcases iJ hu with⟨i,t,rfl,rfl⟩ | ⟨x,t,rfl,rfl⟩
  ·rcases iJ hv with⟨j,u,rfl,rfl⟩ | ⟨y,u,rfl,rfl⟩
   ·rw [EW] at h;exact wpAny_eqBool_int h
   ·rw [EY] at h;exact SeqAt.EqAt.int_str i t y u _ _ _ _ h
  ·rcases iJ hv with⟨j,u,rfl,rfl⟩ | ⟨y,u,rfl,rfl⟩
   ·rw [EZ] at h;exact Us x t j u _ _ _ _ h
   ·rw [EX] at h;exact wpAny_eqBool_str h
 «strs»:=λk x t v h=>by
  rcases iJ h with⟨i,u,rfl,e⟩ | ⟨y,u,rfl,e⟩
  ·exact nomatch e
  ·injection e with e1 _
   subst e1;cases v <;> rfl
theorem E1(prog:VY)(w:VZ)(i:Int)(t:Tok):(dn prog w).is (.inl i) (.int i t)=true:=EU i t
theorem E2(prog:VY)(w:VZ)(x:Str)(t:Tok):(dn prog w).is (.inr x) (.str x t)=true:=EV x t
open PySem PySem.Spec PyProof.Rows
inductive V where
 | non | bl (b:Bool) | int (i:Int) | str (x:Str) | byt (b:Array UInt8) | flt (b:UInt64) | ref (a:VO) | ty (n:String)
 deriving DecidableEq
def aE:V->VM->Prop
 | .non,u=>u=QY
 | .bl b,u=>u=RC b
 | .int i,u=>∃t,u=QU i t
 | .str x,u=>∃t,u=RP x t
 | .byt b,u=>∃t,u=Vr b t
 | .flt b,u=>∃t,u=Vs b t
 | .ref a,u=>u=Pc a
 | .ty n,u=>u=R6 n
abbrev aK:List V->List VM->Prop:=Paired aE
theorem aK.length{xs:List V}{us:List VM}(r:aK xs us):xs.length=us.length:=Tf r
theorem aK.get:∀{xs:List V}{us:List VM}{i:Nat}{x:V},aK xs us->xs[i]?=some x->∃u,us[i]?=some u/\aE x u
 | _,_,_,_,.nil,e=>by simp at e
 | _,_,0,_,.cons r _,e=>by simp at e;subst e;exact⟨_,rfl,r⟩
 | _,_,i+1,x,.cons _ t,e=>by
  obtain⟨u,h1,h2⟩:=aK.get (i:=i) (x:=x) t (by simpa using e);exact⟨u,by simpa using h1,h2⟩
theorem aK.append:∀{xs ys:List V}{us ws:List VM},aK xs us->aK ys ws->aK (xs++ys) (us++ws)
 | _,_,_,_,.nil,s=>s
 | _,_,_,_,.cons r t,s=>.cons r (aK.append t s)
theorem aK.take:∀{xs:List V}{us:List VM}(n:Nat),aK xs us->aK (xs.take n) (us.take n)
 | _,_,0,_=>.nil
 | _,_,_+1,.nil=>.nil
 | _,_,n+1,.cons r t=>.cons r (aK.take n t)
theorem aK.drop:∀{xs:List V}{us:List VM}(n:Nat),aK xs us->aK (xs.drop n) (us.drop n)
 | _,_,0,r=>r
 | _,_,_+1,.nil=>.nil
 | _,_,n+1,.cons _ t=>aK.drop n t
def dH:Option V->Option VM->Prop
 | some v,some u=>aE v u
 | none,none=>True
 | _,_=>False
def KV{κ:Type}:List (κ×V)->List (κ×VM)->Prop:=Paired λ(p:κ×V) (q:κ×VM)=>p.1=q.1/\aE p.2 q.2
def kV:ak->V
 | .inl i=>.int i
 | .inr x=>.str x
inductive HO where
 | lst (xs:List V)
 | tup (xs:List V)
 | dK (kvs:List (ak×V)) | dT (kvs:List (List ak×V))
 | set (S:Int->Bool) (n:Nat)
 | ins (C dx:VO) (fs:List (Str×V))
 | own (x:VO)
 | xd (fs:List (Str×V))
 | met (f x:VO)
 | rng (lo hi:Int)
 | frz (o:Obj) (u:HO)
 | tbl (ps:Array VM)
 | ext (φ:V0->Prop)
abbrev Hp:=VO->Option HO
def ai(H:Hp)(a:VO)(o:HO):Hp:=λb=>if b=a then some o else H b
theorem bh{H:Hp}{a:VO}{o:HO}:ai H a o a=some o:=by unfold ai;rw [VJ rfl]
theorem az{H:Hp}{a b:VO}{o:HO}(h:b≠a):ai H a o b=H b:=by unfold ai;rw [VI h]
theorem E3{H:Hp}{a:VO}{o u:HO}:ai (ai H a o) a u=ai H a u:=by
 funext b;unfold ai;split <;> rfl
theorem E4{H:Hp}{a b:VO}{o u:HO}(h:H a=some o)(h':H b=some u)(d:o≠u):a≠b:=by
 intro e;subst e;rw [h] at h';exact d (Pf h')
theorem cM{H:Hp}{a b:VO}{o:HO}(h:H a=some o)(h':H b=none):a≠b:=by
 intro e;subst e;rw [h] at h';cases h'
section
variable (P:VY) (w:VZ)
def cb(H:Hp)(h:V0)(a:VO):HO->Prop
 | .lst xs=>xs.length<=VW/\∃(its:List VM)(n:Nat),aK xs its/\h.get? a=some {cls:= .type "list",data:= .seq its.toArray n}
 | .tup xs=>xs.length<=VW/\∃its:List VM,aK xs its/\IsTup h a its.toArray
 | .dK kvs=>kvs.length<=VW/\(a==Wr)=false/\∃vs,KV kvs vs/\h.DictOf (dn P w) a vs
 | .dT kvs=>kvs.length<=VW/\(a==Wr)=false/\∃xs:List (List ak×VO×VM),
  Paired (λ(p:List ak×V) (q:List ak×VO×VM)=>p.1=q.1/\H q.2.1=some (.tup (p.1.map kV))/\aE p.2 q.2.2) kvs xs/\
  ∃o es ep,h.get? a=some o/\o.ExactDict/\o.data= .dict es ep/\es.toList=xs.map (entryOfKey (WY (dn P w)))/\(xs.map (·.1)).Nodup
 | .set S n=>h.SetOf (WQ P w) a S n
 | .ins C dx fs=>H dx=some (.own a)/\fs.length<=1000/\dx≠a/\h.get? a=some (QZ C dx)/\
  ∃mA,h.Ns1 dx mA/\(∀f,dH (fs.lookup f) (mA f))/\Ut mA (fs.map (·.1))
 | .own _=>∃o,h.get? a=some o
 | .xd fs=>∃mA,h.Ns1 a mA/\∀f,dH (fs.lookup f) (mA f)
 | .rng lo hi=>∃t u v,h.get? a=some {cls:= .type "range",data:= .fields #[.int lo t,.int hi u,.int 1 v]}
 | .frz o u=>h.get? a=some o/\cb H h a u
 | .tbl ps=>h.get? a=some {cls:= .none,data:= .fields ps}
 | .met f x=>h.get? a=some (Tr (.ref f) (.ref x))
 | .ext φ=>φ h/\(∃o,h.get? a=some o)/\∀h1 h2:V0,φ h1->(∀o,h1.get? a=some o->h2.get? a=some o)->φ h2
def bG(H:Hp)(h:V0):Prop:=∀a o,H a=some o->cb P w H h a o
end
section
variable {P:VY} {w:VZ} {H H':Hp} {h h':V0} {a:VO} {o:HO}
theorem cb.lt(x:cb P w H h a o):a < h.objs.size:=by
 cases o with
 | lst xs=>obtain⟨_,_,_,_,e⟩:=x;exact OJ e
 | tup xs=>obtain⟨_,_,_,p⟩:=x;exact p.lt
 | dK kvs=>obtain⟨_,_,_,_,o,_,_,e,_⟩:=x;exact OJ e
 | dT kvs=>obtain⟨_,_,_,_,o,_,_,e,_⟩:=x;exact OJ e
 | set S n=>obtain⟨o,_,_,_,e,_⟩:=x;exact OJ e
 | ins C dx fs=>obtain⟨_,_,_,e,_⟩:=x;exact OJ e
 | own y=>obtain⟨_,e⟩:=x;exact OJ e
 | xd fs=>obtain⟨_,⟨_,_,_,e,_⟩,_⟩:=x;exact OJ e
 | rng lo hi=>obtain⟨_,_,_,e⟩:=x;exact OJ e
 | frz ob u=>obtain⟨e,_⟩:=x;exact OJ e
 | tbl ps=>exact OJ (show h.get? a=some _ from x)
 | met f y=>exact OJ (show h.get? a=some _ from x)
 | ext φ=>obtain⟨_,⟨_,e⟩,_⟩:=x;exact OJ e
theorem Paired.mapP{α β:Type}{F G:α->β->Prop}:∀{l₁:List α}{l₂:List β},Paired F l₁ l₂->(∀a b,F a b->G a b)->Paired G l₁ l₂
 | _,_,.nil,_=>.nil
 | _,_,.cons r t,f=>.cons (f _ _ r) (Paired.mapP t f)
theorem cb.stay(x:cb P w H h a o)(k:∀b u,(b=a\/H b=some (.own a))->h.get? b=some u->h'.get? b=some u)
 (ho:∀b,H b=some (.own a)->H' b=some (.own a))(ht:∀b xs,H b=some (.tup xs)->H' b=some (.tup xs)):cb P w H' h' a o:=by
 induction o with
 | lst xs=>obtain⟨z,its,n,r,e⟩:=x;exact⟨z,its,n,r,k _ _ (.inl rfl) e⟩
 | tup xs=>obtain⟨z,its,r,ob,e,c⟩:=x;exact⟨z,its,r,ob,k _ _ (.inl rfl) e,c⟩
 | dK kvs=>obtain⟨z,y,vs,r,ob,es,ep,e,c⟩:=x;exact⟨z,y,vs,r,ob,es,ep,k _ _ (.inl rfl) e,c⟩
 | dT kvs=>
  obtain⟨z,y,xs,r,ob,es,ep,e,c⟩:=x;exact⟨z,y,xs,Paired.mapP r λp q z=>⟨z.1,ht _ _ z.2.1,z.2.2⟩,ob,es,ep,k _ _ (.inl rfl) e,c⟩
 | set S n=>obtain⟨ob,es,ep,t,e,c⟩:=x;exact⟨ob,es,ep,t,k _ _ (.inl rfl) e,c⟩
 | ins C dx fs=>
  obtain⟨d,z,ne,e,mA,⟨od,es,ep,e2,c⟩,r⟩:=x;exact⟨ho _ d,z,ne,k _ _ (.inl rfl) e,mA,⟨od,es,ep,k _ _ (.inr d) e2,c⟩,r⟩
 | own y=>obtain⟨ob,e⟩:=x;exact⟨ob,k _ _ (.inl rfl) e⟩
 | xd fs=>obtain⟨mA,⟨od,es,ep,e,c⟩,r⟩:=x;exact⟨mA,⟨od,es,ep,k _ _ (.inl rfl) e,c⟩,r⟩
 | rng lo hi=>obtain⟨t,u,v,e⟩:=x;exact⟨t,u,v,k _ _ (.inl rfl) e⟩
 | frz ob u ih=>obtain⟨e,q⟩:=x;exact⟨k _ _ (.inl rfl) e,ih q⟩
 | tbl ps=>
  have e:h.get? a=some {cls:= .none,data:= .fields ps}:=x;show h'.get? a=some {cls:= .none,data:= .fields ps};exact k a _ (.inl rfl) e
 | met f y=>
  have e:h.get? a=some (Tr (.ref f) (.ref y)):=x;show h'.get? a=some (Tr (.ref f) (.ref y));exact k a _ (.inl rfl) e
 | ext φ=>obtain⟨p,⟨o,e⟩,st⟩:=x;exact⟨st _ _ p λo q=>k _ _ (.inl rfl) q,⟨o,k _ _ (.inl rfl) e⟩,st⟩
theorem bG.lt(x:bG P w H h)(e:H a=some o):a < h.objs.size:=(x a o e).lt
theorem bG.fresh(x:bG P w H h)(e:h.objs.size<=a):H a=none:=by
 cases q:H a with
 | none=>rfl
 | some u=>exact absurd (Py (x.lt q) e) (QO _)
theorem bG.kept(x:bG P w H h)(k:∀b u,h.get? b=some u->h'.get? b=some u):bG P w H h':=λa o e=>
 (x a o e).stay (λb u _ q=>k b u q) (λ_ q=>q) λ_ _ q=>q
theorem bG.laid(x:bG P w H h)(k:∀b u,h.get? b=some u->h'.get? b=some u)(hp:h.objs.size<=a)(new:cb P w (ai H a o) h' a o):bG P w (ai H a o) h':=λb u e=>by
 have hn:=x.fresh hp;by_cases hb:b=a
 ·subst hb;rw [bh] at e;cases e;exact new
 ·rw [az hb] at e;exact(x b u e).stay (λc v _ q=>k c v q) (λc q=>by rw [az (cM q hn)];exact q) λc xs q=>by rw [az (cM q hn)];exact q
end
def Rd(H:Hp)(a:VO)(u:HO):Prop:=H a=some u\/∃o,H a=some (.frz o u)
theorem Rd.ok{P:VY}{w:VZ}{H:Hp}{h:V0}{a:VO}{u:HO}(r:Rd H a u)(x:bG P w H h):cb P w H h a u:=by
 rcases r with r | ⟨o,r⟩
 ·exact x a u r
 ·obtain⟨_,q⟩:=x a _ r;exact q
def sj:Option HO->Prop
 | some (.lst _)=>True
 | some (.dK _)=>True
 | some (.dT _)=>True
 | some (.set _ _)=>True
 | some (.ins _ _ _)=>True
 | some (.ext _)=>True
 | _=>False
section
variable {P:VY} {w:VZ} {H:Hp} {h h':V0} {x e:VO} {o':HO}
theorem bG.write(ok:bG P w H h)(mu:sj (H x))(he:e=x\/H e=some (.own x))(k:∀b u,b≠e->h.get? b=some u->h'.get? b=some u)(heo:∃u,h'.get? e=some u)
 (new:cb P w (ai H x o') h' x o'):bG P w (ai H x o') h':=λb u q=>by
 have nown:∀c y,H c=some (.own y)->c≠x:=λc y r z=>by subst z;rw [r] at mu;exact mu
 have ntup:∀c xs,H c=some (.tup xs)->c≠x:=λc xs r z=>by subst z;rw [r] at mu;exact mu
 by_cases hb:b=x
 ·subst hb;rw [bh] at q;cases q;exact new
 ·rw [az hb] at q;by_cases hbe:b=e
  ·have q':H b=some (.own x):=by
    rcases he with z | z
    ·exact absurd (hbe.trans z) hb
    ·rw [hbe];exact z
   rw [q] at q';cases q';obtain⟨v,hv⟩:=heo;exact⟨v,by rw [hbe];exact hv⟩
  ·refine(ok b u q).stay (λc v hc r=>k c v ?_ r) (λc r=>by rw [az (nown c b r)];exact r) λc xs r=>by rw [az (ntup c xs r)];exact r
   rcases hc with rfl | hc
   ·exact hbe
   ·rintro rfl;rcases he with z | z
    ·exact nown c b hc z
    ·rw [hc] at z;cases z;exact hb rfl
end
structure Un (fs ex:List VO) (H H':Hp) (h h':V0):Prop where
 keep:∀b o,h.get? b=some o->H b=none->b ∉ fs->b ∉ ex->h'.get? b=some o
 slot:∀b o,h.get? b=some o->H b=none->b∈fs->b ∉ ex->∃sl,h'.get? b=some {o with slots:=sl}
 free:∀b o,h.get? b=some o->H b=none->b ∉ ex->H' b=none
 there:∀b o,h.get? b=some o->b ∉ ex->∃o',h'.get? b=some o'
 tups:∀b xs,H b=some (.tup xs)->H' b=some (.tup xs)
 frzs:∀b o u,H b=some (.frz o u)->H' b=some (.frz o u)
 tbls:∀b ps,H b=some (.tbl ps)->∃more,H' b=some (.tbl (ps++more))
section
variable {fs fs' ex ex':List VO} {H H1 H2:Hp} {h h1 h2 h':V0} {a x e:VO} {o:HO}
theorem Un.any(u:Un fs ex H H1 h h1){b:VO}{ob:Obj}(q:h.get? b=some ob)(n:H b=none)(hx:b ∉ ex):∃sl,h1.get? b=some {ob with slots:=sl}:=by
 by_cases hb:b∈fs
 ·exact u.slot b ob q n hb hx
 ·exact⟨ob.slots,u.keep b ob q n hb hx⟩
theorem Un.kept(k:∀b u,h.get? b=some u->h'.get? b=some u):Un fs ex H H h h':=
 ⟨λb ob q _ _ _=>k b ob q,λb ob q _ _ _=>⟨ob.slots,k b ob q⟩,λ_ _ _ n _=>n,λb ob q _=>⟨ob,k b ob q⟩,λ_ _ q=>q,λ_ _ _ q=>q,λ_ ps q=>⟨#[],by rw [q];simp⟩⟩
theorem Un.refl:Un fs ex H H h h:=Un.kept λ_ _ q=>q
theorem Un.laid(k:∀b u,h.get? b=some u->h'.get? b=some u)(hp:h.objs.size<=a)(hn:H a=none):Un fs ex H (ai H a o) h h' where
 keep:=λb u q _ _ _=>k b u q
 slot:=λb u q _ _ _=>⟨u.slots,k b u q⟩
 free:=λb u q n _=>by rw [az (OV (Py (OJ q) hp))];exact n
 there:=λb u q _=>⟨u,k b u q⟩
 tups:=λb xs q=>by rw [az (cM q hn)];exact q
 frzs:=λb u xs q=>by rw [az (cM q hn)];exact q
 tbls:=λb ps q=>⟨#[],by rw [az (cM q hn),q];simp⟩
theorem Un.write(mu:sj (H x))(he:e=x\/H e=some (.own x))(k:∀b u,b≠e->h.get? b=some u->h'.get? b=some u)(heo:∃u,h'.get? e=some u):Un fs ex H (ai H x o) h h':=by
 have hx:∀b,H b=none->b≠x:=λb n z=>by subst z;rw [n] at mu;exact mu
 have hb:∀b,H b=none->b≠e:=λb n z=>by
  subst z;rcases he with r | r
  ·exact hx b n r
  ·rw [n] at r;cases r
 have hm:∀b u,H b=some u->¬sj (some u)->b≠x:=λb u q nm z=>by subst z;rw [q] at mu;exact nm mu
 refine⟨λb u q n _ _=>k b u (hb b n) q,λb u q n _ _=>⟨u.slots,k b u (hb b n) q⟩,λb u q n _=>by rw [az (hx b n)];exact n,λb u q _=>?_,
  λb xs q=>by rw [az (hm b _ q λz=>z)];exact q,λb u xs q=>by rw [az (hm b _ q λz=>z)];exact q,λb ps q=>⟨#[],by rw [az (hm b _ q λz=>z),q];simp⟩⟩
 by_cases hbe:b=e
 ·subst hbe;exact heo
 ·exact⟨u,k b u hbe q⟩
end
def trk(h:V0)(H:Hp):List VO:=(Qa h.objs.size).filter λa=>(H a).isSome
def jN(h:V0)(H:Hp):V0:=PySem.W.hideAll h (trk h H)
theorem E5(h:V0)(H:Hp):(jN h H).objs.size=h.objs.size:=PySem.W.hideAll_size _ _
theorem E6{h:V0}{H:Hp}{b:VO}{o:Obj}(e:h.get? b=some o)(n:H b=none):(jN h H).get? b=some o:=
 PySem.W.hideAll_get _ e λhm=>by
  have q:(H b).isSome=true:=(Pa.mp hm).2;rw [n] at q;simp at q
theorem E7{h:V0}{H:Hp}{b:VO}{o:Obj}(e:(jN h H).get? b=some o):h.get? b=some o/\H b=none:=by
 have e':h.get? b=some o:=PySem.W.of_hideAll (trk h H) e;refine⟨e',?_⟩;cases q:H b with
 | none=>rfl
 | some x=>
  have hm:b∈trk h H:=Pa.mpr ⟨RZ.mpr (OJ e'),by simp [q]⟩;have z:(jN h H).get? b=none:=PySem.W.hideAll_none (trk h H) hm;rw [z] at e;cases e
def E8(g h:V0)(L:VO):List (VO×Obj):=(Qa h.objs.size).filterMap λa=>if a=L\/(g.get? a).isSome=true then none else(h.get? a).map λo=>(a,o)
def rest(g h:V0)(L d:VO):List (VO×Obj):=(E8 g h L).filter λp=>decide (p.1≠d)
open PySem PySem.Spec PyProof.Rows
structure Mod (K:Oe) (mg:Str->Option VM) (base:V0):Prop where
 kin:K.In base
 glob:base.Ns VR mg
 blt:∃mb,base.Ns builtinsNs mb/\∀x:Str,x≠"__name__"->mb x=V9 x
 nolimit:base.NoLimit
structure Cx where
 prog:VY
 w:VZ
 K:Oe
 mg:Str->Option VM
 base:V0
 A:V2
 N:List Str
 s₀:VP
 H₀:Hp
 env:Env
 outer:List Env
 stack:List Env
 ex:List VO
 fn:Str->Bool
 calm:Bool
 pn:List (VO×Obj)
 xe:VM->VP->Prop
def fU(l:List Env):List VO:=l.filterMap (·.frame)
abbrev Cx.fs(X:Cx):List VO:=fU X.outer
def sk(sc:Wn)(x:Str):Prop:=sc.names.lookup x=some .local\/sc.names.lookup x=some .cell\/sc.names.lookup x=some .free
def gC(sc:Wn)(x:Str):Prop:=sc.names.lookup x=some .local\/sc.names.lookup x=some .cell
def E9(env:Env)(h:V0)(m:Str->Option VM)(x:Str)(u:VM):Prop:=
 (env.kindOf x=some .local/\m x=some u)\/((env.kindOf x=some .cell\/env.kindOf x=some .free)/\∃c,env.cells.lookup x=some c/\h.IsCell c (some u))
structure Cx.Ok (X:Cx):Prop where
 mod:Mod X.K X.mg X.base
 kind:X.env.scope.kind= .function
 glob:X.env.globals=VR
 blt:X.env.builtins=builtinsNs
 above:X.s₀.heap.objs.size<=X.env.locals
 inj:∀x y c,X.env.cells.lookup x=some c->X.env.cells.lookup y=some c->x=y
 has:∀x,(X.env.kindOf x=some .cell\/X.env.kindOf x=some .free)->∃c,X.env.cells.lookup x=some c
 cab:∀x c,X.fn x=true->X.env.cells.lookup x=some c->X.s₀.heap.objs.size<=c
 hd:X.calm=true->X.A.handled=none
 frames:X.A.frames=some X.stack
 stk:X.stack=X.outer\/(X.stack=X.env::X.outer/\X.env.frame=some X.env.locals)
 exf:∀b∈X.ex,b≠X.env.locals/\∀x c,X.env.cells.lookup x=some c->c≠b
 bs:∀b o,X.base.get? b=some o->X.s₀.heap.get? b=some o/\X.H₀ b=none
 bsz:X.base.objs.size<=X.s₀.heap.objs.size
 noex:∀b o,X.base.get? b=some o->b ∉ X.ex
 exfs:∀b∈X.ex,b ∉ X.fs
 funs:X.s₀.heap.FunFrames X.base X.outer
 frf:∀b∈X.fs,X.H₀ b=none
structure af (X:Cx) (pins:List (VO×Obj)) (σ:List (Option V)) (H:Hp) (s:VP):Prop where
 ok:X.Ok
 os:s.os=X.s₀.os
 bare:WZ s.gens
 base:Un X.fs X.ex X.H₀ H X.s₀.heap s.heap
 loc:∃m,s.heap.Ns X.env.locals m/\∀(i:Nat)(x:Str)(v:V),X.N[i]?=some x->σ[i]?=some (some v)->sk X.env.scope x->∃u,aE v u/\E9 X.env s.heap m x u
 cell:∀x c,X.env.cells.lookup x=some c->∃v,s.heap.IsCell c v
 free:H X.env.locals=none
 freeC:∀x c,X.env.cells.lookup x=some c->H c=none
 pin:∀p∈X.pn++pins,s.heap.get? p.1=some p.2/\H p.1=none/\p.1≠X.env.locals/\p.1 ∉ X.fs/\∀v,p.2.data≠ .cell v
 hok:bG X.prog X.w H s.heap
 len:σ.length=X.N.length
section
variable {X:Cx} {pins:List (VO×Obj)} {σ:List (Option V)} {H H':Hp} {s:VP} {h':V0}
theorem Cx.Ok.nofr(ok:X.Ok){b:VO}{o:Obj}(e:X.base.get? b=some o):b ∉ X.fs:=λhb=>by
 have:=(ok.funs.mem hb).1;rw [e] at this;cases this
theorem af.bs(I:af X pins σ H s):∀b o,X.base.get? b=some o->s.heap.get? b=some o/\H b=none:=λb o e=>
 ⟨I.base.keep b o (I.ok.bs b o e).1 (I.ok.bs b o e).2 (I.ok.nofr e) (I.ok.noex b o e),I.base.free b o (I.ok.bs b o e).1 (I.ok.bs b o e).2 (I.ok.noex b o e)⟩
theorem af.bk(I:af X pins σ H s):∀b o,X.base.get? b=some o->s.heap.get? b=some o:=λb o e=>(I.bs b o e).1
theorem af.mod(I:af X pins σ H s):Mod X.K X.mg X.base:=I.ok.mod
theorem af.kIn(I:af X pins σ H s):X.K.In s.heap:=I.ok.mod.kin.keeps I.bk
theorem af.fr(I:af X pins σ H s):∃m,Fr X.base X.env.locals s.heap m:=
 let ⟨m,hn,_⟩:=I.loc
 ⟨m,hn,I.bk,O6 I.ok.bsz I.ok.above⟩
theorem af.lt(I:af X pins σ H s):X.env.locals < s.heap.objs.size:=let ⟨_,hn,_⟩:=I.loc;hn.lt
theorem af.sz(I:af X pins σ H s):X.s₀.heap.objs.size<=s.heap.objs.size:=O6 I.ok.above (Rj I.lt)
theorem af.nofs(I:af X pins σ H s){a:VO}(h:s.heap.objs.size<=a):a ∉ X.fs:=λhb=>by
 obtain⟨_,o,ho,_⟩:=I.ok.funs.mem hb;exact absurd (Py (OJ ho) (O6 I.sz h)) (QO _)
theorem af.cne(I:af X pins σ H s):∀x c,X.env.cells.lookup x=some c->c≠X.env.locals:=λx c e z=>by
 obtain⟨v,o,ho,hd⟩:=I.cell x c e;obtain⟨m,⟨o',es,ep,ho',hd',_⟩,_⟩:=I.loc;rw [z,ho'] at ho;cases ho;rw [hd'] at hd;cases hd
theorem af.funs(I:af X pins σ H s):s.heap.FunFrames X.base X.outer:=by
 have all:∀(l:List Env),(∀b∈fU l,b∈X.fs)->X.s₀.heap.FunFrames X.base l->s.heap.FunFrames X.base l:=by
  intro l
  induction l with
  | nil=>intro _ _;trivial
  | cons env r ih=>
   intro hs hl;obtain⟨hk,⟨L,o,hf,hn,ho,hd⟩,hr⟩:=hl;have hL:L∈X.fs:=hs L (by unfold fU;rw [Pu,hf];exact O8);obtain⟨sl,e⟩:=I.base.slot L o ho (I.ok.frf L hL) hL λz=>I.ok.exfs L z hL;exact⟨hk,⟨L,_,hf,hn,e,hd⟩,ih (λb hb=>hs b (by unfold fU;rw [Pu,hf];exact OQ _ hb)) hr⟩
 exact all X.outer (λ_ hb=>hb) I.ok.funs
theorem af.stack(I:af X pins σ H s):s.heap.FunFrames X.base X.stack:=by
 rcases I.ok.stk with e | ⟨e,hf⟩
 ·rw [e];exact I.funs
 ·rw [e];obtain⟨m,hn,_⟩:=I.loc;refine .cons (by rw [I.ok.kind];decide) hf hn ?_ I.funs;exact Heap.get?_none_of_le (O6 I.ok.bsz I.ok.above)
theorem af.stkSub(I:af X pins σ H s):∀b∈fU X.stack,b∈X.env.locals::X.fs:=λb hb=>by
 rcases I.ok.stk with e | ⟨e,hf⟩
 ·rw [e] at hb;exact OQ _ hb
 ·rw [e] at hb;unfold fU at hb;rw [Pu,hf] at hb;exact hb
theorem af.stkFree(I:af X pins σ H s):∀b∈fU X.stack,H b=none:=λb hb=>by
 rcases OA.mp (I.stkSub b hb) with e | hb
 ·rw [e];exact I.free
 ·obtain⟨_,o,ho,_⟩:=I.ok.funs.mem hb;exact I.base.free b o ho (I.ok.frf b hb) λz=>I.ok.exfs b z hb
theorem af.step{g':Array Xp}{t':Nat}{d':Drawn}{ch:List VO}(I:af X pins σ H s)
 (hch:∀b∈ch,(b∈X.ex\/X.s₀.heap.objs.size<=b)/\b≠X.env.locals/\(∀x c,X.env.cells.lookup x=some c->c≠b)/\∀p∈X.pn++pins,p.1≠b)
 (keep:∀b o,b≠X.env.locals->b ∉ X.fs->b ∉ ch->s.heap.get? b=some o->H b=none->h'.get? b=some o)
 (slot:∀b o,b≠X.env.locals->b∈X.fs->b ∉ ch->s.heap.get? b=some o->H b=none->∃sl,h'.get? b=some {o with slots:=sl})(free:∀b o,b ∉ ch->s.heap.get? b=some o->H b=none->H' b=none)
 (there:∀b o,b ∉ ch->s.heap.get? b=some o->∃o',h'.get? b=some o')
 (tups:∀b xs,H b=some (.tup xs)->H' b=some (.tup xs))(frzs:∀b o u,H b=some (.frz o u)->H' b=some (.frz o u))(tbls:∀b ps,H b=some (.tbl ps)->∃more,H' b=some (.tbl (ps++more)))
 (ns:∀m,s.heap.Ns X.env.locals m->h'.Ns X.env.locals m)(hok:bG X.prog X.w H' h')(hg:WZ g'):
 af X pins σ H' {s with heap:=h',gens:=g',drawn:=d',toks:=t'}:=by
 have neL:∀b o,X.s₀.heap.get? b=some o->b≠X.env.locals:=λb o e=>OV (Py (OJ e) I.ok.above);have neC:∀b o,X.s₀.heap.get? b=some o->b ∉ X.ex->b ∉ ch:=λb o e hx hb=>by
  rcases(hch b hb).1 with z | z
  ·exact hx z
  ·exact absurd (Py (OJ e) z) (QO _)
 have cellK:∀x c,X.env.cells.lookup x=some c->∀v,s.heap.IsCell c v->h'.IsCell c v:=λx c e v uu1=>by
  obtain⟨o,ho,hd⟩:=uu1;have nch:c ∉ ch:=λz=>(hch c z).2.2.1 x c e rfl;by_cases hc:c∈X.fs
  ·obtain⟨sl,q⟩:=slot c o (I.cne x c e) hc nch ho (I.freeC x c e);exact⟨_,q,hd⟩
  ·exact⟨o,keep c o (I.cne x c e) hc nch ho (I.freeC x c e),hd⟩
 refine⟨I.ok,I.os,hg,⟨λb o e n hb hx=>?_,λb o e n hb hx=>?_,λb o e n hx=>?_,λb o e hx=>?_,λb xs e=>tups b xs (I.base.tups b xs e),λb o xs e=>frzs b o xs (I.base.frzs b o xs e),λb ps e=>?_⟩,?_,λx c e=>?_,?_,λx c e=>?_,λp hp=>?_,hok,I.len⟩
 ·exact keep b o (neL b o e) hb (neC b o e hx) (I.base.keep b o e n hb hx) (I.base.free b o e n hx)
 ·obtain⟨sl,e1⟩:=I.base.slot b o e n hb hx;obtain⟨sl',e2⟩:=slot b _ (neL b o e) hb (neC b o e hx) e1 (I.base.free b o e n hx);exact⟨sl',e2⟩
 ·obtain⟨o',e1⟩:=I.base.there b o e hx;exact free b o' (neC b o e hx) e1 (I.base.free b o e n hx)
 ·obtain⟨o',e1⟩:=I.base.there b o e hx;exact there b o' (neC b o e hx) e1
 ·obtain⟨m1,e1⟩:=I.base.tbls b ps e;obtain⟨m2,e2⟩:=tbls b _ e1;exact⟨m1++m2,by rw [e2,Array.append_assoc]⟩
 ·obtain⟨m,hn,hl⟩:=I.loc;refine⟨m,ns m hn,λi x v e1 e2 e3=>?_⟩;obtain⟨u,r,l⟩:=hl i x v e1 e2 e3;refine⟨u,r,?_⟩;rcases l with l | ⟨k,c,e,z⟩
  ·exact .inl l
  ·exact .inr ⟨k,c,e,cellK x c e _ z⟩
 ·obtain⟨v,z⟩:=I.cell x c e;exact⟨v,cellK x c e v z⟩
 ·obtain⟨m,⟨o,_,_,ho,_⟩,_⟩:=I.loc;exact free _ o (λz=>(hch _ z).2.1 rfl) ho I.free
 ·obtain⟨v,o,ho,hd⟩:=I.cell x c e;exact free c o (λz=>(hch c z).2.2.1 x c e rfl) ho (I.freeC x c e)
 ·obtain⟨e,n,ne,nf,d⟩:=I.pin p hp;have nch:p.1 ∉ ch:=λz=>(hch p.1 z).2.2.2 p hp rfl;exact⟨keep p.1 p.2 ne nf nch e n,free p.1 p.2 nch e n,ne,nf,d⟩
theorem af.un{t':Nat}(I:af X pins σ H s)(u:Un X.fs [] H H' s.heap h')(hok:bG X.prog X.w H' h'):af X pins σ H' {s with heap:=h',toks:=t'}:=by
 obtain⟨m,⟨o,es,ep,ho,r⟩,_⟩:=id I.loc;obtain⟨sl,hL⟩:=u.any ho I.free (by simp);exact I.step (g':=s.gens) (d':=s.drawn) (ch:=[]) (λ_ z=>nomatch z) (λb o _ hb _ e n=>u.keep b o e n hb (by simp)) (λb o _ hb _ e n=>u.slot b o e n hb (by simp)) (λb o _ e n=>u.free b o e n (by simp)) (λb o _ e=>u.there b o e (by simp)) u.tups u.frzs u.tbls (λm' hm=>by
  obtain⟨o',es',ep',ho',r'⟩:=hm;rw [ho] at ho';cases ho';exact⟨_,es',ep',hL,r'⟩) hok I.bare
theorem af.call{g':Array Xp}{t':Nat}{d':Drawn}{ch:List VO}(I:af X pins σ H s)(u:Un (fU X.stack) ch H H' s.heap h')(hok:bG X.prog X.w H' h')(hg:WZ g')
 (hch:∀b∈ch,(b∈X.ex\/X.s₀.heap.objs.size<=b)/\b≠X.env.locals/\(∀x c,X.env.cells.lookup x=some c->c≠b)/\∀p∈X.pn++pins,p.1≠b):
 af X pins σ H' {s with heap:=h',gens:=g',drawn:=d',toks:=t'}:=by
 obtain⟨m,⟨o,es,ep,ho,r⟩,_⟩:=id I.loc;obtain⟨sl,hL⟩:=u.any ho I.free λz=>(hch _ z).2.1 rfl;exact I.step (ch:=ch) hch (λb o hL hb hc e n=>u.keep b o e n (λz=>(OA.mp (I.stkSub b z)).elim hL hb) hc) (λb o _ _ hc e n=>u.any e n hc) (λb o hc e n=>u.free b o e n hc) (λb o hc e=>u.there b o e hc) u.tups u.frzs u.tbls (λm' hm=>by
  obtain⟨o',es',ep',ho',r'⟩:=hm;rw [ho] at ho';cases ho';exact⟨_,es',ep',hL,r'⟩) hok hg
theorem af.turned{t':Nat}{it:VO}(I:af X pins σ H s)(k:∀b o,b≠it->s.heap.get? b=some o->h'.get? b=some o)(hn:H it=none)(hL:it≠X.env.locals)
 (h1:it∈X.ex\/X.s₀.heap.objs.size<=it)(h2:∀x c,X.env.cells.lookup x=some c->c≠it)(h3:∀p∈X.pn++pins,p.1≠it):af X pins σ H {s with heap:=h',toks:=t'}:=by
 have nit:∀b u,H b=some u->b≠it:=λb u e z=>by rw [z,hn] at e;cases e
 refine I.step (g':=s.gens) (d':=s.drawn) (ch:=[it]) (λb hb=>?_) (λb o _ _ hc e _=>k b o (λz=>hc (by simp [z])) e) (λb o _ _ hc e _=>⟨o.slots,k b o (λz=>hc (by simp [z])) e⟩) (λ_ _ _ _ n=>n)
  (λb o hc e=>⟨o,k b o (λz=>hc (by simp [z])) e⟩) (λ_ _ e=>e) (λ_ _ _ e=>e) (λb ps e=>⟨#[],by rw [e];simp⟩) (λm hm=>?_) (λb u e=>?_) I.bare
 ·have e:b=it:=by simpa using hb
  subst e;exact⟨h1,hL,h2,h3⟩
 ·obtain⟨o,es,ep,ho,r⟩:=hm;exact⟨o,es,ep,k _ o (Ne.symm hL) ho,r⟩
 ·refine(I.hok b u e).stay (λc v hc q=>k c v ?_ q) (λ_ q=>q) λ_ _ q=>q;rcases hc with z | z
  ·rw [z];exact nit b u e
  ·exact nit c _ z
theorem af.tok(I:af X pins σ H s)(t:Nat):af X pins σ H {s with toks:=t}:=I.un (h':=s.heap) (t':=t) Un.refl I.hok
theorem af.kept{t':Nat}(I:af X pins σ H s)(k:∀b u,s.heap.get? b=some u->h'.get? b=some u):af X pins σ H {s with heap:=h',toks:=t'}:=I.un (Un.kept k) (I.hok.kept k)
theorem af.laid{a:VO}{o:HO}{t':Nat}(I:af X pins σ H s)(k:∀b u,s.heap.get? b=some u->h'.get? b=some u)(hp:s.heap.objs.size<=a)(new:cb X.prog X.w (ai H a o) h' a o):
 af X pins σ (ai H a o) {s with heap:=h',toks:=t'}:=I.un (Un.laid k hp (I.hok.fresh hp)) (I.hok.laid k hp new)
theorem af.write{x e:VO}{o:HO}{t':Nat}(I:af X pins σ H s)(mu:sj (H x))(he:e=x\/H e=some (.own x))(k:∀b u,b≠e->s.heap.get? b=some u->h'.get? b=some u)(heo:∃u,h'.get? e=some u)
 (new:cb X.prog X.w (ai H x o) h' x o):af X pins σ (ai H x o) {s with heap:=h',toks:=t'}:=I.un (Un.write mu he k heo) (I.hok.write mu he k heo new)
theorem af.weak{σ':List (Option V)}(I:af X pins σ H s)(hl:σ'.length=σ.length)(w:∀(i:Nat) v,σ'[i]?=some (some v)->σ[i]?=some (some v)):af X pins σ' H s:=
 ⟨I.ok,I.os,I.bare,I.base,let ⟨m,hn,hl'⟩:=I.loc;⟨m,hn,λi x v e1 e2 e3=>hl' i x v e1 (w i v e2) e3⟩,I.cell,I.free,I.freeC,I.pin,I.hok,hl.trans I.len⟩
theorem af.pins_of{pins':List (VO×Obj)}(I:af X pins σ H s)(h:∀p∈pins',s.heap.get? p.1=some p.2/\H p.1=none/\p.1≠X.env.locals/\p.1 ∉ X.fs/\∀v,p.2.data≠ .cell v):af X pins' σ H s:=
 ⟨I.ok,I.os,I.bare,I.base,I.loc,I.cell,I.free,I.freeC,λp hp=>(OL.mp hp).elim (λz=>I.pin p (R7 _ z)) (h p),I.hok,I.len⟩
theorem yP{N:List Str}(hN:N.Nodup){i j:Nat}{x:Str}(a:N[i]?=some x)(b:N[j]?=some x):i=j:=by
 obtain⟨h1,e1⟩:=OB.mp a;obtain⟨h2,e2⟩:=OB.mp b;exact(SN hN).mp (e1.trans e2.symm)
theorem yQ{M:Model}{A:V2}{E:VM->VP->Prop}{i:Nat}{x:Str}{v:V}{u:VM}{Q:Unit->VP->Prop}(I:af X pins σ H s)(hN:X.N.Nodup)(hi:X.N[i]?=some x)(hx:gC X.env.scope x)(r:aE v u)
 (h:∀s',af X pins (σ.set i (some v)) H s'->(∃a,Q0 a s.heap s'.heap/\(a=X.env.locals\/X.env.cells.lookup x=some a))->Q () s')(hf:X.fn x=true\/X.env.scope.names.lookup x=some .local:=by first | exact .inl rfl | exact .inr rfl | assumption):VS M A (storeName X.env x u) Q E s:=by
 obtain⟨m,hn,hl⟩:=id I.loc;have hcls:(X.env.scope.kind== .class || (X.env.scope.kind== .module && X.env.locals !=X.env.globals))=false:=by rw [I.ok.kind];rfl
 have hiσ:i < σ.length:=by rw [I.len];exact(OB.mp hi).1
 have cne:=I.cne;have tracked:∀{a:VO}{h':V0},(∃o,s.heap.get? a=some o/\H a=none)->Q0 a s.heap h'->bG X.prog X.w H h':=λ{a h'} ha hs b ob e=>by
  obtain⟨_,_,hfree⟩:=ha;refine(I.hok b ob e).stay (λc w' hc q=>(hs.2 c ?_).trans q) (λ_ q=>q) λ_ _ q=>q;rintro rfl;rcases hc with rfl | hc
  ·rw [hfree] at e;cases e
  ·rw [hfree] at hc;cases hc
 rcases hx with hk | hk
 ·refine wpAny_storeName_local hk hn (λh' hn' hs=>?_) hcls;obtain⟨oL,_,_,hoL,_⟩:=id hn;refine h _ ⟨I.ok,I.os,I.bare,⟨λb o e n hb hx=>?_,λb o e n hb hx=>?_,I.base.free,λb o e hx=>?_,I.base.tups,I.base.frzs,I.base.tbls⟩,⟨_,hn',λj y v' e1 e2 e3=>?_⟩,λy c e=>?_,I.free,I.freeC,λp hp=>?_,tracked ⟨oL,hoL,I.free⟩ hs,by simpa using I.len⟩ ⟨_,hs,.inl rfl⟩
  ·exact(hs.2 b (OV (Py (OJ e) I.ok.above))).trans (I.base.keep b o e n hb hx)
  ·obtain⟨sl,e1⟩:=I.base.slot b o e n hb hx;exact⟨sl,(hs.2 b (OV (Py (OJ e) I.ok.above))).trans e1⟩
  ·obtain⟨o',e1⟩:=I.base.there b o e hx;exact⟨o',(hs.2 b (OV (Py (OJ e) I.ok.above))).trans e1⟩
  ·by_cases hj:j=i
   ·subst hj;rw [hi] at e1;cases e1;rw [OS hiσ] at e2;cases e2;exact⟨u,r,.inl ⟨hk,by simp⟩⟩
   ·rw [OG (Ne.symm hj)] at e2;obtain⟨u',r',q⟩:=hl j y v' e1 e2 e3;refine⟨u',r',?_⟩;rcases q with⟨k,e⟩ | ⟨k,c,e,z⟩
    ·refine .inl ⟨k,?_⟩;have:y≠x:=λe=>hj (yP hN e1 (e▸hi));simp [this,e]
    ·exact .inr ⟨k,c,e,z.sameBut hs (cne y c e)⟩
  ·obtain⟨w',z⟩:=I.cell y c e;exact⟨w',z.sameBut hs (cne y c e)⟩
  ·obtain⟨e,n,ne,nf,d⟩:=I.pin p hp;exact⟨(hs.2 p.1 ne).trans e,n,ne,nf,d⟩
 ·have hfn:X.fn x=true:=by
   rcases hf with z | z
   ·exact z
   ·rw [z] at hk;cases hk
  obtain⟨c,hc⟩:=I.ok.has x (.inl hk);obtain⟨w',z⟩:=I.cell x c hc;refine wpAny_storeName_cell I.ok.kind hk hc z (λh' hc' hs=>?_);obtain⟨oc,hoc,hocd⟩:=id z;refine h {s with heap:=h'} ⟨I.ok,I.os,I.bare,⟨λb o e n hb hx=>?_,λb o e n hb hx=>?_,I.base.free,λb o e hx=>?_,I.base.tups,I.base.frzs,I.base.tbls⟩,⟨m,hn.sameBut hs (Ne.symm (cne x c hc)),λj y v' e1 e2 e3=>?_⟩,λy c' e=>?_,I.free,I.freeC,λp hp=>?_,tracked ⟨oc,hoc,I.freeC x c hc⟩ hs,by simpa using I.len⟩ ⟨c,hs,.inr hc⟩
  ·exact(hs.2 b (OV (Py (OJ e) (I.ok.cab x c hfn hc)))).trans (I.base.keep b o e n hb hx)
  ·obtain⟨sl,e1⟩:=I.base.slot b o e n hb hx;exact⟨sl,(hs.2 b (OV (Py (OJ e) (I.ok.cab x c hfn hc)))).trans e1⟩
  ·obtain⟨o',e1⟩:=I.base.there b o e hx;exact⟨o',(hs.2 b (OV (Py (OJ e) (I.ok.cab x c hfn hc)))).trans e1⟩
  ·by_cases hj:j=i
   ·subst hj;rw [hi] at e1;cases e1;rw [OS hiσ] at e2;cases e2;exact⟨u,r,.inr ⟨.inl hk,c,hc,hc'⟩⟩
   ·rw [OG (Ne.symm hj)] at e2;obtain⟨u',r',q⟩:=hl j y v' e1 e2 e3;refine⟨u',r',?_⟩;rcases q with q | ⟨k,c',e,z'⟩
    ·exact .inl q
    ·refine .inr ⟨k,c',e,z'.sameBut hs ?_⟩;rintro rfl;exact hj (yP hN e1 (I.ok.inj _ _ _ e hc▸hi))
  ·by_cases hcc:c'=c
   ·subst hcc;exact⟨_,hc'⟩
   ·obtain⟨w2,z2⟩:=I.cell y c' e;exact⟨w2,z2.sameBut hs hcc⟩
  ·obtain⟨e,n,ne,nf,d⟩:=I.pin p hp;refine⟨(hs.2 p.1 ?_).trans e,n,ne,nf,d⟩;intro q;rw [q,hoc] at e;have q':oc=p.2:=Pf e;exact d w' (by rw [<-q'];exact hocd)
theorem tN{M:Model}{A:V2}{E:VM->VP->Prop}{i:Nat}{x:Str}{v:V}{u:VM}{Q:Unit->VP->Prop}(I:af X pins σ H s)(hN:X.N.Nodup)(hi:X.N[i]?=some x)(hx:gC X.env.scope x)(r:aE v u)
 (h:∀s',af X pins (σ.set i (some v)) H s'->Q () s')(hf:X.fn x=true\/X.env.scope.names.lookup x=some .local:=by first | exact .inl rfl | exact .inr rfl | assumption):VS M A (storeName X.env x u) Q E s:=
 yQ I hN hi hx r (λs' I' _=>h s' I') hf
theorem af.call'{s':VP}{ch:List VO}(I:af X pins σ H s)(ho:s'.os=s.os)(u:Un (fU X.stack) ch H H' s.heap s'.heap)(hok:bG X.prog X.w H' s'.heap)(hg:WZ s'.gens)
 (hch:∀b∈ch,(b∈X.ex\/X.s₀.heap.objs.size<=b)/\b≠X.env.locals/\(∀x c,X.env.cells.lookup x=some c->c≠b)/\∀p∈X.pn++pins,p.1≠b):af X pins σ H' s':=by
 obtain⟨h',g',d',t',o'⟩:=s';have e:o'=s.os:=ho;subst e;exact I.call (g':=g') (t':=t') (d':=d') u hok hg hch
end
abbrev XK:=VM->Option VO->Hp->Prop
abbrev St:=List (Option V)
abbrev VK:=V->Hp->Prop
abbrev TE:=St->Hp->VK->Prop
abbrev TT:=St->Hp->(Bool->Hp->Prop)->Prop
abbrev TA:=St->Hp->(List V->Hp->Prop)->Prop
structure mL where
 nx:St->Hp->Prop
 rt:VK
 bk:St->Hp->Prop:=λ_ _=>False
 ct:St->Hp->Prop:=λ_ _=>False
abbrev TS:=mL->St->Hp->Prop
def EP(X:Cx)(pins:List (VO×Obj))(σ:St)(Q:VK)(u:VM)(s':VP):Prop:=∃v H',af X pins σ H' s'/\aE v u/\Q v H'
def TP(X:Cx)(pins:List (VO×Obj))(σ:St)(Q:Bool->Hp->Prop)(b:Bool)(s':VP):Prop:=∃H',af X pins σ H' s'/\Q b H'
def AP(X:Cx)(pins:List (VO×Obj))(σ:St)(Q:List V->Hp->Prop)(us:List VM)(s':VP):Prop:=∃vs H',af X pins σ H' s'/\aK vs us/\Q vs H'
def SP(X:Cx)(pins:List (VO×Obj))(D:mL)(f:Flow)(s':VP):Prop:=
 match f with
 | .next=>∃σ' H',af X pins σ' H' s'/\D.nx σ' H'
 | .brk=>∃σ' H',af X pins σ' H' s'/\D.bk σ' H'
 | .cont=>∃σ' H',af X pins σ' H' s'/\D.ct σ' H'
 | .ret u=>∃v σ' H',af X pins σ' H' s'/\aE v u/\D.rt v H'
def PE(X:Cx)(e:VV)(t:TE):Prop:=
 ∀(pins:List (VO×Obj))(s:VP)(σ:St)(H:Hp)(Q:VK),af X pins σ H s->t σ H Q->VS (VU X.prog X.w) X.A (eval e X.env) (EP X pins σ Q) X.xe s
def PT(X:Cx)(e:VV)(t:TT):Prop:=
 ∀(pins:List (VO×Obj))(s:VP)(σ:St)(H:Hp)(Q:Bool->Hp->Prop),af X pins σ H s->t σ H Q->VS (VU X.prog X.w) X.A (isTrue e X.env (eval e X.env)) (TP X pins σ Q) X.xe s
def PW(X:Cx)(e:VV)(t:TT):Prop:=
 ∀(whole:Sem VM)(pins:List (VO×Obj))(s:VP)(σ:St)(H:Hp)(Q:Bool->Hp->Prop),af X pins σ H s->t σ H Q->VS (VU X.prog X.w) X.A (isTrue e X.env whole) (TP X pins σ Q) X.xe s
theorem PW.pt{X:Cx}{e:VV}{t:TT}(h:PW X e t):PT X e t:=h _
def PA(X:Cx)(es:List VV)(t:TA):Prop:=
 ∀(pos:Pos)(pins:List (VO×Obj))(s:VP)(σ:St)(H:Hp)(Q:List V->Hp->Prop),af X pins σ H s->t σ H Q->VS (VU X.prog X.w) X.A (spliced (V5 pos (VT es X.env))) (AP X pins σ Q) X.xe s
def PS(X:Cx)(st:V1)(t:TS):Prop:=
 ∀(pins:List (VO×Obj))(s:VP)(σ:St)(H:Hp)(D:mL),af X pins σ H s->t D σ H->VS (VU X.prog X.w) X.A (exec st X.env) (SP X pins D) X.xe s
def bQ(X:Cx)(st:List V1)(t:TS):Prop:=
 ∀(pins:List (VO×Obj))(s:VP)(σ:St)(H:Hp)(D:mL),af X pins σ H s->t D σ H->VS (VU X.prog X.w) X.A (execs st X.env) (SP X pins D) X.xe s
theorem aB{α:Type}{t:Sem α}{Q Q':α->VP->Prop}{M:Model}{A:V2}{E:VM->VP->Prop}{s:VP}(h:VS M A t Q E s)(hQ:∀a s,Q a s->Q' a s):VS M A t Q' E s:=Wa h hQ λ_ _ x=>x
open PySem PySem.Spec PyProof.Rows
section
variable {X:Cx}
theorem N8{a b:VV}{ta tb:TE}(ha:PE X a ta)(hb:PE X b tb){pins:List (VO×Obj)}{s:VP}{σ:St}{H:Hp}{R:V->V->Hp->Prop}(I:af X pins σ H s)(h:ta σ H λx H1=>tb σ H1 λy H2=>R x y H2)
 {α:Type}{Q:α->VP->Prop}{f:VM->VM->Sem α}
 (hf:∀v u s2 x y H2,af X pins σ H2 s2->aE x v->aE y u->R x y H2->VS (VU X.prog X.w) X.A (f v u) Q X.xe s2):
 VS (VU X.prog X.w) X.A (eval a X.env) (λv s₁=>VS (VU X.prog X.w) X.A (eval b X.env) (λu s₂=>VS (VU X.prog X.w) X.A (f v u) Q X.xe s₂) X.xe s₁) X.xe s:=by
 refine aB (ha pins s σ H _ I h) λv s1 ⟨x,H1,I1,r1,q1⟩=>?_;refine aB (hb pins s1 σ H1 _ I1 q1) λu s2 ⟨y,H2,I2,r2,q2⟩=>?_;exact hf v u s2 x y H2 I2 r1 r2 q2
def cJ(i:Nat):TE:=λσ H Q=>∃v,σ[i]?=some (some v)/\Q v H
def tC(v:V):TE:=λ_ H Q=>Q v H
theorem vJ{i:Nat}{x:Str}{pos:Pos}(hN:X.N[i]?=some x)(hv:sk X.env.scope x)(hd:(x==("__debug__":Str))=false:=by decide)(hcd:(x==("__classdict__":Str))=false:=by decide):PE X (.Name x pos) (cJ i):=by
 intro pins s σ H Q I h;obtain⟨v,e,h⟩:=h;obtain⟨m,hn,hl⟩:=I.loc;obtain⟨u,r,l⟩:=hl i x v hN e hv;have fin:EP X pins σ Q u s:=⟨v,H,I,r,h⟩;rcases l with⟨hk,hm⟩ | ⟨hk,c,hc,hcell⟩
 ·exact wpAny_Name (wpAny_loadName_local I.ok.kind hk hn hm fin) hd
 ·rcases hk with hk | hk
  ·exact wpAny_Name (wpAny_loadName_cell I.ok.kind hk hc hcell fin) hd
  ·exact wpAny_Name (wpAny_loadName_free I.ok.kind hk hc hcell fin hcd) hd
theorem sr{i j pos}:PE X (.Constant (.int i) j pos) (tC (.int i)):=λ_ _ _ H _ I h=>wpAny_Constant_int ⟨.int i,H,I.tok _,⟨_,rfl⟩,h⟩
theorem yR{b j pos}:PE X (.Constant (.bool b) j pos) (tC (.bl b)):=λ_ _ _ H _ I h=>Constant_bool ⟨.bl b,H,I,rfl,h⟩
theorem Fb{j pos}:PE X (.Constant .none j pos) (tC .non):=λ_ _ _ H _ I h=>Constant_none ⟨.non,H,I,rfl,h⟩
theorem Fc{x j pos}:PE X (.Constant (.str x) j pos) (tC (.str x)):=λ_ _ _ H _ I h=>Calls.Constant_str ⟨.str x,H,I.tok _,⟨_,rfl⟩,h⟩
def Gl(X:Cx)(x:Str):Prop:=X.env.kindOf x=some .globalImplicit
theorem vK{E:VM->VP->Prop}{pins:List (VO×Obj)}{s:VP}{σ:St}{H:Hp}{x:Str}{u:VM}{pos:Pos}{Q:VM->VP->Prop}(I:af X pins σ H s)(hg:Gl X x)(hm:X.mg x=some u)(h:Q u s)
 (hd:(x==("__debug__":Str))=false:=by decide):VS (VU X.prog X.w) X.A (eval (.Name x pos) X.env) Q E s:=
 Tg I.ok.kind hg (Calls.loadGlobal_global (by rw [I.ok.glob];exact I.mod.glob.keeps I.bk) hm h) hd
theorem qW{E:VM->VP->Prop}{pins:List (VO×Obj)}{s:VP}{σ:St}{H:Hp}{x:Str}{u:VM}{pos:Pos}{Q:VM->VP->Prop}(I:af X pins σ H s)(hg:Gl X x)(hm:X.mg x=none)(hv:V9 x=some u)(h:Q u s)
 (hn:x≠"__name__":=by decide)(hd:(x==("__debug__":Str))=false:=by decide):VS (VU X.prog X.w) X.A (eval (.Name x pos) X.env) Q E s:=by
 obtain⟨mb,h1,h2⟩:=I.mod.blt;exact Tg I.ok.kind hg (Calls.loadGlobal_builtin (by rw [I.ok.glob];exact I.mod.glob.keeps I.bk) hm (by rw [I.ok.blt];exact h1.keeps I.bk) ((h2 x hn).trans hv) h) hd
variable {a b:VV} {ta tb:TE} {pos:Pos}
def PC(X:Cx)(op:CmpOp)(a b:VV)(t:TE):Prop:=
 ∀(pins:List (VO×Obj))(s:VP)(σ:St)(H:Hp)(Q:VK),af X pins σ H s->t σ H Q->
  VS (VU X.prog X.w) X.A (eval a X.env) (λv s₁=>VS (VU X.prog X.w) X.A (eval b X.env) (λu s₂=>VS (VU X.prog X.w) X.A (V8 op v u) (EP X pins σ Q) X.xe s₂) X.xe s₁) X.xe s
theorem Fd(b:VV){op:CmpOp}(h:op≠ .In)(h2:op≠ .NotIn):Wg op b=false:=by
 have e1:(op==CmpOp.In)=false:=by cases op <;> first | rfl | exact absurd rfl h
 have e2:(op==Vt)=false:=by cases op <;> first | rfl | exact absurd rfl h2
 cases b <;> simp [Wg,e1,e2]
def yS(ta:TE):TE:=λσ H Q=>ta σ H λx H1=>Q (.bl (!decide (x= .non))) H1
theorem aE.none_iff{x:V}{v:VM}(r:aE x v):(v==QY)=decide (x= .non):=by
 cases x with
 | non=>cases r;rfl
 | bl _=>cases r;rfl
 | int _=>obtain⟨t,rfl⟩:=r;rfl
 | str _=>obtain⟨t,rfl⟩:=r;rfl
 | byt _=>obtain⟨t,rfl⟩:=r;rfl
 | flt _=>obtain⟨t,rfl⟩:=r;rfl
 | ref _=>cases r;rfl
 | ty _=>cases r;rfl
theorem Fe{j pos'}(ha:PE X a ta):PC X .IsNot a (.Constant .none j pos') (yS ta):=by
 intro pins s σ H Q I h;refine aB (ha pins s σ H _ I h) λv s1 ⟨x,H1,I1,r1,q1⟩=>?_;exact Constant_none (isnot_none_gen ⟨.bl _,H1,I1,by rw [r1.none_iff];rfl,q1⟩)
def tB(t:TE):TT:=λσ H Q=>t σ H λx H1=>∃c,x= .bl c/\Q c H1
theorem tO{op:CmpOp}{t:TE}(h:PC X op a b t)(h1:Wg op b=false:=by first | exact Fd _ VG VG | rfl):PT X (.Compare a [op] [b] pos) (tB t):=by
 intro pins s σ H Q I hw;refine wpAny_isTrue_Compare1 (aB (h pins s σ H _ I hw) λv s1 h1=>aB h1 λu s2 h2=>aB h2 λc s3 ⟨x,H1,I1,r1,q1⟩=>?_) h1;obtain⟨d,rfl,q⟩:=q1;cases r1;exact Wk ⟨H1,I1,q⟩
theorem Ff{e:VV}{t:TE}(h:PE X e t)(he:∀whole,isTrue e X.env whole=(do let v<-whole;W0 e.pos;WR [v] (truthy v)):=by intro _;rfl):PT X e (tB t):=by
 intro pins s σ H Q I hw;refine isTrue_plain (aB (h pins s σ H _ I hw) λv s1 ⟨x,H1,I1,r1,q1⟩=>?_) (he _);obtain⟨d,rfl,q⟩:=q1;cases r1;exact Wk ⟨H1,I1,q⟩
variable {tA tB':TT} {rest:List VV}
def yT(t u:TT):TT:=λσ H Q=>t σ H λc H1=>if c=true then u σ H1 Q else Q false H1
def yU(t u:TT):TT:=λσ H Q=>t σ H λc H1=>if c=true then Q true H1 else u σ H1 Q
def yV(t:TT):TT:=λσ H Q=>t σ H λc H1=>Q (!c) H1
theorem Fg(ha:PT X a tA):PW X (.BoolOp .And [a] pos) tA:=by
 intro wh pins s σ H Q I h;refine isTrue_and (aB (ha pins s σ H Q I h) λc s1 e=>?_);cases c with
 | true=>exact isTrue_and_nil e
 | false=>exact e
theorem Fh(ha:PT X a tA):PW X (.BoolOp .Or [a] pos) tA:=by
 intro wh pins s σ H Q I h;refine isTrue_or (aB (ha pins s σ H Q I h) λc s1 e=>?_);cases c with
 | false=>exact isTrue_or_nil e
 | true=>exact e
theorem Fi(ha:PT X a tA)(hb:PW X (.BoolOp .And (b::rest) pos) tB'):PW X (.BoolOp .And (a::b::rest) pos) (yT tA tB'):=by
 intro wh pins s σ H Q I h;refine isTrue_and (aB (ha pins s σ H _ I h) λc s1 ⟨H1,I1,q1⟩=>?_);cases c with
 | true=>exact hb wh pins s1 σ H1 Q I1 q1
 | false=>exact⟨H1,I1,q1⟩
theorem Fj(ha:PT X a tA)(hb:PW X (.BoolOp .Or (b::rest) pos) tB'):PW X (.BoolOp .Or (a::b::rest) pos) (yU tA tB'):=by
 intro wh pins s σ H Q I h;refine isTrue_or (aB (ha pins s σ H _ I h) λc s1 ⟨H1,I1,q1⟩=>?_);cases c with
 | true=>exact⟨H1,I1,q1⟩
 | false=>exact hb wh pins s1 σ H1 Q I1 q1
theorem Fl(ha:PT X a tA):PT X (.UnaryOp .Not a pos) (yV tA):=by
 intro pins s σ H Q I h;exact isTrue_not (ha pins s σ H (λc H1=>Q (!c) H1) I h)
def yW(ta tb:TE):TE:=λσ H Q=>ta σ H λx H1=>∃c,x= .bl c/\if c=true then tb σ H1 Q else Q (.bl false) H1
theorem Fm{op}{t:TE}(h:PE X a t):PE X (.BoolOp op [a] pos) t:=λpins s σ H Q I hw=>BoolOp_one (h pins s σ H Q I hw)
theorem Fn(ha:PE X a ta)(hb:PE X (.BoolOp .And (b::rest) pos) tb):PE X (.BoolOp .And (a::b::rest) pos) (yW ta tb):=by
 intro pins s σ H Q I h;refine BoolOp_and (aB (ha pins s σ H _ I h) λv s1 ⟨x,H1,I1,r1,q1⟩=>?_);obtain⟨c,rfl,q1⟩:=q1;cases r1;refine Wk ?_;cases c with
 | true=>exact hb pins s1 σ H1 Q I1 q1
 | false=>exact⟨.bl false,H1,I1,rfl,q1⟩
def yX(t:TT)(ta tb:TE):TE:=λσ H Q=>t σ H λc H1=>if c=true then ta σ H1 Q else tb σ H1 Q
theorem Fo{c:VV}(hc:PT X c tA)(ha:PE X a ta)(hb:PE X b tb):PE X (.IfExp c a b pos) (yX tA ta tb):=by
 intro pins s σ H Q I h;refine wpAny_IfExp (aB (hc pins s σ H _ I h) λd s1 ⟨H1,I1,q1⟩=>?_);cases d with
 | true=>exact ha pins s1 σ H1 Q I1 q1
 | false=>exact hb pins s1 σ H1 Q I1 q1
end
open PySem PySem.Spec PyProof.Rows
def bg(K:Oe)(H:Hp)(a:VO)(xs:List V):Prop:=
 Rd H a (.lst xs)\/
  ∃(o:Obj)(its:Array VM)(n:Nat),K.lookup a=some o/\o.cls= .type "list"/\o.dict=none/\o.data= .seq its n/\its.size<=VW/\aK xs its.toList
def bz(K:Oe)(H:Hp)(a:VO)(xs:List V):Prop:=
 Rd H a (.tup xs)\/
  ∃(o:Obj)(its:Array VM)(n:Nat),K.lookup a=some o/\o.cls= .type "tuple"/\o.data= .seq its n/\its.size<=VW/\aK xs its.toList
def Fp:VM->Option V
 | .none=>some .non
 | .bool b=>some (.bl b)
 | .int i _=>some (.int i)
 | .str x _=>some (.str x)
 | .bytes b _=>some (.byt b)
 | .float b _=>some (.flt b)
 | .ref a=>some (.ref a)
 | .type n=>some (.ty n)
 | _=>none
theorem aE.abs{x:V}{u:VM}(r:aE x u):Fp u=some x:=by
 cases x with
 | non=>cases r;rfl
 | bl _=>cases r;rfl
 | int _=>obtain⟨t,rfl⟩:=r;rfl
 | str _=>obtain⟨t,rfl⟩:=r;rfl
 | byt _=>obtain⟨t,rfl⟩:=r;rfl
 | flt _=>obtain⟨t,rfl⟩:=r;rfl
 | ref _=>cases r;rfl
 | ty _=>cases r;rfl
theorem aE.inj{x y:V}{u:VM}(r:aE x u)(q:aE y u):x=y:=Pf (r.abs.symm.trans q.abs)
theorem aK.inj:∀{xs ys:List V}{us:List VM},aK xs us->aK ys us->xs=ys
 | _,_,_,.nil,.nil=>rfl
 | _,_,_,.cons r t,.cons r' t'=>by rw [r.inj r',aK.inj t t']
section
variable {X:Cx} {pins:List (VO×Obj)} {σ:St} {H:Hp} {s:VP} {a:VO} {xs ys:List V}
theorem bg.of{K:Oe}(h:H a=some (.lst xs)):bg K H a xs:= .inl (.inl h)
theorem af.list(I:af X pins σ H s)(h:bg X.K H a xs):∃its:List VM,aK xs its/\PlainL s.heap a its.toArray/\xs.length<=VW:=by
 rcases h with h | ⟨o,its,n,hk,hc,hd,hs,hz,r⟩
 ·obtain⟨z,its,n,r,e⟩:=h.ok I.hok;exact⟨its,r,⟨_,n,e,rfl,rfl,rfl⟩,z⟩
 ·refine⟨its.toList,r,⟨o,n,I.kIn a o hk,hc,hd,by simpa using hs⟩,?_⟩;have e:=r.length;simp only [OU] at e;omega
theorem af.tuple(I:af X pins σ H s)(h:bz X.K H a xs):∃its:List VM,aK xs its/\IsTup s.heap a its.toArray/\xs.length<=VW:=by
 rcases h with h | ⟨o,its,n,hk,hc,hs,hz,r⟩
 ·obtain⟨z,its,r,p⟩:=h.ok I.hok;exact⟨its,r,p,z⟩
 ·refine⟨its.toList,r,⟨o,I.kIn a o hk,hc,n,by simpa using hs⟩,?_⟩;have e:=r.length;simp only [OU] at e;omega
theorem af.list_inj(I:af X pins σ H s)(h:bg X.K H a xs)(h':bg X.K H a ys):xs=ys:=by
 obtain⟨its,r,⟨o,n,e,_,_,d⟩,_⟩:=I.list h;obtain⟨its',r',⟨o',n',e',_,_,d'⟩,_⟩:=I.list h';rw [e] at e';cases e';rw [d] at d';injection d' with d1 _
 have:its=its':=by simpa using congrArg Vl d1
 subst this;exact r.inj r'
theorem af.tuple_inj(I:af X pins σ H s)(h:bz X.K H a xs)(h':bz X.K H a ys):xs=ys:=by
 obtain⟨its,r,⟨o,e,_,n,d⟩,_⟩:=I.tuple h;obtain⟨its',r',⟨o',e',_,n',d'⟩,_⟩:=I.tuple h';rw [e] at e';cases e';rw [d] at d';injection d' with d1 _
 have:its=its':=by simpa using congrArg Vl d1
 subst this;exact r.inj r'
end
abbrev Cx.wish(X:Cx)(E:VM->VP->Prop):Cx:={X with xe:=E}
abbrev Cx.nox(X:Cx):Cx:=X.wish λ_ _=>False
theorem Cx.Ok.wish{X:Cx}(ok:X.Ok)(E:VM->VP->Prop):(X.wish E).Ok:=
 ⟨ok.mod,ok.kind,ok.glob,ok.blt,ok.above,ok.inj,ok.has,ok.cab,ok.hd,ok.frames,ok.stk,ok.exf,ok.bs,ok.bsz,ok.noex,ok.exfs,ok.funs,ok.frf⟩
theorem Cx.Ok.unwish{X:Cx}{E:VM->VP->Prop}(ok:(X.wish E).Ok):X.Ok:=
 ⟨ok.mod,ok.kind,ok.glob,ok.blt,ok.above,ok.inj,ok.has,ok.cab,ok.hd,ok.frames,ok.stk,ok.exf,ok.bs,ok.bsz,ok.noex,ok.exfs,ok.funs,ok.frf⟩
section
variable {X:Cx} {pins:List (VO×Obj)} {σ:St} {H:Hp} {s:VP} {E:VM->VP->Prop}
theorem af.wish(I:af X pins σ H s)(E:VM->VP->Prop):af (X.wish E) pins σ H s:=⟨I.ok.wish E,I.os,I.bare,I.base,I.loc,I.cell,I.free,I.freeC,I.pin,I.hok,I.len⟩
theorem af.unwish(I:af (X.wish E) pins σ H s):af X pins σ H s:=⟨I.ok.unwish,I.os,I.bare,I.base,I.loc,I.cell,I.free,I.freeC,I.pin,I.hok,I.len⟩
theorem SP.unwish{D:mL}{f:Flow}{s':VP}(h:SP (X.wish E) pins D f s'):SP X pins D f s':=by
 cases f with
 | next=>obtain⟨σ',H',I,q⟩:=h;exact⟨σ',H',I.unwish,q⟩
 | brk=>obtain⟨σ',H',I,q⟩:=h;exact⟨σ',H',I.unwish,q⟩
 | cont=>obtain⟨σ',H',I,q⟩:=h;exact⟨σ',H',I.unwish,q⟩
 | ret u=>obtain⟨v,σ',H',I,r,q⟩:=h;exact⟨v,σ',H',I.unwish,r,q⟩
theorem bQ.nox{st:List V1}{t:TS}(h:bQ X.nox st t):bQ X st t:=λpins s σ H D I hw=>
 Wa (h pins s σ H D (I.wish _) hw) (λ_ _ q=>q.unwish) λ_ _ z=>Qp z
end
section
variable {X:Cx} {st:V1} {rest:List V1} {t u:TS} {e:VV} {te:TE} {pos:Pos}
def yY:TS:=λD σ H=>D.nx σ H
def vL(t u:TS):TS:=λD σ H=>t {D with nx:=u D} σ H
theorem yZ:bQ X [] yY:=λ_ _ σ H _ I h=>W4 ⟨σ,H,I,h⟩
theorem tP(h1:PS X st t)(h2:bQ X rest u):bQ X (st::rest) (vL t u):=by
 intro pins s σ H D I h;refine wpAny_execs_cons (aB (h1 pins s σ H {D with nx:=u D} I h) λf s1 q=>?_);cases f with
 | next=>
  obtain⟨σ',H',I',q⟩:=q;exact h2 pins s1 σ' H' D I' q
 | ret v=>exact q
 | brk=>exact q
 | cont=>exact q
theorem vM(h1:PS X st t):bQ X [st] t:=by
 intro pins s σ H D I h;refine wpAny_execs_cons (aB (h1 pins s σ H D I h) λf s1 q=>?_);cases f with
 | next=>exact W4 q
 | ret v=>exact q
 | brk=>exact q
 | cont=>exact q
theorem af.quiet{pins:List (VO×Obj)}{σ:St}{H:Hp}{s:VP}(I:af X pins σ H s):interactive X.env=false:=by simp [interactive,I.ok.kind]
def za(te:TE):TS:=λD σ H=>te σ H λ_ H1=>D.nx σ H1
theorem tQ(he:PE X e te)(hs:V6 e none pos.line X.env=pure false:=by rfl):PS X (.Expr e pos) (za te):=by
 intro pins s σ H D I h;exact wpAny_Expr_any (aB (he pins s σ H _ I h) λv s1 uu11=>by obtain⟨x,H1,I1,r1,q1⟩:=uu11;exact⟨σ,H1,I1,q1⟩) I.quiet hs
def zb(te:TE):TS:=λD σ H=>te σ H D.rt
theorem zc(he:PE X e te):PS X (.Return (some e) pos) (zb te):=by
 intro pins s σ H D I h;exact wpAny_Return_some (aB (he pins s σ H _ I h) λv s1 uu12=>by obtain⟨x,H1,I1,r1,q1⟩:=uu12;exact⟨x,σ,H1,I1,r1,q1⟩)
def zd(c:TT)(t u:TS):TS:=λD σ H=>c σ H λb H1=>if b=true then t D σ H1 else u D σ H1
theorem ze{c:VV}{a b:List V1}{tc:TT}(hc:PT X c tc)(ha:bQ X a t)(hb:bQ X b u):PS X (.If c a b pos) (zd tc t u):=by
 intro pins s σ H D I h;refine wpAny_If (aB (hc pins s σ H _ I h) λd s1 ⟨H1,I1,q1⟩=>?_);cases d with
 | true=>exact ha pins s1 σ H1 D I1 q1
 | false=>exact hb pins s1 σ H1 D I1 q1
def Fq:TS:=λ_ _ _=>False
theorem Fs:PS X st Fq:=λ_ _ _ _ _ _ h=>h.elim
end
abbrev TG:=V->St->Hp->(St->Hp->Prop)->Prop
abbrev iK:=List V->St->Hp->(St->Hp->Prop)->Prop
def PG(X:Cx)(target:VV)(t:TG):Prop:=
 ∀(pins:List (VO×Obj))(s:VP)(σ:St)(H:Hp)(v:V)(u:VM)(Q:St->Hp->Prop),af X pins σ H s->aE v u->t v σ H Q->
  VS (VU X.prog X.w) X.A (assign target X.env u) (λ_ s'=>∃σ' H',af X pins σ' H' s'/\Q σ' H') X.xe s
def tR(X:Cx)(ts:List VV)(t:iK):Prop:=
 ∀(pins:List (VO×Obj))(s:VP)(σ:St)(H:Hp)(vs:List V)(us:List VM)(Q:St->Hp->Prop),af X pins σ H s->aK vs us->t vs σ H Q->
  VS (VU X.prog X.w) X.A (assignInOrder ((WS ts X.env).map (·.2)) us) (λ_ s'=>∃σ' H',af X pins σ' H' s'/\Q σ' H') X.xe s
section
variable {X:Cx} {pos:Pos}
def jO(i:Nat):TG:=λv σ H Q=>Q (σ.set i (some v)) H
theorem aL{i:Nat}{x:Str}(hN:X.N.Nodup)(hi:X.N[i]?=some x)(hx:gC X.env.scope x)(hf:X.fn x=true\/X.env.scope.names.lookup x=some .local:=by first | exact .inl rfl | exact .inr rfl | assumption):PG X (.Name x pos) (jO i):=by
 intro pins s σ H v u Q I r h;exact wpAny_assign_Name (tN I hN hi hx r (λs' I'=>⟨_,H,I',h⟩) hf)
def tS:iK:=λvs σ H Q=>vs=[]/\Q σ H
def su(t:TG)(u:iK):iK:=λvs σ H Q=>∃v r,vs=v::r/\t v σ H λσ' H'=>u r σ' H' Q
theorem gZ:tR X [] tS:=by
 intro pins s σ H vs us Q I r h;obtain⟨e,h⟩:=h;subst e;cases r;exact assignInOrder_nil ⟨σ,H,I,h⟩
theorem cc{e:VV}{es:List VV}{t:TG}{u:iK}(h1:PG X e t)(h2:tR X es u)
 (hs:(WS (e::es) X.env).map (·.2)=assign e X.env::(WS es X.env).map (·.2):=by rfl):tR X (e::es) (su t u):=by
 intro pins s σ H vs us Q I r h;obtain⟨v,vr,e1,h⟩:=h;subst e1;cases r with
 | cons r rr=>
  rw [hs];refine Xg (aB (h1 pins s σ H _ _ _ I r h) λ_ s1 ⟨σ1,H1,I1,q1⟩=>?_);exact h2 pins s1 σ1 H1 _ _ Q I1 rr q1
def tT(K:Oe)(n:Nat)(t:iK):TG:=λv σ H Q=>∃a xs,v= .ref a/\bz K H a xs/\xs.length=n/\t xs σ H Q
theorem g6{es:List VV}{k:Nat}{t:iK}{n:Nat}(hc:X.calm=true)(h:tR X es t)
 (hn:(WS es X.env).length=n:=by rfl)(hst:(WS es X.env).findIdx? (·.1)=none:=by rfl):PG X (.Tuple es k pos) (tT X.K n t):=by
 intro pins s σ H v u Q I r hw;obtain⟨a,xs,e1,hq,hl,hw⟩:=hw;subst e1;cases r;obtain⟨its,rv,ht,hz⟩:=I.tuple hq;refine assign_Tuple_tuple (I.ok.hd hc) ht (by simp [hn,<-hl,rv.length]) hst λh' hx=>?_;have I1:af X pins σ H {s with heap:=h'}:=I.kept (t':=s.toks) λb o e=>hx b o (OV (OJ e)) e;exact h pins _ σ H xs _ Q I1 (by simpa using rv) hw
def sA(te:TE)(g:TG):TS:=λD σ H=>te σ H λx H1=>g x σ H1 D.nx
theorem Ft{tg e:VV}{te:TE}{g:TG}(he:PE X e te)(hg:PG X tg g)(hs:Xj [tg] e pos.line X.env=pure false:=by rfl)(hw:Xk [tg] e X.env=pure none:=by rfl)
 (h1:(WS [tg] X.env).map (·.2)=[assign tg X.env]:=by rfl):PS X (.Assign [tg] e pos) (sA te g):=by
 intro pins s σ H D I h;refine wpAny_Assign_stores (aB (he pins s σ H _ I h) λv s1 ⟨x,H1,I1,r1,q1⟩=>?_) hs hw;rw [h1];exact aB (hg pins s1 σ H1 x v _ I1 r1 q1) λ_ s2 q=>q
theorem tU{i:Nat}{x:Str}{e:VV}{te:TE}{pos':Pos}(hN:X.N.Nodup)(hi:X.N[i]?=some x)(hx:gC X.env.scope x)(he:PE X e te)(hs:V6 e (some (.Name x pos')) pos.line X.env=pure false:=by rfl)(hf:X.fn x=true\/X.env.scope.names.lookup x=some .local:=by first | exact .inl rfl | exact .inr rfl | assumption):
 PS X (.Assign [.Name x pos'] e pos) (sA te (jO i)):=by
 intro pins s σ H D I h;refine wpAny_Assign_Name (aB (he pins s σ H _ I h) λv s1 ⟨y,H1,I1,r1,q1⟩=>?_) hs;exact tN I1 hN hi hx r1 (λs2 I2=>⟨_,H1,I2,q1⟩) hf
def zf(i j:Nat)(ta:TA):TS:=λD σ H=>ta σ H λvs H1=>∃v w,vs=[v,w]/\D.nx ((σ.set i (some v)).set j (some w)) H1
theorem Fv{i j:Nat}{x y:Str}{a b:VV}{ta:TA}{px py pt:Pos}{kt k2 pt2}(hc:X.calm=true)(hN:X.N.Nodup)(hi:X.N[i]?=some x)(hj:X.N[j]?=some y)(hij:i≠j)
 (hx:X.env.scope.names.lookup x=some .local)(hy:X.env.scope.names.lookup y=some .local)(ha:PA X [a,b] ta)
 (hw:Xk [.Tuple [.Name x px,.Name y py] kt pt] (.Tuple [a,b] k2 pt2) X.env=pure (some [x,y]))
 (hs:Xj [.Tuple [.Name x px,.Name y py] kt pt] (.Tuple [a,b] k2 pt2) pos.line X.env=pure false:=by rfl):
 PS X (.Assign [.Tuple [.Name x px,.Name y py] kt pt] (.Tuple [a,b] k2 pt2) pos) (zf i j ta):=by
 intro pins s σ H D I h;rw [exec_Assign_arm];refine VN (wpAny_standAt ?_);rw [hs];refine VN (VQ ?_);rw [VI VG];refine VN (Tuple_ (aB (ha _ pins s σ H _ I h) λus s1 ⟨vs,H1,I1,r1,q1⟩=>?_));obtain⟨v,w,e1,q1⟩:=q1;subst e1;obtain⟨u1,u2,rfl,rv,rw'⟩:∃u1 u2,us=[u1,u2]/\aE v u1/\aE w u2:=by
  cases r1 with
  | cons p q=>
   cases q with
   | cons p' q'=>
    cases q';exact⟨_,_,rfl,p,p'⟩
 refine V7 ?_ (by show 2<=VW;decide);have I2:af X pins σ H1 {s1 with heap:=s1.heap.push {cls:= .type "tuple",data:= .seq [u1,u2].toArray}}:=I1.kept (t':=s1.toks) λb o e=>Oo _ e;rw [hw];refine VN (VQ ?_);show VS (VU X.prog X.w) X.A (do rule "assign.swapped-stores";let items<-unpackItems (.ref s1.heap.objs.size) 2 none;assignInOrder [λv=>bindName X.env y v,λv=>bindName X.env x v] items.reverse;pure VE) _ _ _;refine VN (W5 (VN (unpackItems_tuple (items:=#[u1,u2]) (I.ok.hd hc) (Uu s1.heap _) λh' hx'=>?_)));have I3:=I2.kept (h':=h') (t':=s1.toks) λb o e=>hx' b o (OV (OJ e)) e;show VS _ _ (assignInOrder [λv=>bindName X.env y v,λv=>bindName X.env x v] [u2,u1] >>=λ_=>pure VE) _ _ _;refine VN (Xg (wpAny_bindName (tN I3 hN hj (.inl hy) rw' (λs2 I4=>?_) (.inr hy))));refine Xg (wpAny_bindName (tN I4 hN hi (.inl hx) rv (λs3 I5=>assignInOrder_nil (VQ ?_)) (.inr hx)));rw [List.set_comm _ _ (Ne.symm hij)] at I5;exact⟨_,H1,I5,q1⟩
end
section
variable {X:Cx} {pos:Pos}
def Fw(c:TT)(tb:TS):TS:=λD σ H=>∃W:Nat->St->Hp->Prop,(∃m,W m σ H)/\∀m σ H,W m σ H->
 c σ H λb H1=>if b=true then ∃N:St->Hp->Prop,(∀σ' H',N σ' H'->∃m',m' < m/\W m' σ' H')/\tb {D with nx:=N,ct:=N,bk:=D.nx} σ H1 else D.nx σ H1
theorem Fx{c:VV}{body:List V1}{tc:TT}{tb:TS}(hp:W2 (VU X.prog X.w) X.A X.env X.xe)(hc:PT X c tc)(hb:bQ X body tb):PS X (.While c body [] pos) (Fw tc tb):=by
 intro pins s σ H D I h;obtain⟨W,⟨m0,w0⟩,turn⟩:=h;refine wpAny_While (codeAny_whileLoop (λn s'=>∃σ' H',af X pins σ' H' s'/\W n σ' H') ?_ m0 ⟨σ,H,I,w0⟩);rintro n s1 ⟨σ1,H1,I1,w1⟩;refine Wt hp (aB (hc pins s1 σ1 H1 _ I1 (turn n σ1 H1 w1)) λb s2 ⟨H2,I2,q2⟩=>?_);cases b with
 | true=>
  obtain⟨N,hN,q2⟩:=q2;rw [VJ rfl];refine Wt hp (aB (hb pins s2 σ1 H2 _ I2 q2) λf s3 q3=>?_);cases f with
  | next=>
   obtain⟨σ3,H3,I3,n3⟩:=q3;obtain⟨m',hm,w3⟩:=hN σ3 H3 n3;exact⟨m',hm,σ3,H3,I3,w3⟩
  | cont=>
   obtain⟨σ3,H3,I3,n3⟩:=q3;obtain⟨m',hm,w3⟩:=hN σ3 H3 n3;exact⟨m',hm,σ3,H3,I3,w3⟩
  | brk=>exact q3
  | ret v=>exact q3
 | false=>
  rw [VI OF];exact W4 ⟨σ1,H2,I2,q2⟩
end
structure It where
 go:Nat->Hp->Prop
 yld:Nat->Hp->V->Hp->Prop
 stop:Nat->Hp->Prop
def g7(X:Cx)(pins:List (VO×Obj))(H:Hp)(b:VO):Prop:=
 H b=none/\b≠X.env.locals/\b ∉ X.fs/\(b∈X.ex\/X.s₀.heap.objs.size<=b)/\(∀x c,X.env.cells.lookup x=some c->c≠b)/\∀p∈X.pn++pins,p.1≠b
theorem af.fpOk{X:Cx}{pins:List (VO×Obj)}{σ:St}{H H':Hp}{s:VP}{b:VO}(I:af X pins σ H s)(hb:s.heap.objs.size<=b)(hn:H' b=none):g7 X pins H' b:=by
 refine⟨hn,R0 (Py I.lt hb),I.nofs hb,.inr (O6 I.sz hb),λx c e z=>?_,λp hp z=>?_⟩
 ·obtain⟨v,q⟩:=I.cell x c e;exact absurd (Py q.lt (by rw [z];exact hb)) (QO _)
 ·exact absurd (Py (OJ (I.pin p hp).1) (by rw [z];exact hb)) (QO _)
structure qX (P:VY) (w:VZ) (K:Oe) (tg:VV) (J:It) (fp:List VO) (it:VO) (tn:Nat->V0->Prop):Prop where
 mem:it∈fp
 obj:∀i h,tn i h->∀b∈fp,∃o,h.get? b=some o/\∀v,o.data≠ .cell v
 keep:∀i h h',tn i h->(∀b∈fp,∀o,h.get? b=some o->h'.get? b=some o)->tn i h'
 item:∀(X:Cx),X.prog=P->X.w=w->X.K=K->X.calm=true->∀(i:Nat)(pins:List (VO×Obj))(s:VP)(σ:St)(H:Hp)(E:VM->VP->Prop),af X pins σ H s->(∀b∈fp,g7 X pins H b)->tn i s.heap->J.go i H->
  VS (VU P w) X.A (WI (.ref it)) (λr s1=>∃u,r=some u/\
   VS (VU P w) X.A (W6 tg (.ref it) u) (λ_ s2=>∃x H',af X pins σ H' s2/\aE x u/\J.yld i H x H'/\tn (i+1) s2.heap/\∀b∈fp,H' b=none) E s1) E s
 done:∀(X:Cx),X.prog=P->X.w=w->X.K=K->X.calm=true->∀(i:Nat)(pins:List (VO×Obj))(s:VP)(σ:St)(H:Hp)(E:VM->VP->Prop),af X pins σ H s->(∀b∈fp,g7 X pins H b)->tn i s.heap->J.stop i H->
  VS (VU P w) X.A (WI (.ref it)) (λr s1=>r=none/\af X pins σ H s1) E s
 self:∀(A:V2)(i:Nat)(s:VP)(Q:VM->VP->Prop)(E:VM->VP->Prop),tn i s.heap->Q (.ref it) s->VS (VU P w) A (pyIter (.ref it)) Q E s
abbrev TI:=St->Hp->(It->Hp->Prop)->Prop
def zg(X:Cx)(pins:List (VO×Obj))(σ:St)(tg:VV)(R:It->Hp->Prop)(itv:VM)(s2:VP):Prop:=
 ∃(it:VO)(fp:List VO)(tn:Nat->V0->Prop)(J:It)(H':Hp),itv= .ref it/\af X pins σ H' s2/\qX X.prog X.w X.K tg J fp it tn/\tn 0 s2.heap/\(∀b∈fp,g7 X pins H' b)/\R J H'
def PI(X:Cx)(tg iter:VV)(wi:TI):Prop:=
 ∀(pins:List (VO×Obj))(s:VP)(σ:St)(H:Hp)(R:It->Hp->Prop),af X pins σ H s->wi σ H R->
  VS (VU X.prog X.w) X.A (eval iter X.env) (λv s1=>VS (VU X.prog X.w) X.A (pyIter v) (zg X pins σ tg R) X.xe s1) X.xe s
theorem tV{M:Model}{A:V2}{E:VM->VP->Prop}{s:VP}{tg:VV}{it:VO}{u:VM}{o:Obj}{n:String}{vs:Array VM}{Q:Unit->VP->Prop}(ho:s.heap.get? it=some o)(hc:o.cls= .type n)(hd:o.data= .fields vs)
 (hn:["enumerate","zip","dict_itemiterator","dict_reverseitemiterator","odict_iterator","itertools.zip_longest","itertools.pairwise"].contains n=false)(hQ:Q () s):VS M A (W6 tg (.ref it) u) Q E s:=by
 unfold W6;cases tg <;> first
  | exact VQ hQ
  | (cases u <;> first
      | exact VQ hQ
      | (refine VN (wpAny_load ho ?_)
         rw [hc,hd];show VS M A (if (["enumerate","zip","dict_itemiterator","dict_reverseitemiterator","odict_iterator","itertools.zip_longest","itertools.pairwise"].contains n && vs[0]?==some (WG _))=true then _ else _) Q E s;rw [VI (by intro h;rw [hn,R1] at h;cases h)];exact VQ hQ))
def qY(K:Oe)(a:VO):It:=
 ⟨λi H=>∃xs x,bg K H a xs/\xs[i]?=some x,λi H x H'=>H'=H/\∀xs,bg K H a xs->xs[i]?=some x,λi H=>∃xs,bg K H a xs/\xs.length<=i⟩
def sC(K:Oe)(a:VO):It:=
 ⟨λi H=>∃xs x,bz K H a xs/\xs[i]?=some x,λi H x H'=>H'=H/\∀xs,bz K H a xs->xs[i]?=some x,λi H=>∃xs,bz K H a xs/\xs.length<=i⟩
def jP(lo:Int)(n:Nat):It:=⟨λi _=>i < n,λi H x H'=>H'=H/\x= .int (lo+i),λi _=>n<=i⟩
theorem Fy{P:VY}{w:VZ}{K:Oe}{tg:VV}(a it:VO):qX P w K tg (qY K a) [it] it (λi h=>h.IsListIter it a i) where
 mem:=by simp
 obj:=λi h st b hb=>by
  have e:b=it:=by simpa using hb
  subst e;obtain⟨o,e,c,d⟩:=st;exact⟨o,e,λv z=>by rw [d] at z;cases z⟩
 keep:=λi h h' st k=>st.at λo e=>k it (by simp) o e
 item:=by
  intro X hP hw hK hc i pins s σ H E I hf st hg;subst hP hw hK;obtain⟨xs,x,hq,hx⟩:=hg;obtain⟨its,rv,p,hz⟩:=I.list hq;obtain⟨u,hu,ru⟩:=rv.get hx;obtain⟨f0,f1,f2,f3,f4,f5⟩:=hf it (by simp);refine wpAny_pyNext_list_item st p.isList (x:=u) (by simpa using hu) λh' st' sb=>?_;have I1:af X pins σ H {s with heap:=h'}:=I.turned (t':=s.toks) (λb o hb e=>(sb.2 b hb).trans e) f0 f1 f3 f4 f5;obtain⟨o,e,c,d⟩:=id st';exact⟨u,rfl,tV (s:={s with heap:=h'}) e c d VG ⟨x,H,I1,ru,⟨rfl,λys hy=>by rw [I.list_inj hy hq];exact hx⟩,st',λb hb=>(hf b hb).1⟩⟩
 done:=by
  intro X hP hw hK hc i pins s σ H E I hf st hg;subst hP hw hK;obtain⟨xs,hq,hx⟩:=hg;obtain⟨its,rv,p,hz⟩:=I.list hq;obtain⟨f0,f1,f2,f3,f4,f5⟩:=hf it (by simp);have hl:=rv.length;exact wpAny_pyNext_list_end (I.ok.hd hc) st p.isList (by simp;omega) λh' eb=>⟨rfl,I.turned (t':=s.toks) (λb o hb e=>eb b o hb e) f0 f1 f3 f4 f5⟩
 self:=λ_ _ _ _ _ st h=>wpAny_pyIter_listiter st h
theorem Fz{P:VY}{w:VZ}{K:Oe}{tg:VV}(a it:VO):qX P w K tg (sC K a) [it] it (λi h=>h.IsTupleIter it a i) where
 mem:=by simp
 obj:=λi h st b hb=>by
  have e:b=it:=by simpa using hb
  subst e;obtain⟨o,e,c,d⟩:=st;exact⟨o,e,λv z=>by rw [d] at z;cases z⟩
 keep:=λi h h' st k=>st.at λo e=>k it (by simp) o e
 item:=by
  intro X hP hw hK hc i pins s σ H E I hf st hg;subst hP hw hK;obtain⟨xs,x,hq,hx⟩:=hg;obtain⟨its,rv,p,hz⟩:=I.tuple hq;obtain⟨u,hu,ru⟩:=rv.get hx;obtain⟨f0,f1,f2,f3,f4,f5⟩:=hf it (by simp);refine wpAny_pyNext_tuple_item st (show s.heap.IsTuple a its.toArray from p) (x:=u) (by simpa using hu) λh' st' sb=>?_;have I1:af X pins σ H {s with heap:=h'}:=I.turned (t':=s.toks) (λb o hb e=>(sb.2 b hb).trans e) f0 f1 f3 f4 f5;obtain⟨o,e,c,d⟩:=id st';exact⟨u,rfl,tV (s:={s with heap:=h'}) e c d VG ⟨x,H,I1,ru,⟨rfl,λys hy=>by rw [I.tuple_inj hy hq];exact hx⟩,st',λb hb=>(hf b hb).1⟩⟩
 done:=by
  intro X hP hw hK hc i pins s σ H E I hf st hg;subst hP hw hK;obtain⟨xs,hq,hx⟩:=hg;obtain⟨its,rv,p,hz⟩:=I.tuple hq;obtain⟨f0,f1,f2,f3,f4,f5⟩:=hf it (by simp);have hl:=rv.length;exact wpAny_pyNext_tuple_end (I.ok.hd hc) st (show s.heap.IsTuple a its.toArray from p) (by simp;omega) λh' eb=>⟨rfl,I.turned (t':=s.toks) (λb o hb e=>eb b o hb e) f0 f1 f3 f4 f5⟩
 self:=λ_ _ _ _ _ st h=>wpAny_pyIter_tupleiter st h
theorem FA{P:VY}{w:VZ}{K:Oe}{tg:VV}(it:VO)(lo:Int)(n:Nat):qX P w K tg (jP lo n) [it] it (λi h=>IsRangeIter h it (lo+(i:Nat)*1) ((n:Int) - (i:Nat)) 1) where
 mem:=by simp
 obj:=λi h st b hb=>by
  have e:b=it:=by simpa using hb
  subst e;exact⟨_,st,λv z=>by
   have z':Vu _=Data.cell v:=z;cases z'⟩
 keep:=λi h h' st k=>k it (by simp) _ st
 item:=by
  intro X hP hw hK hc i pins s σ H E I hf st hg;subst hP hw hK;obtain⟨f0,f1,f2,f3,f4,f5⟩:=hf it (by simp);have W:=Vv (prog:=X.prog) (w:=X.w) (I.ok.hd hc) it lo 1 n;refine W.item i s _ _ hg st λv h' tk hv st' kk=>?_;obtain⟨t,rfl⟩:=hv;have I1:af X pins σ H {s with heap:=h',toks:=tk}:=I.turned (λb o hb e=>kk b o (by simpa using hb) e) f0 f1 f3 f4 f5;refine⟨_,rfl,tV (s:={s with heap:=h',toks:=tk}) (n:="range_iterator") st' rfl rfl VG ⟨.int (lo+i),H,I1,⟨t,?_⟩,⟨rfl,rfl⟩,st',λb hb=>(hf b hb).1⟩⟩;rw [Int.mul_one]
 done:=by
  intro X hP hw hK hc i pins s σ H E I hf st hg;subst hP hw hK;obtain⟨f0,f1,f2,f3,f4,f5⟩:=hf it (by simp);exact wpAny_pyNext_range_end (I.ok.hd hc) st (by have:n<=i:=hg;omega) λh' eb=>⟨rfl,I.turned (t':=s.toks) (λb o hb e=>eb b o hb e) f0 f1 f3 f4 f5⟩
 self:=λ_ _ _ _ _ st h=>wpAny_pyIter_rangeiter st h
open PySem PySem.Spec PyProof.Rows
section
variable {X:Cx} {tg:VV}
def vN(K:Oe)(tl:TE):TI:=λσ H R=>tl σ H λx H1=>∃a,x= .ref a/\(∃xs,bg K H1 a xs)/\R (qY K a) H1
def vO(K:Oe)(tl:TE):TI:=λσ H R=>tl σ H λx H1=>∃a,x= .ref a/\(∃xs,bz K H1 a xs)/\R (sC K a) H1
theorem tW{l:VV}{tl:TE}(hl:PE X l tl):PI X tg l (vN X.K tl):=by
 intro pins s σ H R I h;refine aB (hl pins s σ H _ I h) λv s1 ⟨x,H1,I1,r1,q1⟩=>?_;obtain⟨a,e,⟨xs,hq⟩,q⟩:=q1;subst e;cases r1;obtain⟨its,rv,p,hz⟩:=I1.list hq;refine Xl p.isList ?_;refine⟨s1.heap.objs.size,[s1.heap.objs.size],_,_,H1,rfl,I1.kept (t':=s1.toks) λb o e=>Oo _ e,Fy a _,⟨_,OR _ rfl,rfl,rfl⟩,λb hb=>?_,q⟩;have e:b=s1.heap.objs.size:=by simpa using hb
 subst e;exact I1.fpOk (Oj _) (I1.hok.fresh (Oj _))
theorem vP{l:VV}{tl:TE}(hl:PE X l tl):PI X tg l (vO X.K tl):=by
 intro pins s σ H R I h;refine aB (hl pins s σ H _ I h) λv s1 ⟨x,H1,I1,r1,q1⟩=>?_;obtain⟨a,e,⟨xs,hq⟩,q⟩:=q1;subst e;cases r1;obtain⟨its,rv,p,hz⟩:=I1.tuple hq;refine wpAny_pyIter_tuple (show s1.heap.IsTuple a its.toArray from p) ?_;refine⟨s1.heap.objs.size,[s1.heap.objs.size],_,_,H1,rfl,I1.kept (t':=s1.toks) λb o e=>Oo _ e,Fz a _,⟨_,OR _ rfl,rfl,rfl⟩,λb hb=>?_,q⟩;have e:b=s1.heap.objs.size:=by simpa using hb
 subst e;exact I1.fpOk (Oj _) (I1.hok.fresh (Oj _))
theorem FC{pins:List (VO×Obj)}{σ:St}{H:Hp}{s:VP}{R:It->Hp->Prop}{E:VM->VP->Prop}{lo hi:Int}{t u v:Tok}{tk:Nat}(I:af X pins σ H s)(h1:-(2 ^ 62)<=lo)(h2:lo < 2 ^ 62)(h3:-(2 ^ 62)<=hi)(h4:hi < 2 ^ 62)
 (q:R (jP lo (hi - lo).toNat) H):VS (VU X.prog X.w) X.A (pyIter (.ref s.heap.objs.size)) (zg X pins σ tg R) E {s with heap:=s.heap.push {cls:= .type "range",data:= .fields #[.int lo t,.int hi u,.int 1 v]},toks:=tk}:=by
 refine wpAny_pyIter_range (Vw ..) (small_one h1 h2 h3 h4) ?_;have I1:af X pins σ H {s with heap:=s.heap.push {cls:= .type "range",data:= .fields #[.int lo t,.int hi u,.int 1 v]},toks:=tk}:=I.kept λb o e=>Oo _ e;refine⟨(s.heap.push {cls:= .type "range",data:= .fields #[.int lo t,.int hi u,.int 1 v]}).objs.size,[(s.heap.push {cls:= .type "range",data:= .fields #[.int lo t,.int hi u,.int 1 v]}).objs.size],_,_,H,rfl,
  I1.kept (t':=tk) λb o e=>Oo _ e,FA _ lo (hi - lo).toNat,?_,λb hb=>?_,q⟩
 ·have e1:lo+((0:Nat):Int)*1=lo:=by simp
  have e2:(((hi - lo).toNat:Nat):Int) - ((0:Nat):Int)=RO lo hi 1:=by rw [rangeSize_one];split <;> omega
  show IsRangeIter _ _ (lo+((0:Nat):Int)*1) ((((hi - lo).toNat:Nat):Int) - ((0:Nat):Int)) 1;rw [e1,e2];exact OR _ rfl
 ·have e:b=(s.heap.push {cls:= .type "range",data:= .fields #[.int lo t,.int hi u,.int 1 v]}).objs.size:=by simpa using hb
  subst e;exact I1.fpOk (Oj _) (I1.hok.fresh (Oj _))
def vQ(ta:TA):TI:=λσ H R=>ta σ H λvs H1=>∃j:Int,vs=[.int j]/\-(2 ^ 62)<=j/\j < 2 ^ 62/\R (jP 0 j.toNat) H1
def zh(ta:TA):TI:=λσ H R=>ta σ H λvs H1=>∃i j:Int,vs=[.int i,.int j]/\(-(2 ^ 62)<=i/\i < 2 ^ 62/\-(2 ^ 62)<=j/\j < 2 ^ 62)/\R (jP i (j - i).toNat) H1
theorem vR{a:VV}{ta:TA}{p pos:Pos}(hg:Gl X "range")(hm:X.mg "range"=none)(ha:PA X [a] ta)(hs:VT [a] X.env=[(false,eval a X.env)]:=by rfl):PI X tg (.Call (.Name "range" p) [a] [] pos) (vQ ta):=by
 intro pins s σ H R I h;refine Call_ (qW I hg hm boot_range (Rk (aB (ha pos pins s σ H _ I h) λus s1 ⟨vs,H1,I1,r1,q1⟩=>?_) hs rfl));obtain⟨j,e,q1,q2,q⟩:=q1;subst e;cases r1 with
 | cons r rr=>
  cases rr;obtain⟨t,rfl⟩:=r;exact call_range_1 (FC I1 VH VH q1 q2 (by simpa using q))
def sE(wi:TI)(g:TG)(tb:TS):TS:=λD σ H=>wi σ H λJ H1=>∃W:Nat->Nat->St->Hp->Prop,(∃m,W 0 m σ H1)/\∀i m σ H,W i m σ H->
 (J.stop i H/\D.nx σ H)\/(J.go i H/\∃N:St->Hp->Prop,(∀σ' H',N σ' H'->∃m',m' < m/\W (i+1) m' σ' H')/\∀x H',J.yld i H x H'->g x σ H' λσ2 H2=>tb {D with nx:=N,ct:=N,bk:=D.nx} σ2 H2)
def sF(fp:List VO)(h:V0):List (VO×Obj):=fp.filterMap λb=>(h.get? b).map λo=>(b,o)
theorem tX{fp:List VO}{h:V0}{b:VO}{o:Obj}(hb:b∈fp)(e:h.get? b=some o):(b,o)∈sF fp h:=RQ.mpr ⟨b,hb,by rw [e];rfl⟩
theorem FD{fp:List VO}{h:V0}{p:VO×Obj}(hp:p∈sF fp h):p.1∈fp/\h.get? p.1=some p.2:=by
 obtain⟨b,hb,e⟩:=RQ.mp hp;cases q:h.get? b with
 | none=>rw [q] at e;cases e
 | some o=>
  rw [q] at e;have e':(b,o)=p:=Pf e;subst e';exact⟨hb,q⟩
theorem af.pinned{pins:List (VO×Obj)}{σ:St}{H:Hp}{s:VP}{fp:List VO}(I:af X pins σ H s)(hf:∀b∈fp,g7 X pins H b)(ho:∀b∈fp,∃o,s.heap.get? b=some o/\∀v,o.data≠ .cell v):af X (pins++sF fp s.heap) σ H s:=
 I.pins_of λp hp=>(OL.mp hp).elim (λz=>I.pin p (Pq _ z)) λz=>by
  obtain⟨hb,e⟩:=FD z;obtain⟨f0,f1,f2,_⟩:=hf p.1 hb;obtain⟨o,e',d⟩:=ho p.1 hb;rw [e] at e';cases e';exact⟨e,f0,f1,f2,d⟩
theorem af.unpinned{pins pl:List (VO×Obj)}{σ:St}{H:Hp}{s:VP}(I:af X (pins++pl) σ H s):af X pins σ H s:=I.pins_of λp hp=>I.pin p (Pq _ (R7 _ hp))
theorem tY{iter:VV}{body:List V1}{wi:TI}{g:TG}{tb:TS}{pos:Pos}(hp:W2 (VU X.prog X.w) X.A X.env X.xe)(hc:X.calm=true)(hi:PI X tg iter wi)(hg:PG X tg g)(hb:bQ X body tb)
 (hs:∀x,V3 iter X.env x=pure x:=by intro _;rfl):PS X (.For tg iter body [] pos) (sE wi g tb):=by
 intro pins s σ H D I h;refine wpAny_For (aB (hi pins s σ H _ I h) λv s1 h1=>aB h1 λitv s2 h2=>?_) hs;obtain⟨it,fp,tn,J,H2,e,I2,T,st2,f2,W,⟨m0,w0⟩,turn⟩:=h2;subst e;have stat:∀{H':Hp},(∀b∈fp,H' b=none)->∀b∈fp,g7 X pins H' b:=λhn b hb=>⟨hn b hb,(f2 b hb).2⟩;refine codeAny_forLoop_any (λn s'=>∃i σ' H',af X pins σ' H' s'/\tn i s'.heap/\(∀b∈fp,H' b=none)/\W i n σ' H') ?_ m0 ⟨0,σ,H2,I2,st2,λb hb=>(f2 b hb).1,w0⟩;rintro n s3 ⟨i,σ3,H3,I3,st3,fr3,w3⟩;rcases turn i n σ3 H3 w3 with⟨stop,qn⟩ | ⟨go,N,hN,step⟩
 ·refine Wt hp (aB (T.done X rfl rfl rfl hc i pins s3 σ3 H3 X.xe I3 (stat fr3) st3 stop) λr s4 ⟨hr,I4⟩=>?_);subst hr;exact W4 ⟨σ3,H3,I4,qn⟩
 ·refine Wt hp (aB (T.item X rfl rfl rfl hc i pins s3 σ3 H3 X.xe I3 (stat fr3) st3 go) λr s4 ⟨u,hr,h4⟩=>?_);subst hr;refine Wt hp (aB h4 λ_ s5 ⟨x,H5,I5,r5,y5,st5,fr5⟩=>?_);have I5':=I5.pinned (stat fr5) (T.obj _ _ st5);refine Wt hp (aB (hg _ s5 σ3 H5 x u _ I5' r5 (step x H5 y5)) λ_ s6 ⟨σ6,H6,I6,q6⟩=>?_);refine Wt hp (aB (hb _ s6 σ6 H6 _ I6 q6) λf s7 q7=>?_);have again:∀{σ7:St}{H7:Hp},af X (pins++sF fp s5.heap) σ7 H7 s7->N σ7 H7->∃m,m < n/\∃i σ' H',af X pins σ' H' s7/\tn i s7.heap/\(∀b∈fp,H' b=none)/\W i m σ' H':=λ{σ7 H7} I7 n7=>by
   obtain⟨m',hm,w7⟩:=hN σ7 H7 n7;refine⟨m',hm,i+1,σ7,H7,I7.unpinned,T.keep _ _ _ st5 λb hb o e=>(I7.pin (b,o) (Pq _ (Pq _ (tX hb e)))).1,λb hb=>?_,w7⟩;obtain⟨o,e,d⟩:=T.obj _ _ st5 b hb;exact(I7.pin (b,o) (Pq _ (Pq _ (tX hb e)))).2.1
  cases f with
  | next=>obtain⟨σ7,H7,I7,n7⟩:=q7;exact again I7 n7
  | cont=>obtain⟨σ7,H7,I7,n7⟩:=q7;exact again I7 n7
  | brk=>obtain⟨σ7,H7,I7,q7⟩:=q7;exact⟨σ7,H7,I7.unpinned,q7⟩
  | ret v=>obtain⟨x7,σ7,H7,I7,r7,q7⟩:=q7;exact⟨x7,σ7,H7,I7.unpinned,r7,q7⟩
end
open PySem PySem.Spec PyProof.Rows
abbrev R2:=V->V->Hp->VK->Prop
def bH(X:Cx)(f:VM->VM->Sem VM)(r:R2):Prop:=
 ∀(pins:List (VO×Obj))(s:VP)(σ:St)(H:Hp)(x y:V)(v u:VM)(Q:VK),af X pins σ H s->aE x v->aE y u->r x y H Q->
  VS (VU X.prog X.w) X.A (f v u) (EP X pins σ Q) X.xe s
def vS(X:Cx)(f:VM->Sem VM)(r:V->Hp->VK->Prop):Prop:=
 ∀(pins:List (VO×Obj))(s:VP)(σ:St)(H:Hp)(x:V)(v:VM)(Q:VK),af X pins σ H s->aE x v->r x H Q->
  VS (VU X.prog X.w) X.A (f v) (EP X pins σ Q) X.xe s
def eF(X:Cx)(f:VM)(r:List V->Hp->VK->Prop):Prop:=
 ∀(pins:List (VO×Obj))(s:VP)(σ:St)(H:Hp)(xs:List V)(us:List VM)(Q:VK),af X pins σ H s->aK xs us->r xs H Q->
  VS (VU X.prog X.w) X.A (call f us) (EP X pins σ Q) X.xe s
def FF(X:Cx)(r:V->Hp->(Bool->Hp->Prop)->Prop):Prop:=
 ∀(pins:List (VO×Obj))(s:VP)(σ:St)(H:Hp)(x:V)(v:VM)(Q:Bool->Hp->Prop),af X pins σ H s->aE x v->r x H Q->
  VS (VU X.prog X.w) X.A (truthy v) (TP X pins σ Q) X.xe s
def qZ(r:R2)(ta tb:TE):TE:=λσ H Q=>ta σ H λx H1=>tb σ H1 λy H2=>r x y H2 Q
def zi(r:V->Hp->VK->Prop)(ta:TE):TE:=λσ H Q=>ta σ H λx H1=>r x H1 Q
def rI(C:Int->Int->Prop)(g:Int->Int->V):R2:=λx y H Q=>∃i j,x= .int i/\y= .int j/\C i j/\Q (g i j) H
def g8(g:Int->Int->V):R2:=λx y H Q=>∃i j,x= .int i/\y= .int j/\Q (g i j) H
def rU(g:Int->V):V->Hp->VK->Prop:=λx H Q=>∃i,x= .int i/\Q (g i) H
section
variable {X:Cx} {a b c:VV} {ta tb tc:TE} {pos:Pos}
theorem vT(ha:PE X a ta)(hb:PE X b tb){pins:List (VO×Obj)}{s:VP}{σ:St}{H:Hp}{R:V->V->Hp->Prop}(I:af X pins σ H s)
 (h:ta σ H λx H1=>tb σ H1 λy H2=>R x y H2){Q:VM->VP->Prop}{f:VM->VM->Sem VM}
 (hf:∀v u s2 x y H2,af X pins σ H2 s2->aE x v->aE y u->R x y H2->VS (VU X.prog X.w) X.A (f v u) Q X.xe s2):
 VS (VU X.prog X.w) X.A (eval a X.env) (λv s₁=>VS (VU X.prog X.w) X.A (eval b X.env) (λu s₂=>VS (VU X.prog X.w) X.A (f v u) Q X.xe s₂) X.xe s₁) X.xe s:=by
 refine aB (ha pins s σ H _ I h) λv s1 ⟨x,H1,I1,r1,q1⟩=>?_;refine aB (hb pins s1 σ H1 _ I1 q1) λu s2 ⟨y,H2,I2,r2,q2⟩=>?_;exact hf v u s2 x y H2 I2 r1 r2 q2
theorem zj{op:Operator}{r:R2}(ho:bH X (Wm op) r)(ha:PE X a ta)(hb:PE X b tb):PE X (.BinOp a op b pos) (qZ r ta tb):=by
 intro pins s σ H Q I h;exact wpAny_BinOp (vT ha hb I h λv u s2 x y H2 I2 rx ry q=>ho pins s2 σ H2 x y v u Q I2 rx ry q)
theorem FG{op:UnaryOp}{r:V->Hp->VK->Prop}(ho:vS X (unaryOp op) r)(ha:PE X a ta):PE X (.UnaryOp op a pos) (zi r ta):=by
 intro pins s σ H Q I h;exact UnaryOp_ (aB (ha pins s σ H _ I h) λv s1 uu28=>by obtain⟨x,H1,I1,r1,q1⟩:=uu28;exact ho pins s1 σ H1 x v Q I1 r1 q1)
theorem tZ{f:VM->VM->Sem VM}{C:Int->Int->Prop}{g:Int->Int->Int}
 (rule:∀(i j:Int) (t u:Tok) (s:VP) (Q:VM->VP->Prop) (E:VM->VP->Prop),C i j->Q (.int (g i j) s.toks) {s with toks:=s.toks+1}->VS (VU X.prog X.w) X.A (f (.int i t) (.int j u)) Q E s):
 bH X f (rI C λi j=>.int (g i j)):=by
 intro pins s σ H x y v u Q I rx ry h;obtain⟨i,j,rfl,rfl,hc,q⟩:=h;obtain⟨t,rfl⟩:=rx;obtain⟨t',rfl⟩:=ry;exact rule i j t t' s _ _ hc ⟨.int (g i j),H,I.tok _,⟨_,rfl⟩,q⟩
theorem zk{f:VM->VM->Sem VM}{g:Int->Int->Int}
 (rule:∀(i j:Int) (t u:Tok) (s:VP) (Q:VM->VP->Prop) (E:VM->VP->Prop),Q (.int (g i j) s.toks) {s with toks:=s.toks+1}->VS (VU X.prog X.w) X.A (f (.int i t) (.int j u)) Q E s):
 bH X f (g8 λi j=>.int (g i j)):=by
 intro pins s σ H x y v u Q I rx ry h;obtain⟨i,j,rfl,rfl,q⟩:=h;obtain⟨t,rfl⟩:=rx;obtain⟨t',rfl⟩:=ry;exact rule i j t t' s _ _ ⟨.int (g i j),H,I.tok _,⟨_,rfl⟩,q⟩
theorem t6{f:VM->VM->Sem VM}{g:Int->Int->Bool}
 (rule:∀(i j:Int) (t u:Tok) (s:VP) (Q:VM->VP->Prop) (E:VM->VP->Prop),Q (.bool (g i j)) s->VS (VU X.prog X.w) X.A (f (.int i t) (.int j u)) Q E s):
 bH X f (g8 λi j=>.bl (g i j)):=by
 intro pins s σ H x y v u Q I rx ry h;obtain⟨i,j,rfl,rfl,q⟩:=h;obtain⟨t,rfl⟩:=rx;obtain⟨t',rfl⟩:=ry;exact rule i j t t' s _ _ ⟨.bl (g i j),H,I,rfl,q⟩
def iL(i j:Int):Prop:=0 < j/\j < 1073741824
def iM(i j:Int):Prop:=0<=j/\j<=1000000/\i.natAbs < 2 ^ 64
def gE(i j:Int):Prop:=(-(2 ^ 64) < i/\i < 2 ^ 64)\/(-(2 ^ 64) < j/\j < 2 ^ 64)
theorem gE.ok{i j:Int}(h:gE i j):IntMulOk i j:=by
 rcases h with⟨h1,h2⟩ | ⟨h1,h2⟩
 ·exact .of_left (intBits_le_64 h1 h2)
 ·exact .of_right (intBits_le_64 h1 h2)
theorem dY:bH X (Wm .Add) (g8 λi j=>.int (i+j)):=zk λ_ _ _ _ _ _ _ q=>add_int q
theorem vU:bH X (Wm .Sub) (g8 λi j=>.int (i - j)):=zk λ_ _ _ _ _ _ _ q=>sub_int q
theorem mM:bH X (Wm .Mult) (rI gE λi j=>.int (i*j)):=tZ λ_ _ _ _ _ _ _ hc q=>mul_int q hc.ok
theorem q5:bH X (Wm .FloorDiv) (rI iL λi j=>.int (i / j)):=tZ λi j _ _ _ _ _ hc q=>by
 have h1:(0:Int) < j:=hc.1;have h2:j < 1073741824:=hc.2;exact floordiv_int VH (by rw [Int.fdiv_eq_ediv_of_nonneg i VH];exact q) (.inl (PyProof.noPylong_small VH))
theorem bJ:bH X (Wm .Mod) (rI (λ_ j=>0 < j) λi j=>.int (i % j)):=tZ λi j _ _ _ _ _ hc q=>by
 have h1:(0:Int) < j:=hc;exact mod_int' VH (by rw [Int.fmod_eq_emod_of_nonneg i VH];exact q)
theorem FH:bH X (Wm .Pow) (rI iM λi j=>.int (i ^ j.toNat)):=tZ λ_ _ _ _ _ _ _ hc q=>pow_int_small hc.1 hc.2.1 hc.2.2 q
theorem FI{f:VM->Sem VM}{g:Int->Int}
 (rule:∀(i:Int) (t:Tok) (s:VP) (Q:VM->VP->Prop) (E:VM->VP->Prop),Q (.int (g i) s.toks) {s with toks:=s.toks+1}->VS (VU X.prog X.w) X.A (f (.int i t)) Q E s):
 vS X f (rU λi=>.int (g i)):=by
 intro pins s σ H x v Q I rx h;obtain⟨i,rfl,q⟩:=h;obtain⟨t,rfl⟩:=rx;exact rule i t s _ _ ⟨.int (g i),H,I.tok _,⟨_,rfl⟩,q⟩
theorem FJ:vS X (unaryOp .USub) (rU λi=>.int (-i)):=FI λ_ _ _ _ _ q=>neg_int q
end
section
variable {X:Cx} {a b c:VV} {ta tb tc:TE} {pos:Pos}
theorem iN{pins:List (VO×Obj)}{σ:St}{H:Hp}{s:VP}{Q:VK}{k k':Bool}(I:af X pins σ H s)(q:Q (.bl k) H)(e:k=k'):EP X pins σ Q (.bool k') s:=by
 subst e;exact⟨.bl k,H,I,rfl,q⟩
theorem sG:bH X (V8 .Lt) (g8 λi j=>.bl (decide (i < j))):=t6 λ_ _ _ _ _ _ _ q=>lt_int q
theorem qt:bH X (V8 .LtE) (g8 λi j=>.bl (decide (i<=j))):=t6 λ_ _ _ _ _ _ _ q=>le_int q
theorem sH:bH X (V8 .Gt) (g8 λi j=>.bl (decide (j < i))):=t6 λ_ _ _ _ _ _ _ q=>gt_int q
theorem FK:bH X (V8 .GtE) (g8 λi j=>.bl (decide (j<=i))):=t6 λ_ _ _ _ _ _ _ q=>ge_int q
theorem sI:bH X (V8 .Is) (λx y H Q=>y= .non/\Q (.bl (decide (x= .non))) H):=by
 intro pins s σ H x y v u Q I rx ry h;obtain⟨rfl,q⟩:=h;cases ry;refine is_none_gen (iN I q ?_);cases x <;> first
  | (cases rx;rfl)
  | (obtain⟨t,rfl⟩:=rx;rfl)
theorem vV:bH X (V8 .IsNot) (λx y H Q=>y= .non/\Q (.bl (!decide (x= .non))) H):=by
 intro pins s σ H x y v u Q I rx ry h;obtain⟨rfl,q⟩:=h;cases ry;refine isnot_none_gen (iN I q ?_);cases x <;> first
  | (cases rx;rfl)
  | (obtain⟨t,rfl⟩:=rx;rfl)
theorem aM(b:VV){op:CmpOp}(h:op≠ .In:=by decide)(h2:op≠ .NotIn:=by decide):Wg op b=false:=by
 have e1:(op==CmpOp.In)=false:=by cases op <;> first | rfl | exact absurd rfl h
 have e2:(op==Vt)=false:=by cases op <;> first | rfl | exact absurd rfl h2
 cases b <;> simp [Wg,e1,e2]
theorem FL{op:CmpOp}{r:R2}(ho:bH X (V8 op) r)(ha:PE X a ta)(hb:PE X b tb)(hm:Wg op b=false):PE X (.Compare a [op] [b] pos) (qZ r ta tb):=by
 intro pins s σ H Q I h;exact wpAny_Compare1 (vT ha hb I h λv u s2 x y H2 I2 rx ry q=>ho pins s2 σ H2 x y v u Q I2 rx ry q) hm
def zm(t:TE):TT:=λσ H Q=>t σ H λx H'=>∃k,x= .bl k/\Q k H'
theorem FN{op:CmpOp}{r:R2}(ho:bH X (V8 op) r)(ha:PE X a ta)(hb:PE X b tb)(hm:Wg op b=false):PT X (.Compare a [op] [b] pos) (zm (qZ r ta tb)):=by
 intro pins s σ H Q I h;refine wpAny_isTrue_Compare1 (aB (ha pins s σ H _ I h) λv s1 ⟨x,H1,I1,r1,q1⟩=>aB (hb pins s1 σ H1 _ I1 q1) λu s2 ⟨y,H2,I2,r2,q2⟩=>
  aB (ho pins s2 σ H2 x y v u _ I2 r1 r2 q2) λc s3 ⟨z,H3,I3,r3,k,e,q3⟩=>?_) hm
 subst e;cases r3;exact Wk ⟨H3,I3,q3⟩
def zo(K:Oe)(x:V)(H:Hp)(k:Bool):Prop:=
 match x with
 | .non=>k=false
 | .bl b=>k=b
 | .int i=>k=(i !=0)
 | .str y=>y.length<=VW/\k=((y.length:Int) !=0)
 | .byt y=>y.size<=VW/\k=((y.size:Int) !=0)
 | .ref p=>(∃xs,bg K H p xs/\k=!xs.isEmpty)\/(∃xs,bz K H p xs/\k=!xs.isEmpty)\/∃kvs,H p=some (.dK kvs)/\k=!kvs.isEmpty
 | _=>False
theorem FO{κ:Type}{kvs:List (κ×V)}{vs:List (κ×VM)}(r:KV kvs vs):(!vs.isEmpty)=!kvs.isEmpty:=by
 cases r <;> rfl
theorem zp{xs:List V}{its:List VM}(r:aK xs its):(!its.toArray.isEmpty)=!xs.isEmpty:=by
 cases r <;> simp
theorem sJ:(VW:Nat) < 2 ^ 63:=by rw [Wh];decide
theorem FP:FF X (λx H Q=>∃k,zo X.K x H k/\Q k H):=by
 intro pins s σ H x v Q I rx h;obtain⟨k,e,q⟩:=h;have hl:=sJ;have hs:VW=16777216:=Wh;cases x with
 | non=>
  cases rx;have e':k=false:=e;subst e';exact truthy_none ⟨H,I,q⟩
 | bl b=>
  cases rx;have e':k=b:=e;subst e';exact Wk ⟨H,I,q⟩
 | int i=>
  obtain⟨t,rfl⟩:=rx;have e':k=(i !=0):=e;subst e';exact PySem.P.truthy_int ⟨H,I,q⟩
 | str y=>
  obtain⟨t,rfl⟩:=rx;obtain⟨hy,e'⟩:y.length<=VW/\k=((y.length:Int) !=0):=e;subst e';exact PySem.P.truthy_str VH ⟨H,I.tok _,q⟩
 | byt y=>
  obtain⟨t,rfl⟩:=rx;obtain⟨hy,e'⟩:y.size<=VW/\k=((y.size:Int) !=0):=e;subst e';exact PySem.W.truthy_bytes VH ⟨H,I.tok _,q⟩
 | ref p=>
  cases rx;have e':(∃xs,bg X.K H p xs/\k=!xs.isEmpty)\/(∃xs,bz X.K H p xs/\k=!xs.isEmpty)\/∃kvs,H p=some (.dK kvs)/\k=!kvs.isEmpty:=e;rcases e' with⟨xs,hx,e'⟩ | ⟨xs,hx,e'⟩ | ⟨kvs,hx,e'⟩
  ·subst e';obtain⟨its,r,pl,hz⟩:=I.list hx;have hlen:=r.length;exact wpAny_truthy_list pl.isList (by simp only [OI];omega) ⟨H,I.tok _,by rw [zp r];exact q⟩
  ·subst e';obtain⟨its,r,pl,hz⟩:=I.tuple hx;have hlen:=r.length;exact truthy_tuple pl (by simp only [OI];omega) ⟨H,I.tok _,by rw [zp r];exact q⟩
  ·subst e';obtain⟨hz,hS,vs,r,m⟩:kvs.length<=VW/\(p==Wr)=false/\∃vs,KV kvs vs/\s.heap.DictOf (dn X.prog X.w) p vs:=I.hok p _ hx;have hlen:kvs.length=vs.length:=Tf r;exact wpAny_truthy_dict hS m VH ⟨H,I.tok _,by rw [FO r];exact q⟩
 | _=>exact(show False from e).elim
theorem FQ(ha:PE X a ta)(he:∀whole,isTrue a X.env whole=(do let v<-whole;W0 a.pos;WR [v] (truthy v))):
 PT X a (λσ H Q=>ta σ H λx H'=>∃k,zo X.K x H' k/\Q k H'):=by
 intro pins s σ H Q I h;exact isTrue_plain (aB (ha pins s σ H _ I h) λv s1 uu32=>by obtain⟨x,H1,I1,r1,q1⟩:=uu32;exact FP pins s1 σ H1 x v Q I1 r1 q1) (he _)
theorem zq:bH X (Wm .Add) (λx y H Q=>∃i j,x= .str i/\y= .str j/\i.length+j.length<=VW/\Q (.str (i++j)) H):=by
 intro pins s σ H x y v u Q I rx ry h;obtain⟨i,j,rfl,rfl,hz,q⟩:=h;obtain⟨t,rfl⟩:=rx;obtain⟨t',rfl⟩:=ry;exact add_str (λt' tk=>⟨.str (i++j),H,I.tok _,⟨_,rfl⟩,q⟩) hz
theorem fD{x:V}{us:List VM}(r:aK [x] us):∃u,us=[u]/\aE x u:=by
 cases r with
 | cons r1 r2=>cases r2;exact⟨_,rfl,r1⟩
theorem zr{x y:V}{us:List VM}(r:aK [x,y] us):∃u w',us=[u,w']/\aE x u/\aE y w':=by
 cases r with
 | cons r1 r2=>
  cases r2 with
  | cons r3 r4=>cases r4;exact⟨_,_,rfl,r1,r3⟩
theorem FT:eF X (.builtin "abs") (λxs H Q=>∃i,xs=[.int i]/\Q (.int (if i < 0 then -i else i)) H):=by
 intro pins s σ H xs us Q I r h;obtain⟨i,rfl,q⟩:=h;obtain⟨u,rfl,t,rfl⟩:=fD r;exact call_abs_int λu tk=>⟨.int (if i < 0 then -i else i),H,I.tok _,⟨_,rfl⟩,q⟩
theorem FU(hc:X.calm=true):eF X (.builtin "max") (λxs H Q=>∃i j,xs=[.int i,.int j]/\Q (.int (if j > i then j else i)) H):=by
 intro pins s σ H xs us Q I r h;obtain⟨i,j,rfl,q⟩:=h;obtain⟨u,w',rfl,⟨t,rfl⟩,⟨t',rfl⟩⟩:=zr r;refine max_two_ints (I.ok.hd hc) λh' tk k=>⟨_,H,I.kept k,?_,q⟩;by_cases hj:j > i
 ·rw [VJ hj,VJ hj];exact⟨_,rfl⟩
 ·rw [VI hj,VI hj];exact⟨_,rfl⟩
theorem FV(hc:X.calm=true):eF X (.builtin "min") (λxs H Q=>∃i j,xs=[.int i,.int j]/\Q (.int (if j < i then j else i)) H):=by
 intro pins s σ H xs us Q I r h;obtain⟨i,j,rfl,q⟩:=h;obtain⟨u,w',rfl,⟨t,rfl⟩,⟨t',rfl⟩⟩:=zr r;refine min_two_ints (I.ok.hd hc) λh' tk k=>⟨_,H,I.kept k,?_,q⟩;by_cases hj:j < i
 ·rw [VJ hj,VJ hj];exact⟨_,rfl⟩
 ·rw [VI hj,VI hj];exact⟨_,rfl⟩
theorem zt:eF X (.type "int") (λxs H Q=>(∃i,xs=[.int i]/\Q (.int i) H)\/∃k,xs=[.bl k]/\Q (.int (if k then 1 else 0)) H):=by
 intro pins s σ H xs us Q I r h;rcases h with⟨i,rfl,q⟩ | ⟨k,rfl,q⟩
 ·obtain⟨u,rfl,t,rfl⟩:=fD r;exact call_int_int ⟨.int i,H,I,⟨_,rfl⟩,q⟩
 ·obtain⟨u,rfl,r1⟩:=fD r;cases r1;exact call_int_bool ⟨.int (if k then 1 else 0),H,I.tok _,⟨_,rfl⟩,q⟩
end
open PySem PySem.Spec PyProof.Rows
structure qu (h:V0) (x dx C:VO) (mA:Str->Option VM):Prop where
 obj:h.get? x=some (QZ C dx)
 ns:h.Ns1 dx mA
 ne:dx≠x
theorem FW{h:V0}{dx:VO}{mA:Str->Option VM}(n:h.Ns1 dx mA):∃od,h.get? dx=some od/\∀name,S7 name od=some (mA name):=by
 obtain⟨o,es,ep,ho,hd,hk,_,hm⟩:=n;refine⟨o,ho,λname=>?_⟩;have e:=hm name;unfold nsFind findBy at e;rw [<-Array.find?_toList] at e;unfold S7;rw [hd];dsimp only;split
 ·rename_i y q;rw [q] at e;exact congrArg some e
 ·rename_i q;rw [q] at e;have a:es.toList.any (·.refKey)=false:=by
   rw [UI];intro y hy;obtain⟨z,t,hkey⟩:=hk y (Ug.mp hy);simp [DictEntry.refKey,hkey]
  have a':¬es.toList.any (·.refKey)=true:=by rw [a];exact OF
  rw [VI a'];exact congrArg some e
theorem qu.look{h:V0}{x dx C:VO}{mA:Str->Option VM}(I:qu h x dx C mA):∃od,PySem.W.InstAt h x (QZ C dx) C (some od)/\∀name,S7 name od=some (mA name):=
 let ⟨od,ho,hl⟩:=FW I.ns
 ⟨od,⟨I.obj,rfl,rfl,ho⟩,hl⟩
section
variable {prog:VY} {w:VZ} {A:V2} {E:VM->VP->Prop} {s:VP} {K:Oe} {x dx C f:VO} {mA:Str->Option VM} {name:Str} {v:VM}
theorem FX{expr:Bool}{Q:VM->VP->Prop}(X:K.In s.heap)(I:qu s.heap x dx C mA)(hg:Rb K C name=true)(hh:RA K C=true)
 (ha:OP K (.ref C) name=some none)(hv:mA name=some v)(hv':UU v=true)(h:Q v {s with toks:=s.toks+1}):
 VS (VU prog w) A (getAttr (.ref x) name expr) Q E s:=by
 obtain⟨od,J,hl⟩:=I.look;exact PySem.W.get_value X J (S5 hg).1 (PySem.W.findObj_own hh ha rfl (by rw [hl,hv])) hv' h
theorem FY{pl:Sem Bool}{Q:VM×List VM->VP->Prop}(X:K.In s.heap)(I:qu s.heap x dx C mA)(hg:Rb K C name=true)
 (hf:OP K (.ref C) name=some (some (.ref f)))(ht:QK K (.ref f)=true)(hv:mA name=none)(h:Q (.ref f,[.ref x]) s):
 VS (VU prog w) A (W3 (.ref x) name pl) Q E s:=by
 obtain⟨od,J,hl⟩:=I.look;exact PySem.W.method_fn X J (S5 hg).1 (S5 hg).2 hf (beq_iff_eq.mp ht) (by show(S7 name od).map (·.isSome)=some false;rw [hl,hv];rfl) h
theorem FZ{ns:List Str}{Q:Unit->VP->Prop}(X:K.In s.heap)(I:qu s.heap x dx C mA)
 (hs:OP K (.ref C) "__setattr__"=some (some (.builtin "object.__setattr__")))(hp:RW K C=true)(ht:T1 K C name=some none)(hh:RA K C=true)
 (hw:Ut mA ns)(hsz:ns.length<=VW)
 (h:∀h',qu h' x dx C (λy=>if y=name then some v else mA y)->Q0 dx s.heap h'->Q () {s with heap:=h',toks:=s.toks+2}):
 VS (VU prog w) A (setAttr (.ref x) name v) Q E s:=by
 obtain⟨od,J,hl⟩:=I.look;refine PySem.W.set_plain X J hs (PySem.W.osa_open (s:={s with toks:=s.toks+1}) (r:=none) X J hp ht λb=>?_);obtain⟨cd,hc,hd'⟩:=PySem.W.any_some hh;have hx:s.heap.get? x=some ⟨.ref C,some dx,.plain,#[]⟩:=I.obj;refine VN (VQ (VN (VN (wpAny_loadPart hx (VN (PySem.W.Looks.here (s:={s with toks:=s.toks+1}) (PySem.W.looks_clsIn X hc) ?_))))));rw [hd'];refine VQ (a:=some dx) (VN (VQ (VN ?_)));refine wpAny_nsSet1 (s:={s with toks:=s.toks+1}) I.ns λh' hn2 hs2=>?_;obtain⟨oD,esD,epD,hoD,hdD,hcD⟩:=hn2.count (Ut.cons name v hw);refine VN (wpAny_lookBehind hoD (by rw [hdD];exact pastItsLine_dict (O6 hcD (by rw [Oz];omega))) ?_);exact VQ (h _ ⟨(hs2.2 _ (Ne.symm I.ne)).trans I.obj,hn2,I.ne⟩ hs2)
theorem Ga{R:Result->VP->Prop}{vs:List VM}{kw:List (Str×VM)}(X:K.In s.heap)(hm:Se K C=true)
 (hi:OP K (.ref C) "__init__"=some (some (.ref f)))(hf:PySem.W.typeIn K (.ref f)=some (.type "function"))
 (h:WA (VU prog w) (A.under (.builtin "type.__call__" ⟨.ref C::vs,kw⟩)) (.call (.ref f) ⟨.ref (s.heap.objs.size+1)::vs,kw⟩) (PySem.W.InitBack (s.heap.objs.size+1) R)
   {s with heap:=(s.heap.push Qs).push (QZ C s.heap.objs.size)}):
 WA (VU prog w) A (.call (.ref C) ⟨vs,kw⟩) R s:=by
 obtain⟨hh,g,d,t,os⟩:=s;exact PySem.W.make_core (PySem.W.makes_of X hm) (PySem.W.looks_findIn X hi) (λself=>PySem.W.bind_fn X self hf) (.inl rfl) h
end
def cN(f:Str)(v:V):List (Str×V)->List (Str×V)
 | []=>[(f,v)]
 | (g,x)::r=>if g=f then(g,v)::r else(g,x)::cN f v r
theorem zu(f g:Str)(v:V):∀fs:List (Str×V),(cN f v fs).lookup g=if g=f then some v else fs.lookup g
 | []=>by
  show Sa g [(f,v)]=_;by_cases h:g=f
  ·have hb:(g==f)=true:=beq_iff_eq.mpr h;simp only [Sa,hb,VJ h]
  ·have hb:(g==f)=false:=beq_eq_false_iff_ne.mpr h;simp only [Sa,hb,VI h]
 | (k,x)::r=>by
  have ih:=zu f g v r;rw [show cN f v ((k,x)::r)=(if k=f then(k,v)::r else(k,x)::cN f v r) from rfl];by_cases hk:k=f
  ·rw [VJ hk];by_cases h:g=k
   ·have hb:(g==k)=true:=beq_iff_eq.mpr h;simp only [Sa,hb,VJ (h.trans hk)]
   ·have hb:(g==k)=false:=beq_eq_false_iff_ne.mpr h;simp only [Sa,hb,VI (λe:g=f=>h (e.trans hk.symm))]
  ·rw [VI hk];by_cases h:g=k
   ·have hb:(g==k)=true:=beq_iff_eq.mpr h;simp only [Sa,hb,VI (λe:g=f=>hk (h.symm.trans e))]
   ·have hb:(g==k)=false:=beq_eq_false_iff_ne.mpr h;simp only [Sa,hb];exact ih
theorem vW(f:Str)(v:V):∀fs:List (Str×V),f∈(cN f v fs).map (·.1)/\∀g,g∈fs.map (·.1)->g∈(cN f v fs).map (·.1)
 | []=>⟨by simp [cN],λg h=>by simp at h⟩
 | (k,x)::r=>by
  obtain⟨i1,i2⟩:=vW f v r;rw [show cN f v ((k,x)::r)=(if k=f then(k,v)::r else(k,x)::cN f v r) from rfl];by_cases hk:k=f
  ·rw [VJ hk];subst hk;exact⟨by simp,λg h=>by simpa using h⟩
  ·rw [VI hk];refine⟨?_,λg h=>?_⟩
   ·rw [Ol];exact OQ _ i1
   ·rw [Ol] at h⊢;rcases OA.mp h with e | e
    ·exact OA.mpr (.inl e)
    ·exact OQ _ (i2 g e)
theorem zv(f:Str)(v:V):∀fs:List (Str×V),(cN f v fs).length<=fs.length+1
 | []=>by simp [cN]
 | (k,x)::r=>by
  have ih:=zv f v r;rw [show cN f v ((k,x)::r)=(if k=f then(k,v)::r else(k,x)::cN f v r) from rfl];by_cases hk:k=f
  ·rw [VJ hk,Oz,Oz];omega
  ·rw [VI hk,Oz,Oz];omega
theorem dH.some_of{v:V}{o:Option VM}(r:dH (some v) o):∃u,o=some u/\aE v u:=by
 cases o with
 | none=>exact(show False from r).elim
 | some u=>exact⟨u,rfl,r⟩
theorem dH.none_of{o:Option VM}(r:dH none o):o=none:=by
 cases o with
 | none=>rfl
 | some u=>exact(show False from r).elim
theorem Gb{v:V}{u:VM}(r:aE v u):UU u=true:=by
 cases v with
 | non=>cases (show u=QY from r);rfl
 | bl b=>cases (show u=RC b from r);rfl
 | int i=>obtain⟨t,e⟩:=(show ∃t,u=QU i t from r);cases e;rfl
 | str x=>obtain⟨t,e⟩:=(show ∃t,u=RP x t from r);cases e;rfl
 | byt b=>obtain⟨t,e⟩:=(show ∃t,u=Vr b t from r);cases e;rfl
 | flt b=>obtain⟨t,e⟩:=(show ∃t,u=Vs b t from r);cases e;rfl
 | ref a=>cases (show u=Pc a from r);rfl
 | ty n=>cases (show u=R6 n from r);rfl
section
variable {P:VY} {w:VZ} {H H':Hp} {h h':V0} {a C dx:VO} {fs fs':List (Str×V)}
theorem vX(hok:bG P w H h)(e:H a=some (.ins C dx fs)):∃mA,qu h a dx C mA/\(∀f,dH (fs.lookup f) (mA f))/\Ut mA (fs.map (·.1))/\fs.length<=1000/\H dx=some (.own a):=by
 obtain⟨d,z,ne,ob,mA,n,r,q⟩:=(show cb P w H h a (.ins C dx fs) from hok a _ e);exact⟨mA,⟨ob,n,ne⟩,r,q,z,d⟩
end
structure cO (K:Oe) (C:VO):Prop where
 pg:Rb K C Uv=true
 hd:RA K C=true
 po:RW K C=true
 sa:OP K (.ref C) "__setattr__"=some (some (.builtin "object.__setattr__"))
theorem cO.get{K:Oe}{C:VO}(c:cO K C)(f:Str):Rb K C f=true:=c.pg
def bX(K:Oe)(C:VO)(f:Str):Prop:=OP K (.ref C) f=some none
theorem bX.taker{K:Oe}{C:VO}{f:Str}(n:bX K C f):T1 K C f=some none:=by
 unfold T1;rw [show OP K (.ref C) f=some none from n];rfl
structure g9 (K:Oe) (C:VO) (m:Str) (f:VO):Prop where
 at_:OP K (.ref C) m=some (some (.ref f))
 fn:QK K (.ref f)=true
 kp:Ot K (.ref f)=true
section
variable {X:Cx} {pins:List (VO×Obj)} {σ:St} {H:Hp} {s:VP} {a C dx:VO} {fs:List (Str×V)} {f:Str} {v:V} {A:V2} {E:VM->VP->Prop}
theorem Gd{b:Bool}{Q:VM->VP->Prop}(I:af X pins σ H s)(e:H a=some (.ins C dx fs))(c:cO X.K C)(n:bX X.K C f)(l:fs.lookup f=some v)
 (h:∀u s',af X pins σ H s'->aE v u->Q u s'):VS (VU X.prog X.w) A (getAttr (.ref a) f b) Q E s:=by
 obtain⟨mA,O,r,_,_,_⟩:=vX I.hok e;obtain⟨u,hu,ru⟩:=dH.some_of (v:=v) (o:=mA f) (by rw [<-l];exact r f);exact FX I.kIn O (c.get f) c.hd n hu (Gb ru) (h u _ (I.tok _) ru)
theorem t8{m:Str}{g:VO}{pl:Sem Bool}{Q:VM×List VM->VP->Prop}(I:af X pins σ H s)(e:H a=some (.ins C dx fs))(c:cO X.K C)(k:g9 X.K C m g)(l:fs.lookup m=none)
 (h:Q (.ref g,[.ref a]) s):VS (VU X.prog X.w) A (W3 (.ref a) m pl) Q E s:=by
 obtain⟨mA,O,r,_,_,_⟩:=vX I.hok e;have hn:mA m=none:=dH.none_of (by rw [<-l];exact r m);exact FY I.kIn O (c.get m) k.at_ k.fn hn h
theorem Ge{y:V}{u:VM}{Q:Unit->VP->Prop}(I:af X pins σ H s)(e:H a=some (.ins C dx fs))(c:cO X.K C)(n:bX X.K C f)(hl:fs.length < 1000)(ry:aE y u)
 (h:∀s',af X pins σ (ai H a (.ins C dx (cN f y fs))) s'->Q () s'):VS (VU X.prog X.w) A (setAttr (.ref a) f u) Q E s:=by
 obtain⟨mA,O,r,wi,_,ho⟩:=vX I.hok e;have hz:(fs.map (·.1)).length<=VW:=by rw [Of,Wh];omega
 refine FZ I.kIn O c.sa c.po n.taker c.hd wi hz λh' O' sb=>h _ ?_;have hd:∃o,h'.get? dx=some o:=let ⟨o,_,_,e',_⟩:=O'.ns;⟨o,e'⟩
 refine I.write (x:=a) (e:=dx) (by rw [e];exact QG) (.inr ho) (λb q hb z=>(sb.2 b hb).trans z) hd ?_;refine⟨by rw [az O.ne];exact ho,?_,O.ne,O'.obj,_,O'.ns,λg=>?_,λg hg=>?_⟩
 ·have:=zv f y fs;omega
 ·show dH ((cN f y fs).lookup g) (if g=f then some u else mA g);rw [zu];by_cases q:g=f
  ·rw [VJ q,VJ q];exact ry
  ·rw [VI q,VI q];exact r g
 ·by_cases q:g=f
  ·rw [q];exact(vW f y fs).1
  ·refine(vW f y fs).2 g (wi g λz=>hg ?_);show(if g=f then some u else mA g)=none;rw [VI q];exact z
theorem af.made(I:af X pins σ H s):af X pins σ (ai (ai H s.heap.objs.size (.own (s.heap.objs.size+1))) (s.heap.objs.size+1) (.ins C s.heap.objs.size []))
 {s with heap:=(s.heap.push Qs).push (QZ C s.heap.objs.size)}:=by
 have e1:(s.heap.push Qs).get? s.heap.objs.size=some Qs:=OR s.heap rfl;have e2:((s.heap.push Qs).push (QZ C s.heap.objs.size)).get? (s.heap.objs.size+1)=some (QZ C s.heap.objs.size):=by
  have:=OR (s.heap.push Qs) (o:=QZ C s.heap.objs.size) rfl
  rwa [S8] at this
 have e3:(s.heap.push Qs).Ns s.heap.objs.size (λ_=>none):=⟨Qs,#[],_,e1,rfl,(λe he=>absurd he (by simp)),λ_=>rfl⟩;have I1:=I.laid (a:=s.heap.objs.size) (o:= .own (s.heap.objs.size+1)) (h':=s.heap.push Qs) (t':=s.toks) (λb u q=>Oo _ q) (Oj _) ⟨_,e1⟩;refine I1.laid (a:=s.heap.objs.size+1) (o:= .ins C s.heap.objs.size []) (t':=s.toks) (λb u q=>Oo _ q) (Uw (S8 _ _)) ?_;have ne:s.heap.objs.size≠s.heap.objs.size+1:=OV (QQ _);refine⟨by rw [az ne,bh],Pe _,ne,e2,λ_=>none,(Heap.Ns1.of_empty e3).at λo q=>Oo _ q,λ_=>QG,λy hy=>absurd rfl hy⟩
theorem Gf{prog:VY}{w:VZ}{env:Env}{e:VV}{f:Str}{pos:Pos}{s:VP}{Q:VM->VP->Prop}(hb:Wi e f env (eval e env)=eval e env)
 (h:VS (VU prog w) A (eval e env) (λo s₁=>VS (VU prog w) A (getAttr o f true) Q E s₁) E s):VS (VU prog w) A (eval (.Attribute e f pos) env) Q E s:=
 Attribute_any_ h (by rw [arm_eval_Attribute,hb])
end
def Gg(K:Oe)(ta:TE)(f:Str):TE:=λσ H Q=>ta σ H λx H1=>∃a C dx fs v,x= .ref a/\H1 a=some (.ins C dx fs)/\cO K C/\bX K C f/\fs.lookup f=some v/\Q v H1
def Gh(K:Oe)(ta tv:TE)(f:Str):TS:=λD σ H=>tv σ H λy H1=>ta σ H1 λx H2=>∃a C dx fs,x= .ref a/\H2 a=some (.ins C dx fs)/\cO K C/\bX K C f/\fs.length < 1000/\
 D.nx σ (ai H2 a (.ins C dx (cN f y fs)))
section
variable {X:Cx} {o e value:VV} {f:Str} {pos pos' tpos:Pos} {ta tv:TE}
theorem t9(he:PE X e ta)(hb:Wi e f X.env (eval e X.env)=eval e X.env):PE X (.Attribute e f pos) (Gg X.K ta f):=by
 intro pins s σ H Q I h;refine Gf hb (aB (he pins s σ H _ I h) λu s1 ⟨x,H1,I1,rx,a,C,dx,fs,v,ex,ea,c,n,l,q⟩=>?_);subst ex;obtain rfl:u=Pc a:=rx;exact Gd I1 ea c n l λu' s2 I2 ru=>⟨v,H1,I2,ru,q⟩
theorem vY(ha:PE X o ta)(hv:PE X value tv)(hs:V6 value (some (.Attribute o f pos')) pos.line X.env=pure false):PS X (.Assign [.Attribute o f pos'] value pos) (Gh X.K ta tv f):=by
 intro pins s σ H D I h;refine plainObj_wpAny_Assign_Attribute (aB (hv pins s σ H _ I h) λu s1 ⟨y,H1,I1,ry,q⟩=>aB (ha pins s1 σ H1 _ I1 q) λov s2 ⟨x,H2,I2,rx,a,C,dx,fs,ex,ea,c,n,l,q2⟩=>?_) hs;subst ex;obtain rfl:ov=Pc a:=rx;exact Ge I2 ea c n l ry λs3 I3=>⟨σ,_,I3,q2⟩
theorem N9{pl:Sem Bool}{m:Str}{apos:Pos}{args:List VV}{pins:List (VO×Obj)}{s:VP}{σ:St}{H:Hp}{Q:VM->VP->Prop}{te:TE}(he:PE X e te)(I:af X pins σ H s)
 (h:te σ H λx H1=>∃a C dx fs g,x= .ref a/\H1 a=some (.ins C dx fs)/\cO X.K C/\g9 X.K C m g/\fs.lookup m=none/\
   ∀s1,af X pins σ H1 s1->VS (VU X.prog X.w) X.A (callWith pos (.ref g) [.ref a] (V5 pos (VT args X.env)) (Wv pos (Wl [] X.env))) Q X.xe s1)
 (ht:eval (.Call (.Attribute e m apos) args [] pos) X.env=(do
   let ov<-eval e X.env
   W0 apos.atName
   let (f,first)<-WR [ov] (W3 ov m pl)
   callWith pos f first (V5 pos (VT args X.env)) (Wv pos (Wl [] X.env)))):
 VS (VU X.prog X.w) X.A (eval (.Call (.Attribute e m apos) args [] pos) X.env) Q X.xe s:=by
 refine R3 (pl:=pl) (aB (he pins s σ H _ I h) λu s1 ⟨x,H1,I1,rx,a,C,dx,fs,g,ex,ea,c,k,l,q⟩=>?_) ht;subst ex;obtain rfl:u=Pc a:=rx;exact t8 I1 ea c k l (q s1 I1)
end
open PySem PySem.Spec PyProof.Rows
structure bf (k:Nat) (A:V2):Prop where
 hd:A.handled=none
 dp:A.depth+3*k+5 < recursionLimit
 un:A.units+16*k+200 < Wb
theorem bf.mono{j k:Nat}{A:V2}(r:bf k A)(h:j<=k):bf j A:=⟨r.hd,by have:=r.dp;omega,by have:=r.un;omega⟩
theorem bf.deeper{k:Nat}{A:V2}(r:bf (k+1) A)(env:Env):bf k (A.deeper env):=
 ⟨r.hd,by have:=r.dp;show A.depth+1+3*k+5 < _;omega,by have:=r.un;show A.units+3+16*k+200 < _;omega⟩
theorem bf.in1{k:Nat}{A:V2}(r:bf (k+1) A):bf k A.in1:=
 ⟨r.hd,by have:=r.dp;show A.depth+3*k+5 < _;omega,by have:=r.un;show A.units+1+16*k+200 < _;omega⟩
theorem Gi{A:V2}{C:VO}{us:List VM}{kw:List (Str×VM)}:(A.under (.builtin "type.__call__" ⟨.ref C::us,kw⟩)).depth=A.depth+1:=by
 first | rfl | simp [Ux,Code.weight,Code.isCreation,Code.isGuard,Code.isCaller,Vx,Uy,guardIds]
theorem Gj{A:V2}{C:VO}{us:List VM}{kw:List (Str×VM)}:(A.under (.builtin "type.__call__" ⟨.ref C::us,kw⟩)).units=A.units+1:=by
 first | rfl | simp [Ux,Code.cUnits,Vx,Uy]
theorem bf.make{k:Nat}{A:V2}(r:bf (k+1) A)(C:VO)(us:List VM)(kw:List (Str×VM)):bf k (A.under (.builtin "type.__call__" ⟨.ref C::us,kw⟩)):=
 ⟨r.hd,by have:=r.dp;rw [Gi];omega,by have:=r.un;rw [Gj];omega⟩
theorem bf.depth{k:Nat}{A:V2}(r:bf k A):A.depth < recursionLimit:=by have:=r.dp;omega
theorem bf.units{k:Nat}{A:V2}(r:bf k A):A.units+64 < Wb:=by have:=r.un;omega
theorem bf.units0{k:Nat}{A:V2}(r:bf k A):A.units < Wb:=by have:=r.un;omega
def ub:TA:=λ_ H Q=>Q [] H
def zw(ta:TE)(tr:TA):TA:=λσ H Q=>ta σ H λx H1=>tr σ H1 λxs H2=>Q (x::xs) H2
section
variable {X:Cx} {e:VV} {es:List VV} {te:TE} {t:TA} {pos:Pos}
theorem iO:PA X [] ub:=λ_ _ _ _ H Q I h=>Ts ⟨[],H,I,.nil,h⟩
theorem e7(ha:PE X e te)(hr:PA X es t)(hs:VT (e::es) X.env=(false,eval e X.env)::VT es X.env:=by rfl):PA X (e::es) (zw te t):=by
 intro pos pins s σ H Q I h;rw [hs];show VS _ _ (spliced ((false,eval e X.env)::V5 pos (VT es X.env))) _ _ s;refine Sr (aB (ha pins s σ H _ I h) λu s1 ⟨x,H1,I1,r1,q1⟩=>?_);exact aB (hr pos pins s1 σ H1 _ I1 q1) λus s2 uu38=>by obtain⟨xs,H2,I2,r2,q2⟩:=uu38;exact⟨x::xs,H2,I2,.cons r1 r2,q2⟩
def zx(t:TA):TE:=λσ H Q=>t σ H λxs H1=>xs.length<=VW/\∀p,H1 p=none->Q (.ref p) (ai H1 p (.tup xs))
def zy(t:TA):TE:=λσ H Q=>t σ H λxs H1=>xs.length<=VW/\∀p,H1 p=none->Q (.ref p) (ai H1 p (.lst xs))
theorem Gk{x1}(h:PA X es t):PE X (.Tuple es x1 pos) (zx t):=by
 intro pins s σ H Q I hq;refine wpAny_Tuple_spliced (aB (h pos pins s σ H _ I hq) λus s1 ⟨xs,H1,I1,r,z,q⟩=>⟨by rw [<-r.length];exact z,?_⟩);have hf:H1 s1.heap.objs.size=none:=I1.hok.fresh (Oj _);refine⟨.ref s1.heap.objs.size,ai H1 s1.heap.objs.size (.tup xs),I1.laid (t':=s1.toks) (λb u e=>Oo _ e) (Oj _) ?_,rfl,q _ hf⟩;exact⟨z,us,r,⟨_,OR _ rfl,rfl,_,rfl⟩⟩
theorem Gm(h:PA X es t):PE X (.List es pos) (zy t):=by
 intro pins s σ H Q I hq;refine wpAny_List_spliced (aB (h pos pins s σ H _ I hq) λus s1 ⟨xs,H1,I1,r,z,q⟩=>⟨by rw [<-r.length];exact z,?_⟩);have hf:H1 s1.heap.objs.size=none:=I1.hok.fresh (Oj _);refine⟨.ref s1.heap.objs.size,ai H1 s1.heap.objs.size (.lst xs),I1.laid (t':=s1.toks) (λb u e=>Oo _ e) (Oj _) ?_,rfl,q _ hf⟩;exact⟨z,us,0,r,OR _ rfl⟩
end
abbrev Sp:=List V->Hp->VK->XK->Prop
abbrev eG:=List Env->Hp->VP->XK->VM->VP->Prop
structure iP (P:VY) (w:VZ) (K:Oe) (mg:Str->Option VM) (base:V0) (A:V2) (outer:List Env) (s:VP) (H:Hp):Prop where
 frames:A.frames=some outer
 mod:Mod K mg base
 bs:∀b o,base.get? b=some o->s.heap.get? b=some o/\H b=none
 bsz:base.objs.size<=s.heap.objs.size
 funs:s.heap.FunFrames base outer
 frf:∀b∈fU outer,H b=none
 hok:bG P w H s.heap
 bare:WZ s.gens
def CE(outer:List Env)(P:VY)(w:VZ)(H:Hp)(s:VP)(Q:VK)(u:VM)(s':VP):Prop:=
 ∃v H',s'.os=s.os/\WZ s'.gens/\Un (fU outer) [] H H' s.heap s'.heap/\bG P w H' s'.heap/\aE v u/\Q v H'
def CR(CX:eG)(outer:List Env)(P:VY)(w:VZ)(H:Hp)(s:VP)(Q:VK)(E:XK)(r:Result)(s':VP):Prop:=
 match r with
 | .ok (.ret u)=>CE outer P w H s Q u s'
 | .ok _=>False
 | .error e=>CX outer H s E e s'
structure aF (P:VY) (w:VZ) (K:Oe) (mg:Str->Option VM) (base:V0) (CX:eG) (k:Nat) (f:VO) (fd:VX) (ps:List Str) (sp:Sp):Prop where
 len:∀vs H Q E,sp vs H Q E->vs.length=ps.length
 run:∀(A:V2)(outer:List Env)(s:VP)(H:Hp)(args:Args)(us:List VM)(vs:List V)(Q:VK)(E:XK),bf k A->iP P w K mg base A outer s H->BindsTo s fd args (ps.zip us)->aK vs us->sp vs H Q E->
  WA (VU P w) A (.call (.ref f) args) (CR CX outer P w H s Q E) s
theorem aF.imp{P:VY}{w:VZ}{K:Oe}{mg:Str->Option VM}{base:V0}{CX:eG}{k:Nat}{f:VO}{fd:VX}{ps:List Str}{sp sp':Sp}(F:aF P w K mg base CX k f fd ps sp)
 (h:∀vs H Q E,sp' vs H Q E->sp vs H Q E):aF P w K mg base CX k f fd ps sp':=
 ⟨λvs H Q E q=>F.len vs H Q E (h _ _ _ _ q),λA outer s H args us vs Q E hr he hb hv hs=>F.run A outer s H args us vs Q E hr he hb hv (h _ _ _ _ hs)⟩
theorem iP.make{P:VY}{w:VZ}{K:Oe}{mg:Str->Option VM}{base:V0}{A:V2}{outer:List Env}{s:VP}{H:Hp}(e:iP P w K mg base A outer s H)(C:VO)(us:List VM)(kw:List (Str×VM)):
 iP P w K mg base (A.under (.builtin "type.__call__" ⟨.ref C::us,kw⟩)) outer s H:=⟨by first | exact e.frames | (simpa [Ux,Code.envs,Uy,pushEnvs] using e.frames),e.mod,e.bs,e.bsz,e.funs,e.frf,e.hok,e.bare⟩
theorem iP.in1{P:VY}{w:VZ}{K:Oe}{mg:Str->Option VM}{base:V0}{A:V2}{outer:List Env}{s:VP}{H:Hp}(e:iP P w K mg base A outer s H):
 iP P w K mg base A.in1 outer s H:=⟨e.frames,e.mod,e.bs,e.bsz,e.funs,e.frf,e.hok,e.bare⟩
section
variable {X:Cx} {pins:List (VO×Obj)} {σ:St} {H:Hp} {s s':VP}
theorem af.env0(I:af X pins σ H s):iP X.prog X.w X.K X.mg X.base X.A X.stack s H:=
 ⟨I.ok.frames,I.ok.mod,I.bs,O6 I.ok.bsz I.sz,I.stack,I.stkFree,I.hok,I.bare⟩
theorem af.after{Q:VK}{u:VM}(I:af X pins σ H s)(h:CE X.stack X.prog X.w H s Q u s'):EP X pins σ Q u s':=by
 obtain⟨v,H',os,bare,un,hok,r,q⟩:=h;obtain⟨hh,g,d,t,os'⟩:=s';obtain rfl:os'=s.os:=os;exact⟨v,H',I.call (h':=hh) (g':=g) (d':=d) (t':=t) (ch:=[]) un hok bare (λb z=>absurd z (by simp)),r,q⟩
end
def vZ(sp:Sp)(dvs:List V)(E:XK)(t:TA):TE:=λσ H Q=>t σ H λvs H1=>sp (vs++dvs) H1 Q E
def sL(C:VO)(m:Str)(sp:Sp)(dvs:List V)(E:XK)(ta:TE)(t:TA):TE:=λσ H Q=>ta σ H λx H1=>∃a dx fs,x= .ref a/\H1 a=some (.ins C dx fs)/\fs.lookup m=none/\
 t σ H1 λvs H2=>sp (x::(vs++dvs)) H2 Q E
def zz(C:VO)(sp:Sp)(dvs:List V)(E:XK)(t:TA):TE:=λσ H Q=>t σ H λvs H1=>∀x dx,H1 x=none->H1 dx=none->dx≠x->
 sp (.ref x::(vs++dvs)) (ai (ai H1 dx (.own x)) x (.ins C dx [])) (λv H2=>v= .non/\Q (.ref x) H2) E
def aJ(K:Oe)(fd:VX)(ps:List Str)(ds:List VM):Prop:=
 ∀(s:VP)(us:List VM),K.In s.heap->(us++ds).length=ps.length->BindsTo s fd ⟨us,[]⟩ (ps.zip (us++ds))
theorem aJ.all{K:Oe}{fd:VX}{ps:List Str}(h:∀us:List VM,us.length=ps.length->bindArgs fd ⟨us,[]⟩=pure (ps.zip us)):aJ K fd ps []:=λs us _ hl=>by
 rw [Pg] at hl⊢;exact .of_eq (h us hl)
def hG(CX:eG)(X:Cx)(E:XK):Prop:=∀(pins:List (VO×Obj))(σ:St)(H:Hp)(s:VP)(e:VM)(s':VP),af X pins σ H s->CX X.stack H s E e s'->X.xe e s'
section
variable {X:Cx} {CX:eG} {k:Nat} {f C:VO} {fd:VX} {ps:List Str} {sp:Sp} {dvs:List V} {ds:List VM} {E:XK} {x m:Str} {p pos apos:Pos} {e o:VV} {es:List VV} {ta:TE} {t:TA}
theorem uc{pins:List (VO×Obj)}{σ:St}{H:Hp}{s:VP}{Q:VK}{us:List VM}{vs:List V}(F:aF X.prog X.w X.K X.mg X.base CX k f fd ps sp)(hr:bf k X.A)(hb:aJ X.K fd ps ds)(hd:aK dvs ds)(hx:hG CX X E)
 (I:af X pins σ H s)(r:aK vs us)(h:sp (vs++dvs) H Q E):VS (VU X.prog X.w) X.A (call (.ref f) us) (EP X pins σ Q) X.xe s:=by
 have r2:aK (vs++dvs) (us++ds):=r.append hd;have hl:(us++ds).length=ps.length:=by rw [<-r2.length];exact F.len _ _ _ _ h
 refine wpAny_call (Ww (F.run X.A X.stack s H ⟨us,[]⟩ (us++ds) (vs++dvs) Q E hr I.env0 (hb s us I.kIn hl) r2 h) λr s' hq=>?_);cases r with
 | error e=>exact hx pins σ H s e s' I hq
 | ok fl=>
  cases fl with
  | ret u=>exact I.after hq
  | next=>exact Qp hq
  | brk=>exact Qp hq
  | cont=>exact Qp hq
theorem aR(F:aF X.prog X.w X.K X.mg X.base CX k f fd ps sp)(hr:bf k X.A)(hg:Gl X x)(hm:X.mg x=some (.ref f))(hk:Ot X.K (.ref f)=true)(hb:aJ X.K fd ps ds)(hd:aK dvs ds)(hx:hG CX X E)
 (ha:PA X (e::es) t)(hdb:(x==("__debug__":Str))=false:=by decide)(he:VT (e::es) X.env=(false,eval e X.env)::VT es X.env:=by rfl)(hpl:(V5 pos (VT es X.env)).any (·.1)=false:=by rfl):
 PE X (.Call (.Name x p) (e::es) [] pos) (vZ sp dvs E t):=by
 intro pins s σ H Q I h;refine WC (vK I hg hm ?_ hdb);refine Ss (h₀:=X.base) I.ok.mod.kin hk (aB (ha pos pins s σ H _ I h) λus s1 ⟨vs,H1,I1,r,q⟩=>⟨I1.kIn,?_⟩) he hpl;exact uc F hr hb hd hx I1 r q
theorem zA{pl:Sem Bool}(he:PE X o ta)(c:cO X.K C)(hm:g9 X.K C m f)(F:aF X.prog X.w X.K X.mg X.base CX k f fd ps sp)(hr:bf k X.A)(hb:aJ X.K fd ps ds)(hd:aK dvs ds)(hx:hG CX X E)(ha:PA X (e::es) t)
 (hst:VT (e::es) X.env=(false,eval e X.env)::VT es X.env:=by rfl)(hpl:(V5 pos (VT es X.env)).any (·.1)=false:=by rfl)
 (ht:eval (.Call (.Attribute o m apos) (e::es) [] pos) X.env=(do
   let ov<-eval o X.env
   W0 apos.atName
   let (f,first)<-WR [ov] (W3 ov m pl)
   callWith pos f first (V5 pos (VT (e::es) X.env)) (Wv pos (Wl [] X.env))):=by rfl):
 PE X (.Call (.Attribute o m apos) (e::es) [] pos) (sL C m sp dvs E ta t):=by
 intro pins s σ H Q I h;refine R3 (pl:=pl) (aB (he pins s σ H _ I h) λu s1 ⟨x,H1,I1,rx,a,dx,fs,ex,ea,l,q⟩=>?_) ht;subst ex;obtain rfl:u=Pc a:=rx;refine t8 I1 ea c hm l ?_;refine Ss (first:=[.ref a]) (h₀:=X.base) I.ok.mod.kin hm.kp (aB (ha pos pins s1 σ H1 _ I1 q) λus s2 ⟨vs,H2,I2,r,q2⟩=>⟨I2.kIn,?_⟩) hst hpl;exact uc (us:= .ref a::us) (vs:= .ref a::vs) F hr hb hd hx I2 (.cons rfl r) q2
theorem ue{pl:Sem Bool}(he:PE X o ta)(c:cO X.K C)(hm:g9 X.K C m f)(F:aF X.prog X.w X.K X.mg X.base CX k f fd ps sp)(hr:bf k X.A)(hb:aJ X.K fd ps ds)(hd:aK dvs ds)(hx:hG CX X E)
 (ht:eval (.Call (.Attribute o m apos) [] [] pos) X.env=(do
   let ov<-eval o X.env
   W0 apos.atName
   let (f,first)<-WR [ov] (W3 ov m pl)
   callWith pos f first (V5 pos (VT [] X.env)) (Wv pos (Wl [] X.env))):=by rfl):
 PE X (.Call (.Attribute o m apos) [] [] pos) (sL C m sp dvs E ta ub):=by
 intro pins s σ H Q I h;refine R3 (pl:=pl) (aB (he pins s σ H _ I h) λu s1 ⟨x,H1,I1,rx,a,dx,fs,ex,ea,l,q⟩=>?_) ht;subst ex;obtain rfl:u=Pc a:=rx;refine t8 I1 ea c hm l ?_;exact PySem.W.callWith_K0 (first:=[.ref a]) I1.kIn hm.kp (uc (us:=[.ref a]) (vs:=[.ref a]) F hr hb hd hx I1 (.cons rfl .nil) q)
structure Mk (K:Oe) (C f:VO):Prop where
 makes:Se K C=true
 init:OP K (.ref C) "__init__"=some (some (.ref f))
 fn:QK K (.ref f)=true
 kp:Ot K (.ref C)=true
theorem Gq{pins:List (VO×Obj)}{σ:St}{H:Hp}{s:VP}{Q:VK}{us:List VM}{vs:List V}(M:Mk X.K C f)(F:aF X.prog X.w X.K X.mg X.base CX k f fd ps sp)(hr:bf (k+1) X.A)(hb:aJ X.K fd ps ds)(hd:aK dvs ds)
 (hx:hG CX X E)(I:af X pins σ H s)(r:aK vs us)
 (h:∀x dx,H x=none->H dx=none->dx≠x->sp (.ref x::(vs++dvs)) (ai (ai H dx (.own x)) x (.ins C dx [])) (λv H2=>v= .non/\Q (.ref x) H2) E):
 VS (VU X.prog X.w) X.A (call (.ref C) us) (EP X pins σ Q) X.xe s:=by
 have hq:=h (s.heap.objs.size+1) s.heap.objs.size (I.hok.fresh (Qk _)) (I.hok.fresh (Oj _)) (OV (QQ _));have I2:=af.made (C:=C) I;have r2:aK (V.ref (s.heap.objs.size+1)::(vs++dvs)) (Pc (s.heap.objs.size+1)::(us++ds)):= .cons rfl (r.append hd);have hl:(Pc (s.heap.objs.size+1)::us++ds).length=ps.length:=by
  have e:=r2.length;rw [F.len _ _ _ _ hq] at e;exact e.symm
 refine wpAny_call (Ga (f:=f) I.kIn M.makes M.init (beq_iff_eq.mp M.fn) (Ww (F.run _ X.stack _ _ ⟨Pc (s.heap.objs.size+1)::us,[]⟩ (Pc (s.heap.objs.size+1)::(us++ds)) _ _ E (hr.make C us [])
  (I2.env0.make C us []) (hb _ (Pc (s.heap.objs.size+1)::us) I2.kIn hl) r2 hq) λr s' hq'=>?_))
 cases r with
 | error e=>exact hx pins σ _ _ e s' I2 hq'
 | ok fl=>
  cases fl with
  | ret u=>
   obtain⟨v,H',I3,rv,ev,q3⟩:=I2.after hq';subst ev;exact⟨rv,⟨V.ref (s.heap.objs.size+1),H',I3,rfl,q3⟩⟩
  | next=>exact Qp hq'
  | brk=>exact Qp hq'
  | cont=>exact Qp hq'
theorem uf(M:Mk X.K C f)(F:aF X.prog X.w X.K X.mg X.base CX k f fd ps sp)(hr:bf (k+1) X.A)(hg:Gl X x)(hm:X.mg x=some (.ref C))(hb:aJ X.K fd ps ds)(hd:aK dvs ds)(hx:hG CX X E)
 (ha:PA X (e::es) t)(hdb:(x==("__debug__":Str))=false:=by decide)(he:VT (e::es) X.env=(false,eval e X.env)::VT es X.env:=by rfl)(hpl:(V5 pos (VT es X.env)).any (·.1)=false:=by rfl):
 PE X (.Call (.Name x p) (e::es) [] pos) (zz C sp dvs E t):=by
 intro pins s σ H Q I h;refine WC (vK I hg hm ?_ hdb);refine Ss (h₀:=X.base) I.ok.mod.kin M.kp (aB (ha pos pins s σ H _ I h) λus s1 ⟨vs,H1,I1,r,q⟩=>⟨I1.kIn,?_⟩) he hpl;exact Gq M F hr hb hd hx I1 r q
end
section
variable {X:Cx} {CX:eG} {k:Nat} {f C:VO} {fd:VX} {ps ks:List Str} {sp:Sp} {E:XK} {x m:Str} {p pos apos kpos:Pos} {e o:VV} {es:List VV} {kws:List WB} {te ta:TE} {t tk:TA} {nm:Option Str}
variable {g:List VM->List VM->List VM} {gV:List V->List V->List V}
end
structure aV (N P:List Str) (sc:Wn):Prop where
 kind:sc.kind= .function
 co:sc.isCoroutine=false
 gen:sc.isGenerator=false
 nd:N.Nodup
 pre:N.take P.length=P
 par:∀x∈P,sc.names.lookup x=some .local\/sc.names.lookup x=some .cell
 nofree:∀y∈sc.names,y.2≠ .free
theorem zB{kindOf:Str->Option Wx}{x:Str}:∀{binds:List (Str×VM)}{m:Str->Option VM},(∀v,(x,v)∉ binds)->bindL kindOf binds m x=m x
 | [],_,_=>rfl
 | (n,v)::r,m,h=>by
  unfold bindL;rw [zB λw hw=>h w (OQ _ hw)];split
  ·have:x≠n:=by rintro rfl;exact h v O8
   simp [this]
  ·rfl
theorem zC{kindOf:Str->Option Wx}{x:Str}:∀{binds:List (Str×VM)}{m:Str->Option VM},(∀v,(x,v)∉ binds)->bindC kindOf binds m x=m x
 | [],_,_=>rfl
 | (n,v)::r,m,h=>by
  unfold bindC;rw [zC λw hw=>h w (OQ _ hw)];split
  ·rfl
  ·have:x≠n:=by rintro rfl;exact h v O8
   simp [this]
theorem zD{kindOf:Str->Option Wx}{x:Str}{v:VM}:∀{P:List Str}{vs:List VM}{i:Nat}{m:Str->Option VM},P.Nodup->P[i]?=some x->vs[i]?=some v->kindOf x=some .local->
 bindL kindOf (P.zip vs) m x=some v
 | [],_,_,_,_,h,_,_=>by simp at h
 | _::_,[],_,_,_,_,h,_=>by simp at h
 | p::P,w::vs,0,m,nd,h1,h2,hk=>by
  simp at h1 h2;subst h1;subst h2;show bindL kindOf ((p,w)::P.zip vs) m p=_;unfold bindL;rw [zB λv hv=>(Qj.mp nd).1 (T2 hv).1,VJ hk];simp
 | p::P,w::vs,i+1,m,nd,h1,h2,hk=>by
  show bindL kindOf ((p,w)::P.zip vs) m x=_;unfold bindL;exact zD (i:=i) (Qj.mp nd).2 (by simpa using h1) (by simpa using h2) hk
theorem zE{kindOf:Str->Option Wx}{x:Str}{v:VM}:∀{P:List Str}{vs:List VM}{i:Nat}{m:Str->Option VM},P.Nodup->P[i]?=some x->vs[i]?=some v->kindOf x≠some .local->
 bindC kindOf (P.zip vs) m x=some v
 | [],_,_,_,_,h,_,_=>by simp at h
 | _::_,[],_,_,_,_,h,_=>by simp at h
 | p::P,w::vs,0,m,nd,h1,h2,hk=>by
  simp at h1 h2;subst h1;subst h2;show bindC kindOf ((p,w)::P.zip vs) m p=_;unfold bindC;rw [zC λv hv=>(Qj.mp nd).1 (T2 hv).1,VI hk];simp
 | p::P,w::vs,i+1,m,nd,h1,h2,hk=>by
  show bindC kindOf ((p,w)::P.zip vs) m x=_;unfold bindC;exact zE (i:=i) (Qj.mp nd).2 (by simpa using h1) (by simpa using h2) hk
def start(N:List Str)(vs:List V):St:=vs.map some++OX (N.length - vs.length) none
def hJ(CX:eG)(P:VY)(w:VZ)(K:Oe)(mg:Str->Option VM)(base:V0)(N:List Str)(qual:Str)(scope:Wn)(f:VO)(cd:VM)(A:V2)(outer:List Env)(s:VP)(H:Hp)(E:XK):Cx where
 prog:=P
 w:=w
 K:=K
 mg:=mg
 base:=base
 A:=A.deeper (WJ qual scope s.heap.objs.size f cd)
 N:=N
 s₀:=s
 H₀:=H
 env:=WJ qual scope s.heap.objs.size f cd
 outer:=outer
 stack:=WJ qual scope s.heap.objs.size f cd::outer
 ex:=[]
 calm:=true
 fn:=λ_=>true
 pn:=[]
 xe:=λe s'=>VS (VU P w) (A.deeper (WJ qual scope s.heap.objs.size f cd)) (leaving (WJ qual scope s.heap.objs.size f cd) e) (λ_ s''=>CX outer H s E e s'') (λe' s''=>CX outer H s E e' s'') s'
theorem zF{sc:Wn}{n:Nat}{x:Str}(h:sc.names.lookup x=some .cell):∃c,(cellsFrom n sc.names []).lookup x=some c:=by
 have q:=T4 sc.names n [] (.inl h);exact TJ.mp q
theorem Gr{CX:eG}{P:VY}{w:VZ}{K:Oe}{mg:Str->Option VM}{base:V0}{N ps:List Str}{qual:Str}{scope:Wn}{f:VO}{cd:VM}{A:V2}{outer:List Env}{s s1:VP}{H:Hp}{E:XK}{us:List VM}{vs:List V}
 (S:aV N ps scope)(hd:A.handled=none)(e0:iP P w K mg base A outer s H)(hl:vs.length=ps.length)(r:aK vs us)
 (x:InCallC s s.heap.objs.size (bindL (WJ qual scope s.heap.objs.size f cd).kindOf (ps.zip us) λ_=>none) (cellsFrom (s.heap.objs.size+1) scope.names []) (bindC (WJ qual scope s.heap.objs.size f cd).kindOf (ps.zip us) λ_=>none) s1):
 af (hJ CX P w K mg base N qual scope f cd A outer s H E) [] (start N vs) H s1:=by
 have hpl:ps.length<=N.length:=by have:=congrArg T5 S.pre;rw [PF] at this;omega
 obtain⟨h1,tk,rfl,hk⟩:=x.done;have noA:∀b:VO,b ∉ (hJ CX P w K mg base N qual scope f cd A outer s H E).ex:=λb z=>absurd (show b∈([]:List VO) from z) (by simp);refine⟨⟨e0.mod,S.kind,rfl,rfl,Oj _,λy z c h1 h2=>?_,λy hy=>?_,λy c _ h=>?_,λ_=>hd,Around.frames_deeper e0.frames,.inr ⟨rfl,rfl⟩,λb z=>absurd z (noA b),e0.bs,e0.bsz,λb _ _=>noA b,λb z=>absurd z (noA b),e0.funs,e0.frf⟩,
  rfl,e0.bare,Un.kept hk,⟨_,x.toInCall.ns,λi y v h1 h2 h3=>?_⟩,λy c h=>⟨_,x.cell y c h⟩,e0.hok.fresh (Oj _),λy c h=>?_,λp hp=>absurd (show p∈([]:List (VO×Obj)) from hp) (by simp),e0.hok.kept hk,?_⟩
 ·exact name_of_addr x.apart (Ra h1) (Ra h2)
 ·have hy:scope.names.lookup y=some .cell\/scope.names.lookup y=some .free:=hy;rcases hy with hy | hy
  ·exact zF hy
  ·exact absurd rfl (S.nofree _ (Ra hy))
 ·exact Rj (x.above y c (Ra h))
 ·have hi:i < vs.length:=by
   unfold start at h2;by_cases hi:i < vs.length
   ·exact hi
   ·rw [Qf (by simpa using hi)] at h2;rw [Q8] at h2;split at h2 <;> cases h2
  have ha:vs[i]?=some v:=by
   unfold start at h2;rw [PK (by simpa using hi),OD] at h2;cases e:vs[i]? with
   | none=>rw [e] at h2;cases h2
   | some a=>rw [e] at h2;cases h2;rfl
  obtain⟨u,hu,rv⟩:=r.get ha;have hp:ps[i]?=some y:=by
   rw [<-S.pre,List.getElem?_take_of_lt VH];exact h1
  have ndP:ps.Nodup:=by rw [<-S.pre];exact S.nd.sublist (List.take_sublist _ _)
  refine⟨u,rv,?_⟩;rcases S.par y (OY hp) with k | k
  ·exact .inl ⟨k,zD ndP hp hu k⟩
  ·obtain⟨c,e⟩:=zF (n:=s.heap.objs.size+1) k;refine .inr ⟨.inl k,c,e,?_⟩;have q:=x.cell y c e;rw [zE ndP hp hu (by show scope.names.lookup y≠_;rw [k];decide)] at q;exact q
 ·exact e0.hok.fresh (Rj (x.above y c (Ra h)))
 ·unfold start;show _=N.length;rw [OH,Of,SS];omega
theorem Gs{CX:eG}{P:VY}{w:VZ}{K:Oe}{mg:Str->Option VM}{base:V0}{k:Nat}{f:VO}{name qual:Str}{params:Arguments}{body:List V1}{scope:Wn}{dV kV doc pm cdv ct oc:VM}{an od:Option VO}
 {osl:Array (Option VM)}{N ps:List Str}{sp:Sp}(lk:K.lookup f=some ⟨oc,od,.func (Oh name qual params body scope dV kV doc pm an cdv ct),osl⟩)(hcd:Oy K cdv qual=true)(S:aV N ps scope)
 (len:∀vs H Q E,sp vs H Q E->vs.length=ps.length)
 (hbody:∀(A:V2) (outer:List Env) (s:VP) (H:Hp) (vs:List V) (Q:VK) (E:XK),bf k (A.deeper (WJ qual scope s.heap.objs.size f cdv))->sp vs H Q E->
   ∃t,bQ (hJ CX P w K mg base N qual scope f cdv A outer s H E) body t/\t {nx:=λ_ H'=>Q .non H',rt:=Q} (start N vs) H):
 aF P w K mg base CX (k+1) f (Oh name qual params body scope dV kV doc pm an cdv ct) ps sp:=by
 refine⟨len,λA outer s H args us vs Q E hr e0 hb r hsp=>?_⟩;have hl:=len _ _ _ _ hsp;have KX:K.In s.heap:=e0.mod.kin.keeps λb o e=>(e0.bs b o e).1;have lim:s.heap.NoLimit:=e0.mod.nolimit.keeps λb o e=>(e0.bs b o e).1;have hkind:∀y∈ps.zip us,scope.names.lookup y.1=some .local\/(scope.names.lookup y.1=some .cell/\((cellsFrom (s.heap.objs.size+1) scope.names []).lookup y.1).isSome=true):=λuu46 hy=>by
  obtain⟨n,v⟩:=uu46;rcases S.par n (T2 hy).1 with q | q
  ·exact .inl q
  ·exact .inr ⟨q,T4 _ _ _ (.inl q)⟩
 refine codeAny_call_function hr.depth (KX _ _ lk) rfl S.co S.gen rfl (PySem.W.codeRec_of KX hcd) (hb _ _ _ _ ?_);refine wpAny_newFunctionEnv_cells S.kind hkind λenv he s1 x=>?_;subst he;refine⟨lim.keeps x.toInCall.keep,codeAny_func ?_⟩;obtain⟨t,ht,hq⟩:=hbody A outer s H vs Q E (hr.deeper _) hsp;have I:af (hJ CX P w K mg base N qual scope f cdv A outer s H E) [] (start N vs) H s1:=Gr S hr.hd e0 hl r x;refine Wa (ht [] s1 (start N vs) H _ I hq) (λfl s' hs=>?_) λe s' hs=>hs;have fin:∀{σ':St}{H':Hp}{v:V}{u:VM},af (hJ CX P w K mg base N qual scope f cdv A outer s H E) [] σ' H' s'->aE v u->Q v H'->CE outer P w H s Q u s':=
  λ{σ' H' v u} J rv q=>⟨v,H',J.os,J.bare,J.base,J.hok,rv,q⟩
 cases fl with
 | ret u=>
  obtain⟨v,σ',H',J,rv,q⟩:=hs;exact fin J rv q
 | next=>
  obtain⟨σ',H',J,q⟩:=hs;exact fin (v:=V.non) (u:=QY) J rfl q
 | brk=>
  obtain⟨_,_,_,q⟩:=hs;exact Qp q
 | cont=>
  obtain⟨_,_,_,q⟩:=hs;exact Qp q
open PySem PySem.Spec PyProof.Rows
section
variable {X:Cx} {x:Str} {p pos:Pos} {e:VV} {es:List VV} {t:TA} {id T:String} {r:List V->Hp->VK->Prop}
def uh(r:List V->Hp->VK->Prop)(t:TA):TE:=λσ H Q=>t σ H λvs H1=>r vs H1 Q
theorem dq(hc:eF X (.builtin id) r)(hg:Gl X x)(hm:X.mg x=none)(hv:V9 x=some (.builtin id))(ha:PA X (e::es) t)(hn:x≠"__name__":=by decide)(hdb:(x==("__debug__":Str))=false:=by decide)
 (he:VT (e::es) X.env=(false,eval e X.env)::VT es X.env:=by rfl)(hpl:(V5 pos (VT es X.env)).any (·.1)=false:=by rfl):PE X (.Call (.Name x p) (e::es) [] pos) (uh r t):=by
 intro pins s σ H Q I h;refine WC (qW I hg hm hv ?_ hn hdb);exact PyProof.Rows.callWith_builtin1 (aB (ha pos pins s σ H _ I h) λus s1 uu47=>by obtain⟨vs,H1,I1,r1,q1⟩:=uu47;exact hc pins s1 σ H1 vs us Q I1 r1 q1) he hpl
theorem dA(hc:eF X (.type T) r)(hg:Gl X x)(hm:X.mg x=none)(hv:V9 x=some (.type T))(ha:PA X (e::es) t)(hn:x≠"__name__":=by decide)(hdb:(x==("__debug__":Str))=false:=by decide)
 (he:VT (e::es) X.env=(false,eval e X.env)::VT es X.env:=by rfl)(hpl:(V5 pos (VT es X.env)).any (·.1)=false:=by rfl):PE X (.Call (.Name x p) (e::es) [] pos) (uh r t):=by
 intro pins s σ H Q I h;refine WC (qW I hg hm hv ?_ hn hdb);exact Rk (aB (ha pos pins s σ H _ I h) λus s1 uu48=>by obtain⟨vs,H1,I1,r1,q1⟩:=uu48;exact hc pins s1 σ H1 vs us Q I1 r1 q1) he hpl
end
end L2
namespace HT
open PySem PyProof.Rows
theorem eqAt_int(A:V2)(s:VP)(a:Int)(t:Tok)(c:Int)(u:Tok):∃e,SeqAt.EqAt A s (.int a t) (.int c u) e/\(e=true↔a=c):=
 ⟨(a==c),SeqAt.EqAt.int_int a t c u,by simp⟩
theorem rcLt_int(A:V2)(s:VP)(a:Int)(t:Tok)(c:Int)(u:Tok)(prog:VY)(w:VZ)(E:VM->VP->Prop)(Q:VM->VP->Prop)(h:Q (.bool (decide (a < c))) s):
 VS (VU prog w) A (richCompare .Lt (.int a t) (.int c u)) Q E s:=
 (PyProof.Rows.lt_int h:VS (VU prog w) A (V8 .Lt (.int a t) (.int c u)) Q E s)
section
open PySem.SeqAt
open PySem.AutoSeq1 (wpAny_loadPart')
open PySem.MeetsSeq PySem.MeetsSeq2 PySem.MeetsSeq3
end
section
variable {prog:VY} {w:VZ} {A:V2} {E:VM->VP->Prop} {s:VP}
theorem cat_tup{t b:VO}{vs ws:List VM}{Q:VM->VP->Prop}(ht:IsTup s.heap t vs.toArray)(hb:IsTup s.heap b ws.toArray)(hv:vs≠[])
 (h1:ws=[]->Q (.ref t) s)(h2:ws≠[]->Q (.ref s.heap.objs.size) {s with heap:=s.heap.push {cls:= .type "tuple",data:= .seq (vs++ws).toArray}})
 (hsz:vs.length+ws.length<=VW):VS (VU prog w) A (Wm .Add (.ref t) (.ref b)) Q E s:=by
 obtain⟨⟨cls,dd,data,sl⟩,ho,hc,n,hd⟩:=id ht;obtain⟨⟨cls2,dd2,data2,sl2⟩,ho2,hc2,n2,hd2⟩:=id hb;simp only at hc hd hc2 hd2;subst hc hd hc2 hd2;have e:vs.toArray++ws.toArray=(vs++ws).toArray:=by simp
 by_cases hw:ws=[]
 ·exact concat_meets ⟨_,ho,rfl⟩ ⟨_,ho2,rfl⟩ Xm seq_tuple_add SI SE (Su _ _)
   (tuple_addW1 t b vs.toArray ws.toArray n n2 dd dd2 sl sl2 (by simpa using hv) (by simp [hw])) ⟨ho,ho2,h1 hw⟩
 ·refine concat_meets ⟨_,ho,rfl⟩ ⟨_,ho2,rfl⟩ Xm seq_tuple_add SI SE (Su _ _)
   (tuple_addW2 t b vs.toArray ws.toArray n n2 dd dd2 sl sl2 (by simpa using hv) (by simpa using hw) (by rw [OI,OI];exact hsz)) ⟨ho,ho2,?_⟩
  rw [e];exact h2 hw
def sIx(n d:Nat):Option Int->Nat
 | none=>d
 | some v=>if v < 0 then(v+(n:Int)).toNat else min v.toNat n
theorem ui(n d:Nat):sIx n d none=d:=rfl
theorem sIx_nat(n d k:Nat):sIx n d (some (k:Int))=min k n:=by
 show(if (k:Int) < 0 then((k:Int)+(n:Int)).toNat else min (k:Int).toNat n)=min k n;rw [VI VH,Q4]
theorem Gu(n d:Nat)(hd:d<=n)(o:Option Int):sIx n d o<=n:=by
 cases o with
 | none=>exact hd
 | some v=>
  show(if v < 0 then(v+(n:Int)).toNat else min v.toNat n)<=n;by_cases hv:v < 0
  ·rw [VJ hv];omega
  ·rw [VI hv];exact UW _ _
theorem zG(v:Int)(n d:Nat):(if v < 0 then max (v+(n:Int)) 0 else min v (n:Int))=((sIx n d (some v):Nat):Int):=by
 show(if v < 0 then max (v+(n:Int)) 0 else min v (n:Int))=(((if v < 0 then(v+(n:Int)).toNat else min v.toNat n):Nat):Int);by_cases hv:v < 0
 ·simp only [VJ hv];omega
 ·simp only [VI hv];omega
theorem Gv(lo hi:Option Int)(n:Nat):Sg lo hi 1 (n:Int)=(((sIx n 0 lo:Nat):Int),((sIx n n hi:Nat):Int)):=by
 have h1:¬((1:Int) < 0):=VH
 unfold Sg;simp only [h1,if_false];refine Vm ?_ ?_
 ·cases lo with
  | none=>rfl
  | some v=>exact zG v n 0
 ·cases hi with
  | none=>rfl
  | some v=>exact zG v n n
theorem Gw(i j:Nat):RD (i:Int) (j:Int) 1=j - i:=by
 unfold RD;have h1:(1:Int) > 0:=VH
 simp only [h1,if_true,Int.ediv_one];split <;> omega
theorem zH{v:VM}{o:Option Int}{Q:Option Int->VP->Prop}(p:IsPart v o)(h:Q o s):VS (VU prog w) A (Builtin.Slice.slicePartIndex v) Q E s:=by
 cases p with
 | none=>exact slicePart_none h
 | int i t=>exact slicePart_int h
theorem sliceApplied_gen{sl:VO}{vl vu:VM}{lo hi:Option Int}{n:Nat}{Q:Int×Int×Nat->VP->Prop}(hs:s.heap.IsSliceOf sl vl vu .none)(pl:IsPart vl lo)(pu:IsPart vu hi)
 (h:Q (((sIx n 0 lo:Nat):Int),1,sIx n n hi - sIx n 0 lo) s):VS (VU prog w) A (Th (.ref sl) (pure (n:Int))) Q E s:=by
 obtain⟨os,hos,hcs,hds⟩:=id hs;unfold Th Builtin.Slice.sliceFields;refine VN (VN (wpAny_field hos hds (x:=vl) rfl (VN (wpAny_field hos hds (x:=vu) rfl (VN (wpAny_field hos hds (x:= .none) rfl (VQ ?_)))))));refine VN (slicePart_none ?_);show VS _ _ (if ((1:Int)==0)=true then _ else _) _ _ s;rw [VI VG];refine VN (zH pl (VN (zH pu (VN (VQ ?_)))));show VS _ _ (match Sg lo hi 1 (n:Int) with | (lo,hi)=>pure (lo,(1:Int),RD lo hi 1)) _ _ s;rw [Gv lo hi n];show VS _ _ (pure (((sIx n 0 lo:Nat):Int),(1:Int),RD ((sIx n 0 lo:Nat):Int) ((sIx n n hi:Nat):Int) 1)) _ _ s;rw [Gw];exact VQ h
theorem Gx(xs:Array VM)(i k:Nat):((Qa k).filterMap λ(m:Nat)=>xs[((i:Int)+(m:Int)*1).toNat]?).toArray=((xs.toList.drop i).take k).toArray:=by
 have e:(λ(m:Nat)=>xs[((i:Int)+(m:Int)*1).toNat]?)=λm=>xs[i+m]?:=by
  funext m;have:((i:Int)+(m:Int)*1).toNat=i+m:=VH
  rw [this]
 rw [e];have:=pick_run xs i k;rw [Uz] at this;have e2:((λx=>xs[x]?)∘ λx=>i+x)=λm=>xs[i+m]?:=rfl;rw [e2] at this;rw [this]
theorem getItem_tuple_cut{t sl:VO}{items:Array VM}{vl vu:VM}{lo hi:Option Int}{Q:VM->VP->Prop}(ht:IsTup s.heap t items)(hs:s.heap.IsSliceOf sl vl vu .none)(pl:IsPart vl lo)(pu:IsPart vu hi)
 (hw:¬(sIx items.size 0 lo=0/\sIx items.size items.size hi=items.size))
 (h:Q (.ref s.heap.objs.size) {s with heap:=s.heap.push {cls:= .type "tuple",data:= .seq ((items.toList.drop (sIx items.size 0 lo)).take (sIx items.size items.size hi - sIx items.size 0 lo)).toArray}})
 (hsz:items.size<=VW):VS (VU prog w) A (WM (.ref t) (.ref sl)) Q E s:=by
 have htake:sizeOk (.seq ((items.toList.drop (sIx items.size 0 lo)).take (sIx items.size items.size hi - sIx items.size 0 lo)).toArray):=by
  show((items.toList.drop (sIx items.size 0 lo)).take (sIx items.size items.size hi - sIx items.size 0 lo)).toArray.size<=VW;rw [OI,PF,R8,OU];omega
 have hj:sIx items.size items.size hi<=items.size:=Gu _ _ (Oj _) hi;obtain⟨os,hos,hcs,hds⟩:=id hs;have hTs:s.TypeIs (.ref sl) "slice":=⟨os,hos,hcs⟩;unfold WM
 try with_reducible refine Wf ?_
 first | refine VN (VQ ?_) | skip
 refine VN (wpAny_sequenceKey ht.typeIs VG ?_);refine VN (Wj (name:=Od "__getitem__") ht.typeIs QX
  (Wc QX ht.typeIs entry_tuple_getitem ?_ (args_tuple_getitem _ _)))
 show VS _ _ (Ti (.ref t) >>=_) _ _ s;refine VN (tupleItemsOf_ ht ?_);refine VN (W7 hTs ?_);rw [VJ VG];refine VN (sliceApplied_gen hs pl pu ?_);have hno:¬((((sIx items.size 0 lo:Nat):Int)==0 && (1:Int)==1 && (sIx items.size items.size hi - sIx items.size 0 lo)==items.size)=true):=by
  intro q;rw [Pw,Pw] at q;have q1:((sIx items.size 0 lo:Nat):Int)=0:=eq_of_beq q.1.1;have q2:sIx items.size items.size hi - sIx items.size 0 lo=items.size:=eq_of_beq q.2;exact hw ⟨VH,VH⟩
 show VS _ _ (if (((sIx items.size 0 lo:Nat):Int)==0 && (1:Int)==1 && (sIx items.size items.size hi - sIx items.size 0 lo)==items.size)=true then _ else _) _ _ s;rw [VI hno,Gx]
 first
  | exact VN (m:=RI _) (V7 (VQ ⟨_,rfl,VQ h⟩) htake)
  | exact VN (m:=RI _) (V7 (VN (VQ (VQ ⟨_,rfl,VQ h⟩))) htake)
  | exact VN (VN (m:=RI _) (V7 (VQ (VQ ⟨_,rfl,VQ h⟩)) htake))
  | exact VN (VN (m:=RI _) (V7 (VQ ⟨_,rfl,VQ h⟩) htake))
end
end HT
namespace L2
open PySem PySem.Spec PyProof.Rows
abbrev TO:=St->Hp->(Option Int->Hp->Prop)->Prop
def PO(X:Cx)(e:Option VV)(t:TO):Prop:=
 ∀(pins:List (VO×Obj))(s:VP)(σ:St)(H:Hp)(Q:Option Int->Hp->Prop),af X pins σ H s->t σ H Q->
  VS (VU X.prog X.w) X.A (evalPart e X.env) (λu s'=>∃o H',af X pins σ H' s'/\IsPart u o/\Q o H') X.xe s
def Gy:TO:=λ_ H Q=>Q none H
def Gz(t:TE):TO:=λσ H Q=>t σ H λx H1=>∃i,x= .int i/\Q (some i) H1
section
variable {X:Cx} {e:VV} {te:TE} {lo hi:Option VV} {tl th:TO} {pos p2:Pos}
theorem GA:PO X none Gy:=by
 intro pins s σ H Q I h;rw [evalPart_none];exact VQ ⟨none,H,I,.none,h⟩
theorem GB(h:PE X e te):PO X (some e) (Gz te):=by
 intro pins s σ H Q I hw;rw [evalPart_some];refine aB (h pins s σ H _ I hw) λu s1 ⟨x,H1,I1,r1,q1⟩=>?_;obtain⟨i,rfl,q⟩:=q1;obtain⟨t,rfl⟩:=r1;exact⟨some i,H1,I1,.int i t,q⟩
def uj(X:Cx)(r:V->Option Int->Option Int->Hp->VK->Prop):Prop:=
 ∀(pins:List (VO×Obj))(s:VP)(σ:St)(H:Hp)(x:V)(v vl vu:VM)(lo hi:Option Int)(sl:VO)(Q:VK),af X pins σ H s->aE x v->s.heap.IsSliceOf sl vl vu .none->IsPart vl lo->IsPart vu hi->r x lo hi H Q->
  ∃T id,typeLookup (.type T) "__getitem__"=pure (some (.builtin id))/\s.TypeIs v T/\VS (VU X.prog X.w) X.A (WM v (.ref sl)) (EP X pins σ Q) X.xe s
def GC(r:V->Option Int->Option Int->Hp->VK->Prop)(te:TE)(tl th:TO):TE:=λσ H Q=>te σ H λx H1=>tl σ H1 λl H2=>th σ H2 λu H3=>r x l u H3 Q
theorem v5{r:V->Option Int->Option Int->Hp->VK->Prop}(hr:uj X r)(he:PE X e te)(hl:PO X lo tl)(hu:PO X hi th):PE X (.Subscript e (.Slice lo hi none p2) pos) (GC r te tl th):=by
 intro pins s σ H Q I h;refine Subscript_ (aB (he pins s σ H _ I h) λv s1 ⟨x,H1,I1,r1,q1⟩=>?_);refine wpAny_Slice (aB (hl pins s1 σ H1 _ I1 q1) λvl s2 ⟨l,H2,I2,pl,q2⟩=>aB (hu pins s2 σ H2 _ I2 q2) λvu s3 ⟨u,H3,I3,pu,q3⟩=>?_);rw [evalPart_none];refine VQ ?_;have I4:af X pins σ H3 {s3 with heap:=s3.heap.push {cls:= .type "slice",data:= .fields #[vl,vu,.none]}}:=I3.kept (t':=s3.toks) λb ob q=>Oo _ q;obtain⟨T,id,hT,ht,hg⟩:=hr pins {s3 with heap:=s3.heap.push {cls:= .type "slice",data:= .fields #[vl,vu,.none]}} σ H3 x v vl vu l u s3.heap.objs.size Q I4 r1 (Heap.IsSliceOf.new ..) pl pu q3;show VS (VU X.prog X.w) X.A (subscriptTail e (.Slice lo hi none p2) v (.ref s3.heap.objs.size)) (EP X pins σ Q) X.xe {s3 with heap:=s3.heap.push {cls:= .type "slice",data:= .fields #[vl,vu,.none]}};exact tail_any (ops:=[.ref s3.heap.objs.size,v]) ht hT hg (by with_unfolding_all rfl)
def jQ(xs:List V)(lo hi:Option Int):List V:=(xs.drop (HT.sIx xs.length 0 lo)).take (HT.sIx xs.length xs.length hi - HT.sIx xs.length 0 lo)
theorem zI(xs:List V)(lo hi:Option Int):(jQ xs lo hi).length<=xs.length:=by
 unfold jQ;rw [PF,R8];omega
def GF(K:Oe):V->Option Int->Option Int->Hp->VK->Prop:=λx lo hi H Q=>∃a xs,x= .ref a/\bz K H a xs/\
 ¬(HT.sIx xs.length 0 lo=0/\HT.sIx xs.length xs.length hi=xs.length)/\∀p,H p=none->Q (.ref p) (ai H p (.tup (jQ xs lo hi)))
theorem GG:uj X (GF X.K):=by
 intro pins s σ H x v vl vu lo hi sl Q I rx hs pl pu h;obtain⟨a,xs,rfl,hx,hw,q⟩:=h;cases rx;obtain⟨its,r,ht,hz⟩:=I.tuple hx;have hlen:its.toArray.size=xs.length:=by rw [OI];exact r.length.symm
 refine⟨"tuple",_,QX.lookup,ht.typeIs,?_⟩;refine HT.getItem_tuple_cut ht hs pl pu (by rw [hlen];exact hw) ?_ (by rw [hlen];exact hz);rw [hlen];refine⟨.ref s.heap.objs.size,_,I.laid (t':=s.toks) (o:= .tup (jQ xs lo hi)) (λb ob q=>Oo _ q) (Oj _) ?_,rfl,q _ (I.hok.fresh (Oj _))⟩;exact⟨O6 (zI xs lo hi) hz,_,(r.drop (HT.sIx xs.length 0 lo)).take (HT.sIx xs.length xs.length hi - HT.sIx xs.length 0 lo),Uu _ _⟩
def v7(K:Oe):R2:=λx y H Q=>∃a b xs ys,x= .ref a/\y= .ref b/\bz K H a xs/\bz K H b ys/\xs≠[]/\xs.length+ys.length<=VW/\
 (ys=[]->Q (.ref a) H)/\(ys≠[]->∀p,H p=none->Q (.ref p) (ai H p (.tup (xs++ys))))
theorem aK.nil_iff{xs:List V}{us:List VM}(r:aK xs us):us=[]↔xs=[]:=by
 cases r with
 | nil=>simp
 | cons _ _=>simp
theorem GH:bH X (Wm .Add) (v7 X.K):=by
 intro pins s σ H x y v u Q I rx ry h;obtain⟨a,b,xs,ys,rfl,rfl,ha,hb,hx,hz,q1,q2⟩:=h;cases rx;cases ry;obtain⟨its,r1,p1,_⟩:=I.tuple ha;obtain⟨its2,r2,p2,_⟩:=I.tuple hb;refine HT.cat_tup p1 p2 (λz=>hx (r1.nil_iff.mp z)) (λz=>⟨.ref a,H,I,rfl,q1 (r2.nil_iff.mp z)⟩) (λz=>?_) (by rw [<-r1.length,<-r2.length];exact hz);refine⟨.ref s.heap.objs.size,_,I.laid (t':=s.toks) (o:= .tup (xs++ys)) (λb ob q=>Oo _ q) (Oj _) ?_,rfl,q2 (λw=>z (r2.nil_iff.mpr w)) _ (I.hok.fresh (Oj _))⟩;exact⟨by rw [OH];exact hz,_,r1.append r2,Uu _ _⟩
end
open PySem PySem.Spec PyProof.Rows
def iQ(n:Nat)(i:Int):Option Nat:=if 0<=i then(if i < n then some i.toNat else none) else if -(n:Int)<=i then some (i+n).toNat else none
def atI{α:Type}(xs:List α)(i:Int):Option α:=(iQ xs.length i).bind λj=>xs[j]?
theorem GI{n:Nat}{i:Int}{j:Nat}(h:iQ n i=some j):seqIndex? i n=some j/\j < n/\-(n:Int)<=i/\i < n:=by
 unfold iQ at h;by_cases h0:0<=i
 ·rw [VJ h0] at h;by_cases h1:i < n
  ·rw [VJ h1] at h;have e:i.toNat=j:=Pf h;exact⟨by rw [seqIndex_of h0 h1,e],VH,VH,h1⟩
  ·rw [VI h1] at h;cases h
 ·rw [VI h0] at h;by_cases h1:-(n:Int)<=i
  ·rw [VJ h1] at h;have e:(i+n).toNat=j:=Pf h;exact⟨by rw [seqIndex_neg VH h1,e],VH,h1,VH⟩
  ·rw [VI h1] at h;cases h
theorem v8{α:Type}{xs:List α}{i:Int}{v:α}(h:atI xs i=some v):∃j,seqIndex? i xs.length=some j/\xs[j]?=some v/\j < xs.length/\-(xs.length:Int)<=i/\i < xs.length:=by
 unfold atI at h;cases e:iQ xs.length i with
 | none=>rw [e] at h;cases h
 | some j=>
  rw [e] at h;obtain⟨h1,h2,h3,h4⟩:=GI e;exact⟨j,h1,h,h2,h3,h4⟩
theorem gF{α:Type}{xs:List α}{j:Nat}{v:α}(h:xs[j]?=some v):atI xs (j:Int)=some v:=by
 have hj:j < xs.length:=(OB.mp h).1;have e:iQ xs.length (j:Int)=some j:=by
  unfold iQ;rw [VJ VH,VJ VH];simp
 unfold atI;rw [e];exact h
theorem zJ{α:Type}(xs:List α)(v:α):atI (xs++[v]) (-1)=some v:=by
 have hl:(xs++[v]).length=xs.length+1:=by simp
 have e:iQ (xs++[v]).length (-1)=some xs.length:=by
  unfold iQ;rw [hl,VI VG,VJ VH];congr 1;omega
 unfold atI;rw [e];show(xs++[v])[xs.length]?=some v;simp
def GJ(b:VV):Prop:=∀o i,Xe b false o i=operate [o,i] (WM o i)
def sM(X:Cx)(r:R2):Prop:=
 ∀(value slice:VV)(pins:List (VO×Obj))(s:VP)(σ:St)(H:Hp)(x y:V)(v u:VM)(Q:VK),af X pins σ H s->aE x v->aE y u->r x y H Q->
  Xe slice false v u=operate [v,u] (WM v u)->VS (VU X.prog X.w) X.A (subscriptTail value slice v u) (EP X pins σ Q) X.xe s
def GK(X:Cx)(id:String)(r:V->List V->Hp->VK->Prop):Prop:=
 ∀(pins:List (VO×Obj))(s:VP)(σ:St)(H:Hp)(x:V)(xs:List V)(v:VM)(us:List VM)(Q:VK),af X pins σ H s->aE x v->aK xs us->r x xs H Q->
  VS (VU X.prog X.w) X.A (call (.builtin id) (v::us)) (EP X pins σ Q) X.xe s
section
variable {X:Cx} {a b:VV} {ta tb:TE} {pos:Pos}
theorem sN{r:R2}(hr:sM X r)(ha:PE X a ta)(hb:PE X b tb)(hs:GJ b):PE X (.Subscript a b pos) (qZ r ta tb):=by
 intro pins s σ H Q I h;exact Subscript_ (vT ha hb I h λv u s2 x y H2 I2 rx ry q=>hr a b pins s2 σ H2 x y v u Q I2 rx ry q (hs _ _))
def v9(K:Oe):R2:=λx y H Q=>∃p xs i v,x= .ref p/\y= .int i/\bg K H p xs/\atI xs i=some v/\Q v H
def wa(K:Oe):R2:=λx y H Q=>∃p xs i v,x= .ref p/\y= .int i/\bz K H p xs/\atI xs i=some v/\Q v H
def zK:R2:=λx y H Q=>∃z i c,x= .str z/\y= .int i/\z.length<=VW/\atI z.cps.toList i=some c/\Q (.str ⟨#[c]⟩) H
theorem bj:sM X (v9 X.K):=by
 intro value slice pins s σ H x y v u Q I rx ry h hs;obtain⟨p,xs,i,z,rfl,rfl,hq,he,q⟩:=h;cases rx;obtain⟨t,rfl⟩:=ry;obtain⟨its,r,pl,hz⟩:=I.list hq;obtain⟨j,h1,h2,h3,h4,h5⟩:=v8 he;obtain⟨w,ew,rw'⟩:=r.get h2;have hl:=r.length;have hn:=sJ;have fin:EP X pins σ Q w s:=⟨z,H,I,rw',q⟩;by_cases h0:0<=i
 ·have hj:i.toNat=j:=by
   rw [seqIndex_of h0 h5] at h1;exact Pf h1
  exact item_listR pl.isList h0 VH (by rw [hj];simpa using ew) fin hs
 ·have hj:(i+(its.toArray.size:Int)).toNat=j:=by
   rw [seqIndex_neg VH h4] at h1;rw [OI,<-hl];exact Pf h1
  exact subscriptTail_builtinR (x:=w) pl.isList.typeIs slot_list_getitem.lookup
   (wpAny_getItem_list_neg (Q:=λr s'=>r=w/\EP X pins σ Q r s') pl.isList VH (by rw [OI] <;> omega) VH (by rw [hj];simpa using ew) ⟨rfl,fin⟩) hs
theorem aC:sM X (wa X.K):=by
 intro value slice pins s σ H x y v u Q I rx ry h hs;obtain⟨p,xs,i,z,rfl,rfl,hq,he,q⟩:=h;cases rx;obtain⟨t,rfl⟩:=ry;obtain⟨its,r,pl,hz⟩:=I.tuple hq;obtain⟨j,h1,h2,h3,h4,h5⟩:=v8 he;obtain⟨w,ew,rw'⟩:=r.get h2;have hl:=r.length;have hn:=sJ;have fin:EP X pins σ Q w s:=⟨z,H,I,rw',q⟩;exact subscriptTail_builtinR (x:=w) pl.typeIs slot_tuple_getitem.lookup
  (getItem_tuple (j:=j) (Q:=λr s'=>r=w/\EP X pins σ Q r s') pl VH VH (by rw [OI,<-hl];exact h1) (by simpa using ew) ⟨rfl,fin⟩) hs
theorem zL:sM X zK:=by
 intro value slice pins s σ H x y v u Q I rx ry h hs;obtain⟨z,i,c,rfl,rfl,hz,he,q⟩:=h;obtain⟨t,rfl⟩:=rx;obtain⟨t',rfl⟩:=ry;obtain⟨j,h1,h2,h3,h4,h5⟩:=v8 he;have hl:z.cps.toList.length=z.length:=by simp [Str.length]
 rw [hl] at h1 h4 h5;have hn:=sJ;exact tail_any (W8 s z t) slot_str_getitem.lookup (getItem_str (c:=c) (by
  have e1:decide (i < -(2 ^ 63:Int))=false:=decide_eq_false VH;have e2:decide (i >= 2 ^ 63)=false:=decide_eq_false VH;rw [e1,e2,QE]) (by rw [h1];simpa using h2) ⟨.str ⟨#[c]⟩,H,I.tok _,⟨_,rfl⟩,q⟩) hs
theorem GL(lo hi:Option Int)(n:Nat):(WN lo hi none n).1=((HT.sIx n 0 lo:Nat):Int)/\(WN lo hi none n).2.1=((HT.sIx n n hi:Nat):Int)/\(WN lo hi none n).2.2=1:=by
 refine⟨?_,?_,rfl⟩
 ·cases lo with
  | none=>simp [WN,HT.sIx]
  | some i=>
   simp only [WN,HT.sIx,TK,show(1:Int) > 0 by decide,if_true];by_cases h:i < 0
   ·simp only [h,if_true] <;> omega
   ·simp only [h,if_false] <;> omega
 ·cases hi with
  | none=>simp [WN,HT.sIx]
  | some i=>
   simp only [WN,HT.sIx,TK,show(1:Int) > 0 by decide,if_true];by_cases h:i < 0
   ·simp only [h,if_true] <;> omega
   ·simp only [h,if_false] <;> omega
theorem GN(its:List VM)(lo hi:Option Int):slicePick its.toArray lo hi none=((its.drop (HT.sIx its.length 0 lo)).take (HT.sIx its.length its.length hi - HT.sIx its.length 0 lo)).toArray:=by
 obtain⟨h1,h2,h3⟩:=GL lo hi its.toArray.size;unfold slicePick;rw [h1,h2,h3];simp only [sliceRange_one,pick_run,OI] <;> rfl
def GO(K:Oe):V->Option Int->Option Int->Hp->VK->Prop:=λx lo hi H Q=>∃a xs,x= .ref a/\bg K H a xs/\∀p,H p=none->Q (.ref p) (ai H p (.lst (jQ xs lo hi)))
theorem zM:uj X (GO X.K):=by
 intro pins s σ H x v vl vu lo hi sl Q I rx hs pl pu h;obtain⟨a,xs,rfl,hx,q⟩:=h;cases rx;obtain⟨its,r,ht,hz⟩:=I.list hx;have hlen:=r.length;refine⟨"list",_,slot_list_getitem.lookup,ht.isList.typeIs,?_⟩;refine wpAny_getItem_list_slice ht.isList hs pl pu .none (by simp) ?_ (by rw [OI] <;> omega);rw [GN,<-hlen];refine⟨.ref s.heap.objs.size,_,I.laid (t':=s.toks) (o:= .lst (jQ xs lo hi)) (λb ob q=>Oo _ q) (Oj _) ?_,rfl,q _ (I.hok.fresh (Oj _))⟩;exact⟨O6 (zI xs lo hi) hz,_,0,(r.drop (HT.sIx xs.length 0 lo)).take (HT.sIx xs.length xs.length hi - HT.sIx xs.length 0 lo),OR _ rfl⟩
theorem mN:eF X (.builtin "len") (λxs H Q=>∃p ys,xs=[.ref p]/\(bg X.K H p ys\/bz X.K H p ys)/\Q (.int ys.length) H):=by
 intro pins s σ H xs us Q I r h;obtain⟨p,ys,rfl,hq,q⟩:=h;obtain⟨u,rfl,rx⟩:=fD r;cases rx;have hn:=sJ;rcases hq with hq | hq
 ·obtain⟨its,r',pl,hz⟩:=I.list hq;have hlen:=r'.length;exact Calls.call_len_list pl.isList (by simp only [OI] <;> omega) ⟨.int ys.length,H,I.tok _,⟨s.toks+1,by rw [OI,hlen]⟩,q⟩
 ·obtain⟨its,r',pl,hz⟩:=I.tuple hq;have hlen:=r'.length;exact len_tuple pl (by simp only [OI] <;> omega) ⟨.int ys.length,H,I.tok _,⟨s.toks+1,by rw [OI,hlen]⟩,q⟩
theorem GP:eF X (.type "list") (λxs H Q=>∃p ys,xs=[.ref p]/\(bg X.K H p ys\/bz X.K H p ys)/\∀l,H l=none->Q (.ref l) (ai H l (.lst ys))):=by
 intro pins s σ H xs us Q I r h;obtain⟨p,ys,rfl,hq,q⟩:=h;obtain⟨u,rfl,rx⟩:=fD r;cases rx;have fin:∀(its:List VM),aK ys its->ys.length<=VW->∀(h':V0)(c':Nat),(∀b o',s.heap.get? b=some o'->h'.get? b=some o')->
  h'.get? s.heap.objs.size=some {cls:= .type "list",dict:=none,data:= .seq its.toArray c',slots:=#[]}->EP X pins σ Q (.ref s.heap.objs.size) {s with heap:=h'}:=λits r' hz h' c' kp e=>
  ⟨.ref s.heap.objs.size,_,I.laid (t':=s.toks) kp (Oj _) (show cb X.prog X.w _ h' _ (.lst ys) from⟨hz,its,c',r',e⟩),rfl,q _ (I.hok.fresh (Oj _))⟩
 rcases hq with hq | hq
 ·obtain⟨its,r',pl,hz⟩:=I.list hq;have hlen:=r'.length;obtain⟨o,ho,hc,n,hd⟩:=pl.isList;exact call_list_seq p (.inl rfl) ho hc hd (λh' c' kp e=>fin its r' hz h' c' kp e) (by simp only [OI] <;> omega)
 ·obtain⟨its,r',pl,hz⟩:=I.tuple hq;have hlen:=r'.length;obtain⟨o,ho,hc,n,hd⟩:=pl;exact call_list_seq p (.inr rfl) ho hc hd (λh' c' kp e=>fin its r' hz h' c' kp e) (by simp only [OI] <;> omega)
theorem fc:eF X (.type "tuple") (λxs H Q=>∃p ys,xs=[.ref p]/\((bg X.K H p ys/\∀l,H l=none->Q (.ref l) (ai H l (.tup ys)))\/(bz X.K H p ys/\Q (.ref p) H))):=by
 intro pins s σ H xs us Q I r h;obtain⟨p,ys,rfl,h⟩:=h;obtain⟨u,rfl,rx⟩:=fD r;cases rx;rcases h with⟨hq,q⟩ | ⟨hq,q⟩
 ·obtain⟨its,r',pl,hz⟩:=I.list hq;have hlen:=r'.length;refine call_tuple_list pl.isList (λh' kp=>?_) (by simp only [OI] <;> omega);have I1:af X pins σ H {s with heap:=h'}:=I.kept (t':=s.toks) kp;have I2:af X pins σ (ai H h'.objs.size (.tup ys)) {s with heap:=h'.push {cls:= .type "tuple",data:= .seq its.toArray}}:=
   I1.laid (t':=s.toks) (λb o e=>Oo _ e) (Oj _) (show cb X.prog X.w _ _ _ (.tup ys) from⟨hz,its,r',Uu _ _⟩)
  exact⟨.ref h'.objs.size,_,I2,rfl,q _ (I1.hok.fresh (Oj _))⟩
 ·obtain⟨its,r',pl,hz⟩:=I.tuple hq;exact call_tuple_same pl ⟨.ref p,H,I,rfl,q⟩
def zN(K:Oe)(T:String)(x:V)(H:Hp):Prop:=match x with
 | .str _=>T="str"
 | .int _=>T="int"
 | .ref p=>(T="list"/\∃xs,bg K H p xs)\/(T="tuple"/\∃o,K.lookup p=some o/\o.cls= .type "tuple"/\o.dict=none)\/
  (T="dict"/\((∃kvs,H p=some (.dK kvs))\/∃kvs,H p=some (.dT kvs)))\/(T="set"/\∃S n,H p=some (.set S n))
 | _=>False
theorem GQ{pins:List (VO×Obj)}{σ:St}{H:Hp}{s:VP}{T:String}{x:V}{v:VM}(I:af X pins σ H s)(r:aE x v)(ty:zN X.K T x H):
 s.TypeIs v T/\∀a,v= .ref a->∃ob,s.heap.get? a=some ob/\ob.dict=none:=by
 cases x with
 | str z=>
  obtain⟨t,rfl⟩:=r;cases (show T="str" from ty);exact⟨W8 s z t,λ_ e=>nomatch e⟩
 | int i=>
  obtain⟨t,rfl⟩:=r;cases (show T="int" from ty);exact⟨typeIs_int s i t,λ_ e=>nomatch e⟩
 | ref p=>
  cases r;rcases ty with⟨rfl,xs,hq⟩ | ⟨rfl,o,hk,hc,hd⟩ | ⟨rfl,hk⟩ | ⟨rfl,S,n,hk⟩
  ·obtain⟨its,_,pl,_⟩:=I.list hq;refine⟨pl.isList.typeIs,λa e=>?_⟩;cases e;obtain⟨o,n,e,c,hd,_⟩:=pl;exact⟨o,e,hd⟩
  ·refine⟨⟨o,I.kIn p o hk,hc⟩,λa e=>?_⟩;cases e;exact⟨o,I.kIn _ o hk,hd⟩
  ·have z:∃o,s.heap.get? p=some o/\o.ExactDict:=by
    rcases hk with⟨kvs,hk⟩ | ⟨kvs,hk⟩
    ·obtain⟨_,_,_,_,o,_,_,e,ex,_⟩:=I.hok p _ hk;exact⟨o,e,ex⟩
    ·obtain⟨_,_,_,_,o,_,_,e,ex,_⟩:=I.hok p _ hk;exact⟨o,e,ex⟩
   obtain⟨o,e,ex⟩:=z;refine⟨⟨o,e,ex.1⟩,λa e2=>?_⟩;cases e2;exact⟨o,e,ex.2.1⟩
  ·obtain⟨o,_,_,_,e,ex,_⟩:=I.hok p _ hk;refine⟨⟨o,e,ex.1⟩,λa e2=>?_⟩;cases e2;exact⟨o,e,ex.2.1⟩
 | _=>exact Qp ty
def GR(K:Oe)(T:String)(r:V->List V->Hp->VK->Prop)(to:TE)(t:TA):TE:=λσ H Q=>to σ H λx H1=>zN K T x H1/\t σ H1 λxs H2=>r x xs H2 Q
variable {o e:VV} {es:List VV} {to:TE} {t:TA} {name:Str} {apos cpos:Pos} {T id:String} {r:V->List V->Hp->VK->Prop}
theorem wb(pa:PlainAttrs T)(slot:Slot T name id)(hty:typeOf (.builtin id)=pure (.type "method_descriptor"))(hm:GK X id r)(ho:PE X o to)(ha:PA X (e::es) t)
 (hbase:Wi o name X.env (eval o X.env)=eval o X.env:=by rfl)
 (hfew:((V5 cpos (VT (e::es) X.env)).all (λx=>!x.1) && (Wv cpos (Wl [] X.env)).all (λx=>x.1.isSome)
   && decide ((e::es).length+([]:List WB).length+(if ([]:List WB).isEmpty then 0 else 1) < 30))=true:=by rfl)
 (hline:(apos.endLine==cpos.line)=true:=by rfl)(hs:VT (e::es) X.env=(false,eval e X.env)::VT es X.env:=by rfl)(hplain:(V5 cpos (VT es X.env)).any (·.1)=false:=by rfl):
 PE X (.Call (.Attribute o name apos) (e::es) [] cpos) (GR X.K T r to t):=by
 intro pins s σ H Q I h;refine wpAny_Call_method_late hbase hfew hline rfl (aB (ho pins s σ H _ I h) λv s1 ⟨x,H1,I1,r1,ty,q1⟩=>?_);obtain⟨h1,h2⟩:=GQ I1 r1 ty;refine⟨T,id,pa,slot,hty,h1,h2,?_⟩;have hA:=ha cpos pins s1 σ H1 _ I1 q1;rw [hs] at hA⊢;refine SJ (by show(false || (V5 cpos (VT es X.env)).any (·.1))=false;rw [hplain] <;> rfl) (SW ?_);exact aB hA λus s2 uu54=>by obtain⟨vs,H2,I2,r2,q2⟩:=uu54;exact hm pins s2 σ H2 x vs v us Q I2 r1 r2 q2
end
open PySem PySem.Spec PyProof.Rows
def wc(X:Cx)(id:String)(r:V->List V->Hp->VK->Prop):Prop:=
 ∀(pins:List (VO×Obj))(s:VP)(σ:St)(H:Hp)(x:V)(xs:List V)(v:VM)(us:List VM)(Q:VK),af X pins σ H s->aE x v->aK xs us->r x xs H Q->
  VS (VU X.prog X.w) X.A (call (.builtin id) (v::us)) (EP X pins σ Q) X.xe s
theorem aK.one:∀{x:V}{us:List VM},aK [x] us->∃u,us=[u]/\aE x u
 | _,_,.cons r .nil=>⟨_,rfl,r⟩
section
variable {X:Cx} {pins:List (VO×Obj)} {σ:St} {H:Hp} {s:VP} {l b:VO} {xs ys zs:List V}
theorem af.lset{its its':List VM}{n:Nat}{f:Array VM->Array VM}{t':Nat}(I:af X pins σ H s)(hH:H l=some (.lst xs))
 (e:s.heap.get? l=some {cls:= .type "list",data:= .seq its.toArray n})(hf:f its.toArray=its'.toArray)(hv:aK ys its')(hz:ys.length<=VW):
 af X pins σ (ai H l (.lst ys)) {s with heap:=s.heap.update l (PY f),toks:=t'}:=by
 have q:=PySem.IsL.update e f;rw [hf] at q;refine I.write (x:=l) (e:=l) (by rw [hH];exact trivial) (.inl rfl) (λb' u hb hu=>(Ri s.heap (PY f) (Ne.symm hb)).trans hu) ⟨_,q⟩ ?_;exact⟨hz,its',_,hv,q⟩
theorem af.lnew{its:List VM}{t':Nat}(I:af X pins σ H s)(hv:aK ys its)(hz:ys.length<=VW):
 af X pins σ (ai H s.heap.objs.size (.lst ys)) {s with heap:=s.heap.push {cls:= .type "list",data:= .seq its.toArray},toks:=t'}:=
 I.laid (λ_ _ q=>Oo _ q) (Oj _) ⟨hz,its,0,hv,OR _ rfl⟩
theorem af.fresh(I:af X pins σ H s):H s.heap.objs.size=none:=I.hok.fresh (Oj _)
theorem af.lstM(I:af X pins σ H s)(hH:H l=some (.lst xs)):xs.length<=VW/\∃(its:List VM)(n:Nat),aK xs its/\xs.length=its.length/\s.heap.get? l=some {cls:= .type "list",data:= .seq its.toArray n}:=by
 obtain⟨z,its,n,r,e⟩:=I.hok l _ hH;exact⟨z,its,n,r,r.length,e⟩
theorem zO{n:Nat}(h:n<=VW):RJ n=false:=by
 unfold RJ;exact decide_eq_false VH
end
section
variable {X:Cx}
def GS:V->List V->Hp->VK->Prop:=λx vs H Q=>∃l xs y,x= .ref l/\vs=[y]/\H l=some (.lst xs)/\xs.length < VW/\Q .non (ai H l (.lst (xs++[y])))
theorem zP:wc X "list.append" GS:=by
 intro pins s σ H x vs v us Q I rx rv h;obtain⟨l,xs,y,rfl,rfl,hH,hz,q⟩:=h;cases rx;obtain⟨u,rfl,ru⟩:=rv.one;obtain⟨z,its,n,r,hl,e⟩:=I.lstM hH;refine WT F.slot_list_append ⟨_,e,rfl⟩ F.entry_list_append (F.args_list_append_2 _ _) (PySem.list_append l its.toArray n u (by rw [OI];omega)) ⟨e,?_⟩;refine⟨.non,_,I.lset (its':=its++[u]) hH e (by simp) (r.append (.cons ru .nil)) ?_,rfl,q⟩;rw [OH,Qw];omega
def GU:V->List V->Hp->VK->Prop:=λx vs H Q=>∃l b xs zs,x= .ref l/\vs=[.ref b]/\H l=some (.lst xs)/\H b=some (.lst zs)/\xs.length+zs.length<=VW/\Q .non (ai H l (.lst (xs++zs)))
theorem GV:wc X "list.extend" GU:=by
 intro pins s σ H x vs v us Q I rx rv h;obtain⟨l,b,xs,zs,rfl,rfl,hH,hB,hz,q⟩:=h;cases rx;obtain⟨u,rfl,ru⟩:=rv.one;cases ru;obtain⟨z,its,n,r,hl,e⟩:=I.lstM hH;obtain⟨z2,its2,n2,r2,hl2,e2⟩:=I.lstM hB;have hsz:its.toArray.size+its2.toArray.size<=VW:=by rw [OI,OI];omega
 have hlong:¬(!its.toArray.isEmpty && RJ (its.toArray.size+its2.toArray.size))=true:=by
  rw [zO hsz,Vb];exact OF
 refine WT F.slot_list_extend ⟨_,e,rfl⟩ F.entry_list_extend (F.args_list_extend_2 _ _)
  (SO l its.toArray n b its2.toArray n2 hlong (by rw [OI];omega) VH) ⟨e,e2,?_⟩
 refine⟨.non,_,I.lset (its':=its++its2) hH e (by simp) (r.append r2) ?_,rfl,q⟩;rw [OH];omega
end
end L2
namespace Att
open PySem PySem.W PySem.Calls PyProof.Rows
theorem GW{P:Params}{h:V0}:∀(ns:List Int)(vs:List VM),WellAll P h vs (ns.map RR)->We vs ns:=by
 intro ns
 induction ns with
 | nil=>
  intro vs w;rw [PD] at w;cases w;exact .nil
 | cons n ns ih=>
  intro vs w;rw [Ol] at w;cases w with
  | cons a b=>
   cases a;exact .cons _ _ (ih _ b)
theorem GX{l:OpenLaw}{n:Nat}(hn:l.most=some n){P:Params}{h:V0}{args:List WData}{vals:List VM}
 (hpre:l.row.toRowW.claim.pre args=true)(hwl:WellAll P h vals args):
 ∃a vs ns,vals=[Pc a]/\args=[Tv (ns.map RR)]/\h.get? a=some {cls:= .type "list",data:= .seq vs.toArray}/\We vs ns/\ns.length<=n:=by
 have hsh:WShape.hasAll [] args [.list .int]=true:=(pre_splitW hpre).1;have hc:l.pre.holds [] {args:=args}=true:=(pre_splitW hpre).2;obtain⟨d,r,rfl,h1,h2⟩:=hasAllW_cons hsh;obtain rfl:=hasAllW_nil h2;obtain⟨xs,rfl,h3⟩:=hasW_list h1;obtain⟨ns,rfl⟩:=items_int h3;have hlen:ns.length<=n:=by
  unfold OpenLaw.pre at hc;have h4:(WTm.not (.lt (.lit (.int (n:Int))) (.len (.arg 0)))).holds [] {args:=[.list (ns.map .int)]}=true:=by
   have h4:=(holds_andW hc).1;rw [hn] at h4;exact h4
  have h5:=condW_of h4 (w_not (w_lt w_lit (w_len_list (w_arg rfl))));rw [Of] at h5;refine QR λq=>?_;have q':(n:Int) < ((ns.length:Nat):Int):=VH
  first
   | (rw [decide_eq_true q'] at h5;exact absurd h5 VG)
   | (simp at h5;omega)
 cases hwl with
 | cons w1 w2=>
  cases w2;cases w1 with
  | list ho hall=>exact⟨_,_,ns,rfl,rfl,ho,GW ns _ hall,hlen⟩
theorem GY(l:OpenLaw)(args:List WData):l.row.toRowW.claim.post args (.bool true) args=true:=
 postW_of (r:=l.row.toRowW) (X:=(true==true))
  (show WShape.has [] (.bool true) .bool=true by first | rfl | decide | simp [WShape.has,WShape.arms,WShape.armsAll])
  (show(WTm.eq .res (.lit (.bool true))).value [] {args:=args,res:=some (.bool true),after:=args}=some (.bool (true==true)) from w_eq_bool (w_res rfl) w_lit) rfl
end Att
namespace L2
open PySem PySem.Spec PyProof.Rows
theorem zQ:∀{vs:List VM}{ns:List Int},We vs ns->aK (ns.map V.int) vs
 | _,_,.nil=>.nil
 | _,_,.cons n t h=>.cons ⟨t,rfl⟩ (zQ h)
def uk(H:Hp):Prop:=∀b,H b=none\/∃o xs,H b=some (.frz o (.lst xs))
theorem GZ{P:VY}{w:VZ}{K:Oe}{mg mb:Str->Option VM}{CX:eG}{k:Nat}{fa a:VO}{fd:VX}{x:Str}{sp:Sp}{s₁:VP}{vs:List VM}{ns:List Int}
 (KX:K.In s₁.heap)(hns:s₁.heap.Ns VR mg)(hb:s₁.heap.Ns builtinsNs mb)(hbb:∀x:Str,x≠"__name__"->mb x=V9 x)(hlim:s₁.heap.NoLimit)(hg:s₁.gens=#[])
 (ha:s₁.heap.get? a=some {cls:= .type "list",data:= .seq vs.toArray})(hi:We vs ns)(hl:ns.length<=VW)(hr:bf k callerA)
 (F:∀base:V0,K.In base->base.Ns VR mg->aF P w K mg base CX k fa fd [x] sp)(hbind:∀(s:VP) (u:VM),BindsTo s fd ⟨[u],[]⟩ [(x,u)])
 (hsp:∀H:Hp,uk H->bg K H a (ns.map V.int)->sp [.ref a] H (λv _=>v= .bl true) λ_ _ _=>False)
 (hCX:∀H e s',CX [] H s₁ (λ_ _ _=>False) e s'->False):
 WA (VU P w) callerA (.call (.ref fa) ⟨[.ref a],[]⟩) (λr s'=>r= .ok (.ret (.bool true))/\OldK s₁.heap s'.heap/\s'.os=s₁.os/\WZ s'.gens) s₁:=by
 have rv:=zQ hi;have lenV:=hi.length;have core:∀H:Hp,uk H->bg K H a (ns.map V.int)->bG P w H s₁.heap->(∀b,H b≠none->b=a)->(H a≠none->K.lookup a=none)->
  WA (VU P w) callerA (.call (.ref fa) ⟨[.ref a],[]⟩) (λr s'=>r= .ok (.ret (.bool true))/\OldK s₁.heap s'.heap/\s'.os=s₁.os/\WZ s'.gens) s₁:=by
  intro H hO hS hok hA hK;have base_of:∀{b:VO}{o:Obj},s₁.heap.get? b=some o->H b=none->(jN s₁.heap H).get? b=some o:=λe n=>E6 e n;have noA:∀{b:VO}{o:Obj}{es:Array Xh}{ep:Nat},s₁.heap.get? b=some o->o.data= .dict es ep->H b=none:=λ{b o es ep} e d=>by
   cases q:H b with
   | none=>rfl
   | some u=>
    have e':b=a:=hA b (by rw [q];simp);subst e';rw [ha] at e;cases e;have d':Data.seq vs.toArray _=Data.dict es ep:=d;cases d'
  have nsK:∀{b:VO}{m:Str->Option VM},s₁.heap.Ns b m->(jN s₁.heap H).Ns b m:=λ{b m} ⟨o,es,ep,e,d,r⟩=>⟨o,es,ep,base_of e (noA e d),d,r⟩;have hKb:K.In (jN s₁.heap H):=λb o e=>base_of (KX b o e) (by
   cases q:H b with
   | none=>rfl
   | some u=>
    have e':b=a:=hA b (by rw [q];simp);subst e';rw [hK (by rw [q];simp)] at e;cases e)
  have hM:Mod K mg (jN s₁.heap H):=⟨hKb,nsK hns,⟨mb,nsK hb,hbb⟩,let ⟨mc,h1,h2⟩:=hlim;⟨mc,nsK h1,h2⟩⟩;have e0:iP P w K mg (jN s₁.heap H) callerA [] s₁ H:=⟨rfl,hM,λb o e=>E7 e,Uw (E5 _ _),trivial,λb hb=>absurd (show b∈([]:List VO) from hb) (by simp),hok,.of_eq hg⟩;refine Ww ((F _ hKb (nsK hns)).run callerA [] s₁ H ⟨[.ref a],[]⟩ [.ref a] [.ref a] _ _ hr e0 (hbind s₁ (.ref a)) (.cons rfl .nil) (hsp H hO hS)) λr s' h=>?_;cases r with
  | error e=>exact(hCX H e s' h).elim
  | ok fl=>
   cases fl with
   | next=>exact Qp h
   | brk=>exact Qp h
   | cont=>exact Qp h
   | ret u=>
    obtain⟨v,H',os,bare,un,hok',r',q⟩:=h;have q':v= .bl true:=q;subst q';obtain rfl:u=RC true:=r';refine⟨rfl,OldK.of_keep λb o e=>?_,os,bare⟩;cases q:H b with
    | none=>exact un.keep b o e q (by intro z;exact absurd (show b∈([]:List VO) from z) (by simp)) (by simp)
    | some u=>
     rcases hO b with z | ⟨ob,xs,z⟩
     ·rw [q] at z;cases z
     ·have z2:=un.frzs b ob _ z;obtain⟨e1,_⟩:=hok b _ z;obtain⟨e2,_⟩:=hok' b _ z2;rw [e] at e1;cases e1;exact e2
 cases hk:K.lookup a with
 | some o=>
  have e:=KX a o hk;rw [ha] at e;cases e;refine core (λ_=>none) (λ_=>.inl rfl) (.inr ⟨_,vs.toArray,_,hk,rfl,rfl,rfl,by rw [OI,lenV];exact hl,by simpa using rv⟩) (λb u z=>by have z':(none:Option HO)=some u:=z;cases z') (λb z=>absurd rfl z) λz=>absurd rfl z
 | none=>
  refine core (λb=>if b=a then some (.frz {cls:= .type "list",data:= .seq vs.toArray} (.lst (ns.map V.int))) else none) (λb=>?_) (.inl (.inr ⟨{cls:= .type "list",data:= .seq vs.toArray},VJ rfl⟩)) (λb u z=>?_) (λb z=>?_) λ_=>hk
  ·by_cases hb:b=a
   ·exact .inr ⟨_,_,VJ hb⟩
   ·exact .inl (VI hb)
  ·by_cases hb:b=a
   ·have z':=(VJ hb).symm.trans z;cases z';subst hb;exact⟨ha,by rw [Of];exact hl,vs,_,rv,ha⟩
   ·have z':=(VI hb).symm.trans z;cases z'
  ·by_cases hb:b=a
   ·exact hb
   ·exact absurd (VI hb) z
open PySem PySem.Spec PyProof.Rows
abbrev KOf{K:Oe}{h:V0}(_:K.In h):Oe:=K
open PySem PySem.Spec PyProof.Rows
def inClass(s:V1)(j:Nat):V1:=match s with
 | .ClassDef _ _ _ body _ _ _ _ _ _ _=>body.getD j (.Pass ⟨0,0,0,0⟩)
 | _=>.Pass ⟨0,0,0,0⟩
def av(s:V1):Arguments:=match s with
 | .FunctionDef _ a _ _ _ _ _ _ _ _=>a
 | _=>{posonlyargs:=[],args:=[],vararg:=none,kwonlyargs:=[],kw_defaults:=[],kwarg:=none,defaults:=[]}
def au(s:V1):List V1:=match s with
 | .FunctionDef _ _ b _ _ _ _ _ _ _=>b
 | _=>[]
def ag(s:V1):Wn:=match s with
 | .FunctionDef _ _ _ _ _ _ sc _ _ _=>sc
 | _=>{kind:= .function,names:=[],isGenerator:=false,isCoroutine:=false}
abbrev CX0:eG:=λ_ _ _ _ _ _=>False
abbrev E0:XK:=λ_ _ _=>False
theorem aG{X:Cx}:hG CX0 X E0:=λ_ _ _ _ _ _ _ h=>h.elim
structure aP (K:Oe) (x qual:Str) (st:V1) (f:VO) (fd:VX):Prop where
 ex:∃(oc:VM)(od:Option VO)(kV doc pm:VM)(an:Option VO)(cdv ct:VM)(osl:Array (Option VM)),
  fd=Oh x qual (av st) (au st) (ag st) .none kV doc pm an cdv ct/\K.lookup f=some ⟨oc,od,.func fd,osl⟩/\Oy K cdv qual=true
 kp:Ot K (.ref f)=true
section
variable {P:VY} {w:VZ} {K:Oe} {mg:Str->Option VM} {base:V0}
theorem aP.ok{x qual:Str}{st:V1}{f:VO}{fd:VX}{N ps:List Str}{k:Nat}{sp:Sp}(F:aP K x qual st f fd)(S:aV N ps (ag st))(len:∀vs H Q E,sp vs H Q E->vs.length=ps.length)
 (hbody:∀(cdv:VM) (A:V2) (outer:List Env) (s:VP) (H:Hp) (vs:List V) (Q:VK) (E:XK),bf k (A.deeper (WJ qual (ag st) s.heap.objs.size f cdv))->sp vs H Q E->
   ∃t,bQ (hJ CX0 P w K mg base N qual (ag st) f cdv A outer s H E).nox (au st) t/\t {nx:=λ_ H'=>Q .non H',rt:=Q} (start N vs) H):aF P w K mg base CX0 (k+1) f fd ps sp:=by
 obtain⟨oc,od,kV,doc,pm,an,cdv,ct,osl,rfl,lk,hcd⟩:=F.ex;refine Gs lk hcd S len λA outer s H vs Q E hr hsp=>?_;obtain⟨t,h,q⟩:=hbody cdv A outer s H vs Q E hr hsp;exact⟨t,h.nox,q⟩
theorem aP.binds{x qual:Str}{st:V1}{f:VO}{fd:VX}{ps:List Str}(F:aP K x qual st f fd)
 (h:∀(kV doc pm:VM) (an:Option VO) (cdv ct:VM) (us:List VM),us.length=ps.length->bindArgs (Oh x qual (av st) (au st) (ag st) .none kV doc pm an cdv ct) ⟨us,[]⟩=pure (ps.zip us)):aJ K fd ps []:=by
 obtain⟨oc,od,kV,doc,pm,an,cdv,ct,osl,rfl,lk,hcd⟩:=F.ex;exact .all (h kV doc pm an cdv ct)
theorem aW{x qual:Str}{st:V1}{f:VO}{oc:VM}{od an:Option VO}{osl:Array (Option VM)}{kV doc pm cdv ct:VM}(l:K.lookup f=some ⟨oc,od,.func (Oh x qual (av st) (au st) (ag st) .none kV doc pm an cdv ct),osl⟩)
 (c:Oy K cdv qual=true)(k:Ot K (.ref f)=true):aP K x qual st f (Oh x qual (av st) (au st) (ag st) .none kV doc pm an cdv ct):=⟨⟨oc,od,kV,doc,pm,an,cdv,ct,osl,rfl,l,c⟩,k⟩
end
section
variable {X:Cx}
theorem pv(i:Nat){x:Str}{pos:Pos}(hN:X.N[i]?=some x:=by rfl)(hv:sk X.env.scope x:=by first | exact T9 rfl | exact SX (T9 rfl) | exact SX (SX rfl))(hd:(x==("__debug__":Str))=false:=by decide)
 (hcd:(x==("__classdict__":Str))=false:=by decide):PE X (.Name x pos) (cJ i):=vJ hN hv hd hcd
end
def aw(H H':Hp):Prop:=∀b o,H b=some o->H' b=some o
theorem aw.refl(H:Hp):aw H H:=λ_ _ h=>h
theorem aw.trans{H H1 H2:Hp}(a:aw H H1)(b:aw H1 H2):aw H H2:=λc o h=>b c o (a c o h)
open PySem PySem.Spec PyProof.Rows
def eJ(env:Env)(names:List (Str×Wx))(cs:List (Str×VO)):List (Str×VO):=
 names.foldl (λcs p=>if (p.2==P1)=true then(p.1,(env.cells.lookup p.1).getD 0)::cs else cs) cs
theorem zR{scope:Wn}{env:Env}(h:∀y∈scope.names,y.2= .free->∃c,env.cells.lookup y.1=some c):closureFor scope env=pure (eJ env scope.names []):=by
 unfold closureFor;have key:∀(l:List (Str×Wx))(cs:List (Str×VO)),(∀y∈l,y.2= .free->∃c,env.cells.lookup y.1=some c)->
  (forIn l cs λ(x:Str×Wx) (r:List (Str×VO))=>(if (x.2==P1)=true then do let a<-cellOf env x.1;pure (RS ((x.1,a)::r)) else pure (RS r):Sem (ForInStep (List (Str×VO)))))=pure (eJ env l cs):=by
  intro l
  induction l with
  | nil=>intro cs _;rfl
  | cons p r ih=>
   intro cs hl;rw [U4];by_cases hk:(p.2==P1)=true
   ·obtain⟨c,hc⟩:=hl p O8 (by simpa using hk);rw [VJ hk];have e:cellOf env p.1=pure c:=by unfold cellOf;rw [hc]
    rw [e];simp only [pure_bind];rw [ih _ λy hy=>hl y (OQ _ hy)];unfold eJ;rw [O4,VJ hk,hc];rfl
   ·rw [VI hk];simp only [pure_bind];rw [ih _ λy hy=>hl y (OQ _ hy)];unfold eJ;rw [O4,VI hk]
 have:=key scope.names [] h;simp only [bind_pure];exact this
theorem um{env:Env}:∀(l:List (Str×Wx))(cs:List (Str×VO)){x:Str}{c:VO},(∀y∈l,y.2= .free->∃c,env.cells.lookup y.1=some c)->(∀y d,cs.lookup y=some d->env.cells.lookup y=some d)->
 (eJ env l cs).lookup x=some c->env.cells.lookup x=some c
 | [],cs,x,c,_,hc,h=>hc x c h
 | p::r,cs,x,c,hl,hc,h=>by
  unfold eJ at h;rw [O4] at h;by_cases hk:(p.2==P1)=true
  ·rw [VJ hk] at h;refine um r _ (λy hy=>hl y (OQ _ hy)) (λy d e=>?_) h;obtain⟨a,ha⟩:=hl p O8 (by simpa using hk);rw [Pd] at e;cases hx:y==p.1 with
   | true=>
    rw [hx] at e;have hy:y=p.1:=by simpa using hx
    rw [ha] at e;cases e;rw [hy];exact ha
   | false=>rw [hx] at e;exact hc y d e
  ·rw [VI hk] at h;exact um r cs (λy hy=>hl y (OQ _ hy)) hc h
theorem we{env:Env}:∀(l:List (Str×Wx))(cs:List (Str×VO)){x:Str},(∃c,cs.lookup x=some c)->∃c,(eJ env l cs).lookup x=some c
 | [],cs,x,h=>h
 | p::r,cs,x,⟨c,h⟩=>by
  unfold eJ;rw [O4];by_cases hk:(p.2==P1)=true
  ·rw [VJ hk];refine we r _ ?_;rw [Pd];cases hx:x==p.1 with
   | true=>exact⟨_,rfl⟩
   | false=>exact⟨c,h⟩
  ·rw [VI hk];exact we r cs ⟨c,h⟩
theorem wg{env:Env}:∀(l:List (Str×Wx))(cs:List (Str×VO)){x:Str},(x,P1)∈l->∃c,(eJ env l cs).lookup x=some c
 | [],_,_,h=>by simp at h
 | p::r,cs,x,h=>by
  unfold eJ;rw [O4];rcases OA.mp h with e | e
  ·subst e;rw [VJ (by rfl)];exact we r _ ⟨(env.cells.lookup x).getD 0,by rw [Pd];simp⟩
  ·exact wg r _ e
theorem G0{env:Env}{scope:Wn}{x:Str}(h:(relabel scope env).names.lookup x=some .cell\/(relabel scope env).names.lookup x=some .free)(hc:∀y∈scope.names,y.2≠ .cell):(x,P1)∈scope.names:=by
 have key:∀(l:List (Str×Wx)),(∀y∈l,y.2≠ .cell)->
  ((l.map λ(n,k)=>if (k==P1 && env.scope.kind== .function && env.kindOf n==some .cell) then(n,Tj) else(n,k)).lookup x=some .cell\/
  (l.map λ(n,k)=>if (k==P1 && env.scope.kind== .function && env.kindOf n==some .cell) then(n,Tj) else(n,k)).lookup x=some .free)->(x,P1)∈l:=by
  intro l
  induction l with
  | nil=>intro _ h;simp at h
  | cons p r ih=>
   obtain⟨n,k⟩:=p;intro hl h;rw [Ol] at h;have hk:k≠ .cell:=hl (n,k) O8;by_cases hx:x=n
   ·subst hx;by_cases hq:(k==P1 && env.scope.kind== .function && env.kindOf x==some .cell)=true
    ·have:k= .free:=by simp only [Pw,beq_iff_eq] at hq;exact hq.1.1
     subst this;exact O8
    ·simp only [VI hq,Pd,beq_self_eq_true] at h;rcases h with h | h
     ·exact absurd (Pf h) hk
     ·have e:=Pf h;subst e;exact O8
   ·have hb:(x==n)=false:=by simpa using hx
    refine OQ _ (ih (λy hy=>hl y (OQ _ hy)) ?_);by_cases hq:(k==P1 && env.scope.kind== .function && env.kindOf n==some .cell)=true
    ·simpa only [VJ hq,Pd,hb] using h
    ·simpa only [VI hq,Pd,hb] using h
 exact key scope.names hc h
theorem G1{env:Env}{scope:Wn}{x:Str}(h:scope.names.lookup x=some .free):(relabel scope env).names.lookup x=some .cell\/(relabel scope env).names.lookup x=some .free:=by
 have key:∀(l:List (Str×Wx)),l.lookup x=some .free->
  ((l.map λ(n,k)=>if (k==P1 && env.scope.kind== .function && env.kindOf n==some .cell) then(n,Tj) else(n,k)).lookup x=some .cell\/
  (l.map λ(n,k)=>if (k==P1 && env.scope.kind== .function && env.kindOf n==some .cell) then(n,Tj) else(n,k)).lookup x=some .free):=by
  intro l
  induction l with
  | nil=>intro h;simp at h
  | cons p r ih=>
   obtain⟨n,k⟩:=p;intro h;rw [Ol];by_cases hx:x=n
   ·subst hx;rw [Pd,beq_self_eq_true] at h;have e:k= .free:=Pf h;by_cases hq:(k==P1 && env.scope.kind== .function && env.kindOf x==some .cell)=true
    ·left;simp only [VJ hq,Pd,beq_self_eq_true]
    ·right;simp only [VI hq,Pd,beq_self_eq_true];rw [e]
   ·have hb:(x==n)=false:=by simpa using hx
    rw [Pd,hb] at h;by_cases hq:(k==P1 && env.scope.kind== .function && env.kindOf n==some .cell)=true
    ·simpa only [VJ hq,Pd,hb] using ih h
    ·simpa only [VI hq,Pd,hb] using ih h
 exact key scope.names h
structure bb (sc:Wn) (N N':List Str) (k:Nat) (fr:List Nat) (scope:Wn):Prop where
 kind:scope.kind= .function
 cell:∀y∈scope.names,y.2≠ .cell
 names:∀y∈scope.names,y.2= .local->scope.names.lookup y.1=some .local
 nd:N'.Nodup
 slot:fr.map (λj=>N[j]?)=(N'.drop k).map some
 frees:∀x∈N'.drop k,scope.names.lookup x=some .free
 outer:∀y∈scope.names,y.2= .free->sc.names.lookup y.1=some .cell\/sc.names.lookup y.1=some .free
 outer':∀x∈N'.drop k,sc.names.lookup x=some .cell\/sc.names.lookup x=some .free
 len:N'.length=k+fr.length
def br(X:Cx)(scope:Wn)(N':List Str)(fp:List VO)(C:VO)(s:VP)(H:Hp):Cx where
 prog:=X.prog
 w:=X.w
 K:=X.K
 mg:=X.mg
 base:=X.base
 A:=X.A
 N:=N'
 s₀:=s
 H₀:=H
 env:=compEnvC scope (eJ X.env scope.names []) C X.env
 outer:=X.stack
 stack:=X.stack
 ex:=fp
 fn:=λ_=>false
 calm:=X.calm
 pn:=[]
 xe:=λ_ _=>False
def bt(k:Nat)(fr:List Nat)(σ:St):St:=OX k none++fr.map λj=>(σ[j]?).join
def mO(σ σ':St):Prop:=σ.length=σ'.length/\∀(i:Nat) v,σ[i]?=some (some v)->σ'[i]?=some (some v)
section
variable {X:Cx} {pins:List (VO×Obj)} {σ:St} {H:Hp} {s:VP} {scope:Wn} {N':List Str} {k:Nat} {fr:List Nat} {fp:List VO}
theorem G2(S:bb X.env.scope X.N N' k fr scope)(I:af X pins σ H s)(hf:∀b∈fp,g7 X pins H b)(hlt:∀b∈fp,b < s.heap.objs.size):
 (br X scope N' fp s.heap.objs.size s H).Ok:=by
 have hcell:∀y∈scope.names,y.2= .free->∃c,X.env.cells.lookup y.1=some c:=λy hy e=>I.ok.has y.1 (S.outer y hy e);have hcl:∀x c,(eJ X.env scope.names []).lookup x=some c->X.env.cells.lookup x=some c:=λx c e=>um scope.names [] hcell (λ_ _ z=>by simp at z) e;refine⟨I.ok.mod,S.kind,I.ok.glob,I.ok.blt,Oj _,λx y c h1 h2=>I.ok.inj x y c (hcl x c h1) (hcl y c h2),λx hx=>wg _ _ (G0 hx S.cell),λx c h=>absurd h (by simp [br]),I.ok.hd,I.ok.frames,.inl rfl,λb hb=>⟨OV (hlt b hb),λx c e=>(hf b hb).2.2.2.2.1 x c (hcl x c e)⟩,
  I.bs,O6 I.ok.bsz I.sz,λb o e hb=>?_,λb hb hb'=>?_,I.stack,I.stkFree⟩
 ·rcases(hf b hb).2.2.2.1 with z | z
  ·exact I.ok.noex b o e z
  ·exact absurd (Py (OJ e) (O6 I.ok.bsz z)) (QO _)
 ·rcases OA.mp (I.stkSub b hb') with z | z
  ·exact(hf b hb).2.1 z
  ·exact(hf b hb).2.2.1 z
theorem G3(S:bb X.env.scope X.N N' k fr scope)(I:af X pins σ H s)(hf:∀b∈fp,g7 X pins H b)(hlt:∀b∈fp,b < s.heap.objs.size){h':V0}{t':Nat}
 (hn:h'.Ns s.heap.objs.size (λ_=>none))(hk:∀b o,s.heap.get? b=some o->h'.get? b=some o):
 af (br X scope N' fp s.heap.objs.size s H) [] (bt k fr σ) H {s with heap:=h',toks:=t'}:=by
 have hcell:∀y∈scope.names,y.2= .free->∃c,X.env.cells.lookup y.1=some c:=λy hy e=>I.ok.has y.1 (S.outer y hy e);have hcl:∀x c,(eJ X.env scope.names []).lookup x=some c->X.env.cells.lookup x=some c:=λx c e=>um scope.names [] hcell (λ_ _ z=>by simp at z) e;refine⟨G2 S I hf hlt,rfl,I.bare,Un.kept hk,⟨_,hn,λi x v h1 h2 h3=>?_⟩,λx c e=>?_,I.hok.fresh (Oj _),λx c e=>I.freeC x c (hcl x c e),λp hp=>absurd hp (by simp [br]),I.hok.kept hk,?_⟩
 ·have hi:k<=i:=by
   rcases QL i k with z | z
   ·exfalso;unfold bt at h2;rw [PK (by simpa using z),Q8,VJ z] at h2;cases h2
   ·exact z
  have h2':(fr.map λj=>(σ[j]?).join)[i - k]?=some (some v):=by
   unfold bt at h2;rw [Qf (by simpa using hi)] at h2;simpa using h2
  have h1':(N'.drop k)[i - k]?=some x:=by
   rw [List.getElem?_drop,Nat.add_sub_cancel' hi];exact h1
  have hmem:x∈N'.drop k:=OY h1';have e2:(fr.map λj=>X.N[j]?)[i - k]?=some (some x):=by
   rw [S.slot,OD,h1'];rfl
  obtain⟨j,hj,ej⟩:∃j,fr[i - k]?=some j/\X.N[j]?=some x:=by
   rw [OD] at e2;cases e:fr[i - k]? with
   | none=>rw [e] at e2;cases e2
   | some j=>rw [e] at e2;exact⟨j,rfl,Pf e2⟩
  have hv:σ[j]?=some (some v):=by
   rw [OD,hj] at h2';have h3':(σ[j]?).join=some v:=Pf h2';cases e:σ[j]? with
   | none=>rw [e] at h3';cases h3'
   | some o=>rw [e] at h3';rw [show o=some v from h3']
  obtain⟨m,hn0,hl⟩:=I.loc;have ho:=S.outer' x hmem;obtain⟨u,ru,lk⟩:=hl j x v ej hv (.inr ho);refine⟨u,ru,.inr ⟨G1 (S.frees x hmem),?_⟩⟩;rcases lk with⟨z,_⟩ | ⟨_,c,hc,hx⟩
  ·exfalso;rcases ho with ho | ho
   ·exact absurd (z.symm.trans ho) (by simp)
   ·exact absurd (z.symm.trans ho) (by simp)
  ·obtain⟨c',hc'⟩:=wg (env:=X.env) scope.names [] (Ra (S.frees x hmem));have:=hcl x c' hc';rw [hc] at this;cases this;obtain⟨o,ho,hd⟩:=hx;exact⟨c,hc',o,hk c o ho,hd⟩
 ·obtain⟨v,o,ho,hd⟩:=I.cell x c (hcl x c e);exact⟨v,o,hk c o ho,hd⟩
 ·unfold bt;show _=N'.length;rw [OH,SS,Of,S.len]
end
open PySem PySem.Spec PyProof.Rows
section
variable {prog:VY} {w:VZ} {A:V2} {E:VM->VP->Prop} {R:Result->VP->Prop} {s:VP}
theorem G4{elt target iter:VV}{ifs:List VV}{scope:Wn}{pos:Pos}{it acc:VM}{env:Env}(I:Nat->VP->Prop)
 (turn:∀n s,I n s->VS (VU prog w) A (WI it) (λr s₁=>match r with
  | none=>R (.ok .next) s₁
  | some v=>VS (VU prog w) A (W6 target it v) (λ_ s₁'=>VS (VU prog w) A (assign target env v) (λ_ s₂=>
   VS (VU prog w) A (forIn ifs true λc r=>if r=true then do let ok<-isTrue c env (eval c env);pure (RS ok) else pure (RS r)) (λok s₃=>
    if ok=true then VS (VU prog w) A (eval elt env) (λx s₄=>
     VS (VU prog w) A (call (.builtin "list.append") [acc,x]) (λ_ s₅=>∃m,m < n/\I m s₅) (λ_ _=>False) s₄) (λ_ _=>False) s₃
    else ∃m,m < n/\I m s₃) (λ_ _=>False) s₂) (λ_ _=>False) s₁') (λ_ _=>False) s₁) (λ_ _=>False) s)
 (n:Nat)(h:I n s):
 WA (VU prog w) A (.compLoop (.ListComp elt [⟨target,iter,ifs,0⟩] scope pos) 0 it acc env) R s:=by
 refine codeAny_loop rfl I (λn s hI=>?_) n h;show VS _ A ((compTurn (.ListComp elt [⟨target,iter,ifs,0⟩] scope pos) 0 it acc env).onRaise (λx=>do noteFrame x env;theTreesLotGoes x)) _ _ s;refine wpAny_noted ?_;rw [compTurn_list];refine VN (wpAny_standAt (VN (Wa (turn n s hI) (λr s₁ h₁=>?_) λ_ _ h'=>h'.elim)));cases r with
 | none=>exact VQ h₁
 | some v=>
  refine VN (Wa h₁ (λ_ s₁' h₁'=>?_) λ_ _ h'=>h'.elim);refine VN (Wa h₁' (λ_ s₂ h₂=>VN (Wa h₂ (λok s₃ h₃=>?_) λ_ _ h'=>h'.elim)) λ_ _ h'=>h'.elim);cases ok with
  | false=>exact VQ ⟨rfl,h₃⟩
  | true=>
   exact VN (VN (Wa h₃ (λx s₄ h₄=>VN (Wa h₄ (λ_ s₅ h₅=>VQ (VQ ⟨rfl,h₅⟩)) λ_ _ h'=>h'.elim)) λ_ _ h'=>h'.elim))
end
def dZ(X:Cx)(ifs:List VV)(t:TT):Prop:=
 ∀(pins:List (VO×Obj))(s:VP)(σ:St)(H:Hp)(Q:Bool->Hp->Prop),af X pins σ H s->t σ H Q->
  VS (VU X.prog X.w) X.A (forIn ifs true λc r=>if r=true then do let ok<-isTrue c X.env (eval c X.env);pure (RS ok) else pure (RS r)) (TP X pins σ Q) X.xe s
def G5:TT:=λ_ H Q=>Q true H
theorem G6{X:Cx}:dZ X [] G5:=λpins s σ H Q I h=>wpAny_tests_nil ⟨H,I,h⟩
theorem dJ{X:Cx}{c:VV}{t:TT}(h:PT X c t):dZ X [c] t:=λpins s σ H Q I hq=>wpAny_tests_one (h pins s σ H Q I hq)
theorem bG.but{P:VY}{w:VZ}{H:Hp}{h h':V0}{C:VO}(x:bG P w H h)(hC:H C=none)(k:∀b o,b≠C->h.get? b=some o->h'.get? b=some o):bG P w H h':=λa o e=>by
 refine(x a o e).stay (λb u hb q=>k b u ?_ q) (λ_ q=>q) λ_ _ q=>q;intro z;subst z;rcases hb with z | z
 ·rw [<-z,hC] at e;cases e
 ·rw [hC] at z;cases z
def mP(wi:TI)(g:TG)(tc:TT)(te:TE)(k:Nat)(fr:List Nat):TE:=λσ H Q=>wi σ H λJ H1=>∀D,H1 D=none->∃W:Nat->Nat->Hp->Prop,(∃m,W 0 m (ai H1 D (.lst [])))/\∀i m H,W i m H->
 (J.stop i H/\Q (.ref D) H)\/(J.go i H/\∀x H',J.yld i H x H'->g x (bt k fr σ) H' λσ2 H2=>mO (bt k fr σ) σ2/\tc σ2 H2 λok H3=>
  if ok=true then te σ2 H3 λy H4=>∃ys,H4 D=some (.lst ys)/\ys.length < VW/\∃m',m' < m/\W (i+1) m' (ai H4 D (.lst (ys++[y])))
  else ∃m',m' < m/\W (i+1) m' H3)
section
variable {X:Cx} {tg iter elt:VV} {ifs:List VV} {scope:Wn} {N':List Str} {k:Nat} {fr:List Nat} {wi:TI} {g:TG} {tc:TT} {te:TE} {pos:Pos}
theorem zS{use:Option (VM->Sem Unit)}{Q':VM->VP->Prop}{pins:List (VO×Obj)}{s:VP}{σ:St}{H:Hp}{Q:VK}(hc:X.calm=true)(S:bb X.env.scope X.N N' k fr scope)(hi:PI X tg iter wi)
 (hg:∀fp C s H,PG (br X scope N' fp C s H) tg g)(hf:∀fp C s H,dZ (br X scope N' fp C s H) ifs tc)(he:∀fp C s H,PE (br X scope N' fp C s H) elt te)
 (I:af X pins σ H s)(h:mP wi g tc te k fr σ H Q)
 (hQ:∀D C s' H',C≠X.env.locals->af X pins σ H' s'->(∀h',Q0 C s'.heap h'->af X pins σ H' {s' with heap:=h'})->Q (.ref D) H'->(∃m,s'.heap.Ns C m)->X.env.locals < C->H' C=none/\(∀x c,X.env.cells.lookup x=some c->c≠C)/\(∀p∈X.pn++pins,p.1≠C)->compPost (VU X.prog X.w) X.A X.xe use Q' (.ref D) C (.ok .next) s'):
 VS (VU X.prog X.w) X.A (eval iter X.env) (λx s₁=>VS (VU X.prog X.w) X.A (pyIter x) (λit s₂=>VS (VU X.prog X.w) X.A (newList []) (λacc s₃=>
  VS (VU X.prog X.w) X.A (newFunctionEnv scope X.env.globals (eJ X.env scope.names []) [] X.env.qual none .none (some X.env)) (λcenv s₄=>
   WA (VU X.prog X.w) X.A (.compStart (.ListComp elt [⟨tg,iter,ifs,0⟩] scope pos) 0 it acc {cenv with scope:=relabel scope X.env}) (compPost (VU X.prog X.w) X.A X.xe use Q' acc cenv.locals) s₄) X.xe s₃) X.xe s₂) X.xe s₁) X.xe s:=by
 refine aB (hi pins s σ H _ I h) λv s1 h1=>aB h1 λitv s2 h2=>?_;obtain⟨it,fp,tn,J,H2,e,I2,T,st2,f2,wW⟩:=h2;subst e;refine V7 ?_;have hD0:H2 s2.heap.objs.size=none:=I2.hok.fresh (Oj _);obtain⟨W,⟨m0,w0⟩,turn⟩:=wW _ hD0;generalize hD:s2.heap.objs.size=D at*;have I3:af X pins σ (ai H2 D (.lst [])) {s2 with heap:=s2.heap.push {cls:= .type "list",dict:=none,data:= .seq ([]:List VM).toArray}}:=by
  have:=I2.lnew (ys:=[]) (its:=[]) (t':=s2.toks) .nil (Pe _);rw [hD] at this;exact this
 generalize hs3:({s2 with heap:=s2.heap.push {cls:= .type "list",dict:=none,data:= .seq ([]:List VM).toArray}}:VP)=s3 at*;have up23:∀b o,s2.heap.get? b=some o->s3.heap.get? b=some o:=λb o e=>by rw [<-hs3];exact Oo _ e
 have fpD:∀b∈fp,b≠D:=λb hb z=>by
  obtain⟨o,ho,_⟩:=T.obj _ _ st2 b hb;have:=OJ ho;rw [hD,z] at this;exact QO _ this
 have f3:∀b∈fp,g7 X pins (ai H2 D (.lst [])) b:=λb hb=>⟨by rw [az (fpD b hb)];exact(f2 b hb).1,(f2 b hb).2⟩;have st3:tn 0 s3.heap:=T.keep _ _ _ st2 λb hb o e=>up23 b o e;have lt3:∀b∈fp,b < s3.heap.objs.size:=λb hb=>by obtain⟨o,ho,_⟩:=T.obj _ _ st3 b hb;exact OJ ho
 refine wpAny_newFunctionEnv S.cell (by intro y hy;simp at hy) (λh₁ hns₁ hsb₁=>?_) S.kind;have up34:∀b o,s3.heap.get? b=some o->h₁.get? b=some o:=λb o e=>hsb₁.extBut b o (OV (OJ e)) (Oo _ e);have I4:=G3 (t':=s3.toks+([]:List (Str×VM)).length) S I3 f3 lt3 hns₁ up34;have st4:tn 0 h₁:=T.keep _ _ _ st3 λb hb o e=>up34 b o e;generalize hX':br X scope N' fp s3.heap.objs.size s3 (ai H2 D (.lst []))=X' at*;have hg':PG X' tg g:=by rw [<-hX'];exact hg _ _ _ _
 have hf':dZ X' ifs tc:=by rw [<-hX'];exact hf _ _ _ _
 have he':PE X' elt te:=by rw [<-hX'];exact he _ _ _ _
 have eP:X'.prog=X.prog:=by rw [<-hX'];rfl
 have eW:X'.w=X.w:=by rw [<-hX'];rfl
 have eK:X'.K=X.K:=by rw [<-hX'];rfl
 have eA:X'.A=X.A:=by rw [<-hX'];rfl
 have eC:X'.calm=true:=by rw [<-hX'];exact hc
 have eE:X'.xe=λ_ _=>False:=by rw [<-hX'];rfl
 have eEnv:X'.env=compEnvC scope (eJ X.env scope.names []) s3.heap.objs.size X.env:=by rw [<-hX'];rfl
 have fpx:∀{H':Hp},(∀b∈fp,H' b=none)->∀b∈fp,g7 X' [] H' b:=λ{H'} hn b hb=>by
  refine⟨hn b hb,?_,?_,.inl ?_,?_,?_⟩
  ·rw [eEnv];exact OV (lt3 b hb)
  ·have:=I4.ok.exfs b (by rw [<-hX'];exact hb);exact this
  ·rw [<-hX'];exact hb
  ·have:=I4.ok.exf b (by rw [<-hX'];exact hb);exact this.2
  ·intro p hp;rw [<-hX'] at hp;simp [br] at hp
 have fin:∀(s':VP)(H':Hp)(σ':St),af X' [] σ' H' s'->Q (.ref D) H'->compPost (VU X.prog X.w) X.A X.xe use Q' (.ref D) s3.heap.objs.size (.ok .next) s':=λs' H' σ' J q=>by
  have un:Un (fU X.stack) fp (ai H2 D (.lst [])) H' s3.heap s'.heap:=by have:=J.base;rw [<-hX'] at this;exact this
  have jos:s'.os=s3.os:=by have:=J.os;rw [<-hX'] at this;exact this
  have hC:H' s3.heap.objs.size=none:=by have:=J.free;rw [eEnv] at this;exact this
  have hok':bG X.prog X.w H' s'.heap:=by have:=J.hok;rw [eP,eW] at this;exact this
  have d7:∀h',Q0 s3.heap.objs.size s'.heap h'->af X pins σ H' {s' with heap:=h'}:=λh' hs'=>by
   have un':Un (fU X.stack) fp (ai H2 D (.lst [])) H' s3.heap h':=
    ⟨λb o e n h1 h2=>hs'.extBut b o (OV (OJ e)) (un.keep b o e n h1 h2),λb o e n h1 h2=>by
     obtain⟨sl,z⟩:=un.slot b o e n h1 h2;exact⟨sl,hs'.extBut b _ (OV (OJ e)) z⟩,un.free,λb o e h2=>by
     obtain⟨o',z⟩:=un.there b o e h2;exact⟨o',hs'.extBut b o' (OV (OJ e)) z⟩,un.tups,un.frzs,un.tbls⟩
   exact af.call' (s':={s' with heap:=h'}) I3 jos un' (hok'.but hC hs'.extBut) J.bare λb hb=>⟨(f3 b hb).2.2.2.1,(f3 b hb).2.1,(f3 b hb).2.2.2.2.1,(f3 b hb).2.2.2.2.2⟩
  have nsC:∃m,s'.heap.Ns s3.heap.objs.size m:=by
   obtain⟨m,hn,_⟩:=J.loc;rw [eEnv] at hn;exact⟨m,hn⟩
  exact hQ D s3.heap.objs.size s' H' (R0 I3.lt) (d7 s'.heap (.refl ..)) d7 q nsC I3.lt
   ⟨hC,λx c e=>by obtain⟨v,o,ho,_⟩:=I3.cell x c e;exact OV (OJ ho),λp hp=>OV (OJ (I3.pin p hp).1)⟩
 have loop:∀s4:VP,s4=({s3 with heap:=h₁,toks:=s3.toks+([]:List (Str×VM)).length}:VP)->
  WA (VU X.prog X.w) X.A (.compLoop (.ListComp elt [⟨tg,iter,ifs,0⟩] scope pos) 0 (.ref it) (.ref D) X'.env) (compPost (VU X.prog X.w) X.A X.xe use Q' (.ref D) s3.heap.objs.size) s4:=by
  rintro s4 rfl;refine G4 (λn s'=>∃i H',af X' [] (bt k fr σ) H' s'/\tn i s'.heap/\(∀b∈fp,H' b=none)/\W i n H') ?_ m0 ⟨0,_,I4,st4,λb hb=>(f3 b hb).1,w0⟩;rintro n s5 ⟨i,H5,I5,st5,fr5,w5⟩;rcases turn i n H5 w5 with⟨stop,qn⟩ | ⟨go,step⟩
  ·have:=T.done X' eP eW eK eC i [] s5 _ H5 (λ_ _=>False) I5 (fpx fr5) st5 stop;rw [eA] at this;refine aB this λr s6 ⟨hr,I6⟩=>?_;subst hr;exact fin s6 H5 _ I6 qn
  ·have:=T.item X' eP eW eK eC i [] s5 _ H5 (λ_ _=>False) I5 (fpx fr5) st5 go;rw [eA] at this;refine aB this λr s6 ⟨u,hr,h6⟩=>?_;subst hr;refine aB h6 λ_ s7 ⟨x,H7,I7,r7,y7,st7,fr7⟩=>?_;have I7':=I7.pinned (fpx fr7) (T.obj _ _ st7);have h8:=hg' _ s7 _ H7 x u _ I7' r7 (step x H7 y7);rw [eP,eW,eA,eE] at h8;refine aB h8 λ_ s8 ⟨σ8,H8,I8,kp,q8⟩=>?_;have h9:=hf' _ s8 σ8 H8 _ I8 q8;rw [eP,eW,eA,eE] at h9;have again:∀{s9:VP}{H9:Hp}{n':Nat},af X' ([]++sF fp s7.heap) σ8 H9 s9->n' < n->W (i+1) n' H9->∃m,m < n/\∃i H',af X' [] (bt k fr σ) H' s9/\tn i s9.heap/\(∀b∈fp,H' b=none)/\W i m H':=λ{s9 H9 n'} I9 hn' w9=>by
    refine⟨n',hn',i+1,H9,I9.unpinned.weak kp.1 kp.2,T.keep _ _ _ st7 λb hb o e=>(I9.pin (b,o) (Pq _ (Pq _ (tX hb e)))).1,λb hb=>?_,w9⟩;obtain⟨o,e,d⟩:=T.obj _ _ st7 b hb;exact(I9.pin (b,o) (Pq _ (Pq _ (tX hb e)))).2.1
   refine aB h9 λok s9 ⟨H9,I9,q9⟩=>?_;cases ok with
   | false=>
    rw [VI OF] at q9;obtain⟨m',hm',w9⟩:=q9;rw [VI OF];exact again I9 hm' w9
   | true=>
    rw [VJ rfl] at q9;rw [VJ rfl];have h10:=he' _ s9 σ8 H9 _ I9 q9;rw [eP,eW,eA,eE] at h10;refine aB h10 λy s10 ⟨yv,H10,I10,r10,ys,hys,hz,m',hm',w10⟩=>?_;have h11:=zP (X:=X') _ s10 σ8 H10 (.ref D) [yv] (.ref D) [y] (λ_ H'=>W (i+1) m' H') I10 rfl (.cons r10 .nil) ⟨D,ys,yv,rfl,rfl,hys,hz,w10⟩;rw [eP,eW,eA,eE] at h11;exact aB h11 λ_ s11 uu61=>by obtain⟨_,H11,I11,_,q11⟩:=uu61;exact again I11 hm' q11
 have hE:({newEnv scope s3.heap.objs.size X.env.globals (eJ X.env scope.names []) X.env.qual none .none (some X.env) builtinsNs with scope:=relabel scope X.env}:Env)=X'.env:=by
  rw [eEnv];rfl
 have goal:=codeAny_compStart_list (elt:=elt) (target:=tg) (iter:=iter) (ifs:=ifs) (rest:=[]) (scope:=scope) (pos:=pos) (loop _ rfl) (T.self X.A 0 _ _ _ st4 (loop _ rfl));rw [<-hE] at goal;exact goal
theorem uo(hc:X.calm=true)(S:bb X.env.scope X.N N' k fr scope)(hi:PI X tg iter wi)
 (hg:∀fp C s H,PG (br X scope N' fp C s H) tg g)(hf:∀fp C s H,dZ (br X scope N' fp C s H) ifs tc)(he:∀fp C s H,PE (br X scope N' fp C s H) elt te)
 (hs:∀x,V3 iter X.env x=pure x:=by intro _;rfl):PE X (.ListComp elt [⟨tg,iter,ifs,0⟩] scope pos) (mP wi g tc te k fr):=by
 intro pins s σ H Q I h;have hcell:∀y∈scope.names,y.2= .free->∃c,X.env.cells.lookup y.1=some c:=λy hy e=>I.ok.has y.1 (S.outer y hy e);rw [eval_ListComp];refine Xn (use:=none) rfl hs (zR hcell) S.kind S.names (zS hc S hi hg hf he I h ?_);intro D C s' H' hC J d7 q ns hlt _;obtain⟨m,hn⟩:=ns;exact⟨m,hn,λh' hs'=>⟨.ref D,H',d7 h' hs',rfl,q⟩⟩
theorem G7{i:Nat}{x:Str}{pos' spos:Pos}(hN:X.N.Nodup)(hxi:X.N[i]?=some x)(hx:gC X.env.scope x)(hc:X.calm=true)(S:bb X.env.scope X.N N' k fr scope)(hi:PI X tg iter wi)
 (hg:∀fp C s H,PG (br X scope N' fp C s H) tg g)(hf:∀fp C s H,dZ (br X scope N' fp C s H) ifs tc)(he:∀fp C s H,PE (br X scope N' fp C s H) elt te)
 (hsw:V6 (.ListComp elt [⟨tg,iter,ifs,0⟩] scope pos) (some (.Name x pos')) spos.line X.env=pure true)
 (hs:∀x,V3 iter X.env x=pure x:=by intro _;rfl)(hfn:X.fn x=true\/X.env.scope.names.lookup x=some .local:=by first | exact .inl rfl | exact .inr rfl | assumption):
 PS X (.Assign [.Name x pos'] (.ListComp elt [⟨tg,iter,ifs,0⟩] scope pos) spos) (sA (mP wi g tc te k fr) (jO i)):=by
 intro pins s σ H D I h;have hcell:∀y∈scope.names,y.2= .free->∃c,X.env.cells.lookup y.1=some c:=λy hy e=>I.ok.has y.1 (S.outer y hy e);rw [exec_Assign_Name_used _ _ _ _ hsw];refine VN (wpAny_standAt (VN ?_));show VS _ X.A (do let _<-comprehension (.ListComp elt [⟨tg,iter,ifs,0⟩] scope pos) scope X.env _ (newList []) false (eval iter X.env) (some (assign (.Name x pos') X.env))) _ _ s;refine VN (Wa (Xn (use:=some (assign (.Name x pos') X.env)) (Q:=λ_ s'=>∃σ' H',af X pins σ' H' s'/\D.nx σ' H') rfl hs (zR hcell) S.kind S.names (zS hc S hi hg hf he I h ?_)) (λ_ s' hq=>VQ (VQ hq)) λ_ _ e=>e);intro D' C s' H' hC J d7 q ns hlt ⟨c1,c2,c3⟩;obtain⟨m,hn⟩:=ns;show VS _ X.A (assign (.Name x pos') X.env (.ref D')) _ _ _;refine wpAny_assign_Name (yQ J hN hxi hx (v:= .ref D') rfl (λs2 J2 sb=>?_) hfn);obtain⟨a,sb,ha⟩:=sb;have hCa:C≠a:=by
  rcases ha with z | z
  ·rw [z];exact hC
  ·exact Ne.symm (c2 _ _ z)
 refine⟨m,hn.sameBut sb hCa,λh3 hs3=>⟨_,H',?_,q⟩⟩;exact J2.turned (t':=s2.toks) hs3.extBut c1 hC (.inr (O6 J.ok.above (Rj hlt))) c2 c3
end
open PySem PySem.Spec PyProof.Rows
end L2
namespace Att
open PySem PySem.W PySem.Calls PyProof.Rows
theorem G8{ns:List Int}(h:UX [Tv (ns.map RR)]=true):∀n∈ns,Qb n<=1048576:=by
 have h1:(Tv (ns.map RR)).layable=true:=by simpa [UX] using h
 have h2:(Tv (ns.map RR)).weight<=1048576:=(PySem.W.layableW_iff.mp h1).2.2;have key:∀l:List Int,∀n∈l,Qb n<=Si (l.map RR):=by
  intro l
  induction l with
  | nil=>intro n hn;simp at hn
  | cons x r ih=>
   intro n hn;have e:Si ((x::r).map RR)=Qb x+1+Si (r.map RR):=by
    rw [Ol,Si,Vn];rfl
   rw [e];rcases OA.mp hn with z | z
   ·subst z;omega
   ·have:=ih n z;omega
 intro n hn;have e:(Tv (ns.map RR)).weight=Si (ns.map RR):=by rw [Vn]
 rw [e] at h2;exact O6 (key ns n hn) h2
theorem attach_callB{l:OpenLaw}{n:Nat}{q:VY}{loose:List Str}{XP:(Str->Option VM)->V0->Prop}{YP:VZ->V0->Prop}{d:DefRec}
 (hn:l.most=some n)(hdf:d.params.defaults=[])
 (call:∀(w:VZ) (s₀ s₁:VP) (mg mb:Str->Option VM) (fa:VO) (o:Obj) (pm cd doc:VM) (a:VO) (vs:List VM) (ns:List Int),
  Ground q loose [] XP w s₀ mg mb s₁.heap->YP w s₁.heap->
  s₁.heap.get? fa=some o->o.data= .func (docDef d.name d.params d.body d.scope pm cd doc)->s₁.heap.CodeRec cd d.name->mg d.name=some (.ref fa)->
  s₁.heap.get? a=some {cls:= .type "list",data:= .seq vs.toArray}->We vs ns->ns.length<=n->(∀z∈ns,Qb z<=1048576)->s₁.gens=#[]->
  WA (VU l.prog w) callerA (.call (.ref fa) ⟨[.ref a],[]⟩) (λr s'=>r= .ok (.ret (.bool true))/\OldK s₁.heap s'.heap/\s'.os=s₁.os/\WZ s'.gens) s₁):
 WalkO q loose XP YP l.row.toRowW d [] (λf vs=>U5 f vs):=by
 intro w s₀ s₁ mg mb G Y fa o pm cd doc dV kV ho hd hcd hD hmg hg args vals as hpre hlay hrd hwl hlo;obtain rfl:dV= .none:=Dflts.none hD hdf;obtain rfl:kV= .none:=Dflts.noKw hD;obtain⟨a,vs,ns,rfl,rfl,hobj,hints,hlen⟩:=GX hn hpre hwl;have hb:∀z∈ns,Qb z<=1048576:=G8 hlay;refine enter_call (Ww (call w s₀ s₁ mg mb fa o pm cd doc a vs ns G Y ho (fd_plain hd) hcd hmg hobj hints hlen hb hg) λr s' hq=>?_);obtain⟨rfl,h2,h3,h4⟩:=hq;exact⟨.inl ⟨.bool true,.bool true,[],rfl,λ_=>rfl,.bool true,GY l _,λ_=>⟨List.Pairwise.nil,λ_ hm=>(nomatch hm)⟩⟩,h2,h3,h4⟩
end Att
namespace L2
open PySem PySem.Spec PyProof.Rows
theorem G9{l:U6}{n k:Nat}{q:VY}{loose:List Str}{XP:(Str->Option VM)->V0->Prop}{YP:VZ->V0->Prop}{d:DefRec}{K:Params->Oe}{CX:VZ->eG}{sp:VZ->Sp}{x:Str}
 (hn:l.most=some n)(hn2:n<=VW)(hdf:d.params.defaults=[])(hr:bf k callerA)
 (hY:∀(w:VZ) (h:V0),YP w h->(K w.params).In h)
 (F:∀(w:VZ) (mg:Str->Option VM) (fa:VO) (h:V0),(K w.params).In h->h.Ns VR mg->mg d.name=some (.ref fa)->
  ∃fd:VX,(∀(s:VP) (u:VM),BindsTo s fd ⟨[u],[]⟩ [(x,u)])/\
   ∀base:V0,(K w.params).In base->base.Ns VR mg->aF l.prog w (K w.params) mg base (CX w) k fa fd [x] (sp w))
 (hsp:∀(w:VZ) (H:Hp) (a:VO) (ns:List Int),ns.length<=n->(∀z∈ns,Qb z<=1048576)->uk H->bg (K w.params) H a (ns.map V.int)->sp w [.ref a] H (λv _=>v= .bl true) λ_ _ _=>False)
 (hCX:∀(w:VZ) (H:Hp) (s:VP) (e:VM) (s':VP),CX w [] H s (λ_ _ _=>False) e s'->False):
 Vf q loose XP YP l.row.toRowW d [] (λf vs=>U5 f vs):=by
 refine Att.attach_callB hn hdf λw s₀ s₁ mg mb fa o pm cd doc a vs ns G Y ho hd hcd hmg hobj hints hlen hb hg=>?_;have KX:=hY w _ Y;obtain⟨fd,hbi,hF⟩:=F w mg fa _ KX G.T.g hmg;exact GZ KX G.T.g G.T.b G.T.builtins G.T.nolimit hg hobj hints (O6 hlen hn2) hr hF hbi (λH hO hS=>hsp w H a ns hlen hb hO hS) λH e s'=>hCX w H s₁ e s'
theorem walk_ofBK{l:U6}{n k:Nat}{q:VY}{loose:List Str}{XP:(Str->Option VM)->V0->Prop}{YP:VZ->V0->Prop}{d:DefRec}{K:Params->Oe}{CX:eG}{sp:Oe->Sp}{x:Str}
 (hn:l.most=some n)(hn2:n<=VW)(hdf:d.params.defaults=[])(hr:bf k callerA)
 (hY:∀(w:VZ) (h:V0),YP w h->(K w.params).In h)
 (F:∀(w:VZ) (mg:Str->Option VM) (fa:VO) (h:V0),(K w.params).In h->h.Ns VR mg->mg d.name=some (.ref fa)->
  ∃fd:VX,(∀(s:VP) (u:VM),BindsTo s fd ⟨[u],[]⟩ [(x,u)])/\
   ∀base:V0,(K w.params).In base->base.Ns VR mg->aF l.prog w (K w.params) mg base CX k fa fd [x] (sp (K w.params)))
 (hsp:∀(K:Oe) (H:Hp) (a:VO) (ns:List Int),ns.length<=n->(∀z∈ns,Qb z<=1048576)->uk H->bg K H a (ns.map V.int)->sp K [.ref a] H (λv _=>v= .bl true) λ_ _ _=>False)
 (hCX:∀(H:Hp) (s:VP) (e:VM) (s':VP),CX [] H s (λ_ _ _=>False) e s'->False):
 Vf q loose XP YP l.row.toRowW d [] (λf vs=>U5 f vs):=
 G9 (K:=K) (CX:=λ_=>CX) (sp:=λw=>sp (K w.params)) hn hn2 hdf hr hY F (λw H a ns h1 hb h2 h3=>hsp (K w.params) H a ns h1 hb h2 h3) λ_ H s e s'=>hCX H s e s'
def iR(p:VO)(H H':Hp):Prop:=∀b o,H b=some o->b≠p->H' b=some o
theorem aw.new{H:Hp}{p:VO}{o:HO}(h:H p=none):aw H (ai H p o):=λb u e=>by rw [az (cM e h)];exact e
open PySem PySem.Spec PyProof.Rows
def FR(J:It)(g:TG)(tb:TS)(D:mL)(σ:St)(H1:Hp):Prop:=∃W:Nat->Nat->St->Hp->Prop,(∃m,W 0 m σ H1)/\∀i m σ H,W i m σ H->
 (J.stop i H/\D.nx σ H)\/(J.go i H/\∃N:St->Hp->Prop,(∀σ' H',N σ' H'->∃m',m' < m/\W (i+1) m' σ' H')/\∀x H',J.yld i H x H'->g x σ H' λσ2 H2=>tb {D with nx:=N,ct:=N,bk:=D.nx} σ2 H2)
theorem Ha{ta:TA}{g:TG}{tb:TS}:sE (vQ ta) g tb=λD σ H=>ta σ H λvs H1=>∃j:Int,vs=[.int j]/\-(2 ^ 62)<=j/\j < 2 ^ 62/\FR (jP 0 j.toNat) g tb D σ H1:=rfl
theorem Hb{ta:TA}{g:TG}{tb:TS}:sE (zh ta) g tb=λD σ H=>ta σ H λvs H1=>∃i j:Int,vs=[.int i,.int j]/\(-(2 ^ 62)<=i/\i < 2 ^ 62/\-(2 ^ 62)<=j/\j < 2 ^ 62)/\FR (jP i (j - i).toNat) g tb D σ H1:=rfl
theorem Hc{K:Oe}{tl:TE}{g:TG}{tb:TS}:sE (vN K tl) g tb=λD σ H=>tl σ H λx H1=>∃a,x= .ref a/\(∃xs,bg K H1 a xs)/\FR (qY K a) g tb D σ H1:=rfl
theorem He{K:Oe}{tl:TE}{g:TG}{tb:TS}:sE (vO K tl) g tb=λD σ H=>tl σ H λx H1=>∃a,x= .ref a/\(∃xs,bz K H1 a xs)/\FR (sC K a) g tb D σ H1:=rfl
def qv(J:It)(g:TG)(tc:TT)(te:TE)(k:Nat)(fr:List Nat)(σ:St)(H1:Hp)(Q:VK):Prop:=∀D,H1 D=none->∃W:Nat->Nat->Hp->Prop,(∃m,W 0 m (ai H1 D (.lst [])))/\∀i m H,W i m H->
 (J.stop i H/\Q (.ref D) H)\/(J.go i H/\∀x H',J.yld i H x H'->g x (bt k fr σ) H' λσ2 H2=>mO (bt k fr σ) σ2/\tc σ2 H2 λok H3=>
  if ok=true then te σ2 H3 λy H4=>∃ys,H4 D=some (.lst ys)/\ys.length < VW/\∃m',m' < m/\W (i+1) m' (ai H4 D (.lst (ys++[y])))
  else ∃m',m' < m/\W (i+1) m' H3)
theorem Hf{ta:TA}{g:TG}{tc:TT}{te:TE}{k:Nat}{fr:List Nat}:mP (vQ ta) g tc te k fr=λσ H Q=>ta σ H λvs H1=>∃j:Int,vs=[.int j]/\-(2 ^ 62)<=j/\j < 2 ^ 62/\qv (jP 0 j.toNat) g tc te k fr σ H1 Q:=rfl
theorem Hg{ta:TA}{g:TG}{tc:TT}{te:TE}{k:Nat}{fr:List Nat}:mP (zh ta) g tc te k fr=λσ H Q=>ta σ H λvs H1=>∃i j:Int,vs=[.int i,.int j]/\(-(2 ^ 62)<=i/\i < 2 ^ 62/\-(2 ^ 62)<=j/\j < 2 ^ 62)/\qv (jP i (j - i).toNat) g tc te k fr σ H1 Q:=rfl
theorem Hh{K:Oe}{tl:TE}{g:TG}{tc:TT}{te:TE}{k:Nat}{fr:List Nat}:mP (vN K tl) g tc te k fr=λσ H Q=>tl σ H λx H1=>∃a,x= .ref a/\(∃xs,bg K H1 a xs)/\qv (qY K a) g tc te k fr σ H1 Q:=rfl
theorem Hi{K:Oe}{tl:TE}{g:TG}{tc:TT}{te:TE}{k:Nat}{fr:List Nat}:mP (vO K tl) g tc te k fr=λσ H Q=>tl σ H λx H1=>∃a,x= .ref a/\(∃xs,bz K H1 a xs)/\qv (sC K a) g tc te k fr σ H1 Q:=rfl
theorem Hj{fr:List Nat}{σ:St}{v:Option V}:mO (bt 1 fr σ) ((bt 1 fr σ).set 0 v):=by
 refine⟨by simp,λi w h=>?_⟩;cases i with
 | zero=>simp [bt,OX] at h
 | succ i=>simpa [bt,OX] using h
theorem cxK{CX:eG}{P:VY}{w:VZ}{K:Oe}{mg:Str->Option VM}{base:V0}{N:List Str}{qual:Str}{scope:Wn}{f:VO}{cd:VM}{A:V2}{outer:List Env}{s:VP}{H:Hp}{E:XK}:(hJ CX P w K mg base N qual scope f cd A outer s H E).K=K:=rfl
theorem cmK{X:Cx}{scope:Wn}{N':List Str}{fp:List VO}{C:VO}{s:VP}{H:Hp}:(br X scope N' fp C s H).K=X.K:=rfl
theorem ur{K:Oe}{p:VO}{xs:List V}{i:Int}{v:V}{H:Hp}{Q:VK}(h:bz K H p xs)(hv:atI xs i=some v)(q:Q v H):wa K (.ref p) (.int i) H Q:=⟨p,xs,i,v,rfl,rfl,h,hv,q⟩
theorem uu{α:Type}{xs:List α}{i:Int}(h0:0<=i)(h1:i < xs.length):∃v,atI xs i=some v/\v∈xs:=by
 obtain⟨j,rfl⟩:=Q9 h0;have hj:j < xs.length:=VH
 exact⟨xs[j],gF (by simp [hj]),Qy hj⟩
theorem zT:V9 "int"=some (.type "int"):=cp
theorem fg:V9 "tuple"=some (.type "tuple"):=cp
theorem Hk:V9 "list"=some (.type "list"):=cp
open PySem PySem.Spec PyProof.Rows PySem.W
open PySem PySem.Spec PyProof.Rows PySem.W
section
variable {M:Model} {A:V2} {E:VM->VP->Prop}
variable {nm q:Str} {C N:VO} {bs bm:List VM} {hdct:Bool} {sn:List Str} {sub:List VM} {ab:Bool} {col:Option Bool} {dd:Option VO} {k0 k1 k2 k3 k5:Option VM} {newId:String}
variable {nm' q':Str} {C' N':VO} {bs' bm':List VM} {hdct':Bool} {sn':List Str} {sub':List VM} {ab':Bool} {col':Option Bool} {dd':Option VO} {k0' k1' k2' k3' k5':Option VM} {newId':String}
end
open PySem PySem.Spec PyProof.Rows PySem.W
open PySem PySem.Spec PyProof.Rows
section
variable {X:Cx}
theorem zU{bs:List Bool}{its:List VM}(r:aK (bs.map V.bl) its):its=bs.map RC:=by
 induction bs generalizing its with
 | nil=>cases r;rfl
 | cons b bs ih=>
  rw [Ol] at r;cases r with
  | cons r1 r2=>
   rw [Ol,<-ih r2];exact congrArg (·::_) r1
theorem Hl(bs:List Bool)(f:Nat->Bool)(h:∀i,i < bs.length->f i=bs.getD i true):(Qa bs.length).all f=bs.all id:=by
 rw [SY,QS,QS];constructor
 ·intro z b hb;obtain⟨i,hi,e⟩:=Sb hb;have:=z i (RZ.mpr hi);rw [h i hi,QP,OT hi] at this;rw [<-e];exact this
 ·intro z i hi;have hi:=RZ.mp hi;rw [h i hi,QP,OT hi];exact z _ (Qy hi)
theorem Hm(bs:List Bool)(f:Nat->Bool)(h:∀i,i < bs.length->f i=bs.getD i true):(Qa bs.length).any f=bs.any id:=by
 rw [SY,Rc,Rc];constructor
 ·rintro⟨i,hi,z⟩;have hi:=RZ.mp hi;rw [h i hi,QP,OT hi] at z;exact⟨_,Qy hi,z⟩
 ·rintro⟨b,hb,z⟩;obtain⟨i,hi,e⟩:=Sb hb;refine⟨i,RZ.mpr hi,?_⟩;rw [h i hi,QP,OT hi];show bs[i]=true;rw [e];exact z
theorem zV{bs:List Bool}{i:Nat}{v:VM}(h:(bs.map RC).toArray[i]?=some v):v= .bool (bs.getD i true):=by
 have h':(bs.map RC)[i]?=some v:=by simpa using h
 rw [OD] at h';cases e:bs[i]? with
 | none=>rw [e] at h';cases h'
 | some b=>
  rw [e] at h';rw [QP,e];exact(Pf h').symm
theorem zW{prog:VY}{w:VZ}{A:V2}{E:VM->VP->Prop}{s:VP}{l:VO}{items:Array VM}{Q:VM->VP->Prop}(hl:s.heap.IsList l items)
 (h:∀s₂:VP,s₂={s with heap:=s.heap.push {cls:= .type "list_iterator",data:= .fields #[.ref l,.int 0 0]}}->
  (s₂.heap.IsListIter s.heap.objs.size l 0/\s₂.heap.IsList l items)->l≠s.heap.objs.size->Q (.ref s.heap.objs.size) s₂):VS (VU prog w) A (pyIter (.ref l)) Q E s:=by
 have hlt:l < s.heap.objs.size:=by obtain⟨_,e,_⟩:=hl;exact OJ e
 exact Xl hl (h _ rfl ⟨⟨_,OR _ rfl,rfl,rfl⟩,hl.push _⟩ (OV hlt))
theorem zX(hc:X.calm=true):eF X (.builtin "all") (λxs H Q=>∃(a:VO)(bs:List Bool),xs=[.ref a]/\bg X.K H a (bs.map V.bl)/\Q (.bl (bs.all id)) H):=by
 intro pins s σ H xs us Q I r h;obtain⟨a,bs,rfl,hl,q⟩:=h;obtain⟨u,rfl,rx⟩:=fD r;cases rx;obtain⟨its,rv,p,hz⟩:=I.list hl;have hi:=zU rv;subst hi;refine call_all_walk (zW p.isList λs₂ e st hlI=>?_);subst e;refine⟨_,_,_,_,_,_,λi=>bs.getD i true,rfl,U7 (A:=X.A.in1) (I.ok.hd hc) _ a hlI _,st,λi v s' Q' E' hP hq=>by rw [zV hP];exact Wk hq,λh' tk hk=>?_⟩;have e:=Hl bs (λi=>bs.getD i true) λ_ _=>rfl;have e2:(Pr RC bs).toArray.size=bs.length:=by simp
 rw [e2,e];exact⟨.bl (bs.all id),H,I.kept (old_kept hk),rfl,q⟩
theorem zY(hc:X.calm=true):eF X (.builtin "any") (λxs H Q=>∃(a:VO)(bs:List Bool),xs=[.ref a]/\bg X.K H a (bs.map V.bl)/\Q (.bl (bs.any id)) H):=by
 intro pins s σ H xs us Q I r h;obtain⟨a,bs,rfl,hl,q⟩:=h;obtain⟨u,rfl,rx⟩:=fD r;cases rx;obtain⟨its,rv,p,hz⟩:=I.list hl;have hi:=zU rv;subst hi;refine call_any_walk (zW p.isList λs₂ e st hlI=>?_);subst e;refine⟨_,_,_,_,_,_,λi=>bs.getD i true,rfl,U7 (A:=X.A.in1) (I.ok.hd hc) _ a hlI _,st,λi v s' Q' E' hP hq=>by rw [zV hP];exact Wk hq,λh' tk hk=>?_⟩;have e:=Hm bs (λi=>bs.getD i true) λ_ _=>rfl;have e2:(Pr RC bs).toArray.size=bs.length:=by simp
 rw [e2,e];exact⟨.bl (bs.any id),H,I.kept (old_kept hk),rfl,q⟩
end
open PySem PySem.Spec PyProof.Rows PySem.W PySem.Calls PySem.Builtin.ObjectAttr PySem.Builtin PySem.Builtin.Getset_descriptor
open PySem PySem.Spec PyProof.Rows PySem.W
section
variable {X:Cx}
abbrev cx(d:VL):Prop:=Q1 d=true
end
theorem zZ:V9 "all"=some (.builtin "all"):=cp
theorem z3:V9 "any"=some (.builtin "any"):=cp
open PySem PySem.Spec PyProof.Rows PySem.W
def Hn(p:VO)(h:V0):Prop:=∃(n:Int)(t:Tok)(k:Nat),h.get? p=some {cls:= .type "list",data:= .seq #[.int n t] k}
abbrev Ho(p:VO):HO:= .ext (Hn p)
abbrev wj:VL:= .dict [(.none,.none)]
def Hq(p:VO)(h:V0):Prop:=∃(a b c:Int)(t u v:Tok)(k:Nat),h.get? p=some {cls:= .type "list",data:= .seq #[.int a t,.int b u,.int c v] k}
abbrev Hr(p:VO):HO:= .ext (Hq p)
abbrev Hs:VL:= .dict [(.none,.bool true)]
abbrev gG(ds:List VL):VL:= .dict [(.none,.list ds)]
abbrev fh(C:VO)(kp ds:List VL):VL:= .dict [(.none,.tuple [.int (C:Int),.list kp,.list ds])]
abbrev z4(kp ds:List VL):VL:= .dict [(.bool true,.tuple [.list kp,.list ds])]
abbrev Ex:=VO->Prop
abbrev uw:Hp:=λ_=>none
mutual
inductive Dt (K:Oe) (H:Hp) (O:Ex):V->VL->Prop
 | non:Dt K H O .non .none
 | bl (b:Bool):Dt K H O (.bl b) (.bool b)
 | int (i:Int):Dt K H O (.int i) (.int i)
 | str (x:Str):Dt K H O (.str x) (.str x)
 | tup {a:VO} {xs:List V} {ds:List VL}:Rd H a (.tup xs)->¬O a->aj K H O xs ds->Dt K H O (.ref a) (.tuple ds)
 | tupK {a:VO} {xs:List V} {ds:List VL}:bz K uw a xs->aj K H O xs ds->Dt K H O (.ref a) (.tuple ds)
 | lst {a:VO} {xs:List V} {ds:List VL}:Rd H a (.lst xs)->¬O a->aj K H O xs ds->Dt K H O (.ref a) (.list ds)
 | pack {p:VO}:H p=some (Ho p)->¬O p->Dt K H O (.ref p) wj
 | purse {p:VO}:H p=some (Hr p)->¬O p->Dt K H O (.ref p) Hs
 | dct0 {a:VO}:H a=some (.dK [])->¬O a->Dt K H O (.ref a) (.dict [])
 | obj {a C dx:VO} {fs:List (Str×V)} {kp ds:List VL}:H a=some (.ins C dx fs)->kp=fs.map (λp=>Oi p.1)->¬O a->aj K H O (fs.map (·.2)) ds->Dt K H O (.ref a) (fh C kp ds)
 | dic {a:VO} {ob:Obj} {kv:List (ak×V)} {ks:List Str} {kp ds:List VL}:H a=some (.frz ob (.dK kv))->kv.map (·.1)=ks.map P7->kp=ks.map Oi->¬O a->aj K H O (kv.map (·.2)) ds->Dt K H O (.ref a) (z4 kp ds)
 | scr {a:VO} {xs:List V} {ds:List VL}:(Rd H a (.lst xs)/\¬O a)\/bg K uw a xs->aj K H O xs ds->Dt K H O (.ref a) (gG ds)
inductive aj (K:Oe) (H:Hp) (O:Ex):List V->List VL->Prop
 | nil:aj K H O [] []
 | cons {v:V} {d:VL} {vs:List V} {ds:List VL}:Dt K H O v d->aj K H O vs ds->aj K H O (v::vs) (d::ds)
end
theorem Rd.same{H H':Hp}{a:VO}{u:HO}(s:∀o,H a=some o->H' a=some o)(h:Rd H a u):Rd H' a u:=by
 rcases h with h | ⟨o,h⟩
 ·exact .inl (s _ h)
 ·exact .inr ⟨o,s _ h⟩
theorem Rd.trk{H:Hp}{a:VO}{u:HO}(h:Rd H a u):H a≠none:=by
 rcases h with h | ⟨o,h⟩ <;> rw [h] <;> exact λz=>nomatch z
section
variable {K:Oe}
structure aN (H H':Hp) (O O':Ex):Prop where
 keep:∀b o,H b=some o->¬O b->H' b=some o
 out:∀b,H b≠none->¬O b->¬O' b
mutual
theorem Dt.step{H H':Hp}{O O':Ex}(S:aN H H' O O'):∀{v:V}{d:VL},Dt K H O v d->Dt K H' O' v d
 | _,_,.non=>.non
 | _,_,.bl b=>.bl b
 | _,_,.int i=>.int i
 | _,_,.str x=>.str x
 | _,_,.tup h n r=>.tup (h.same λo e=>S.keep _ o e n) (S.out _ h.trk n) (aj.step S r)
 | _,_,.tupK h r=>.tupK h (aj.step S r)
 | _,_,.lst h n r=>.lst (h.same λo e=>S.keep _ o e n) (S.out _ h.trk n) (aj.step S r)
 | _,_,.pack h n=>.pack (S.keep _ _ h n) (S.out _ (by rw [h];exact λz=>nomatch z) n)
 | _,_,.purse h n=>.purse (S.keep _ _ h n) (S.out _ (by rw [h];exact λz=>nomatch z) n)
 | _,_,.dct0 h n=>.dct0 (S.keep _ _ h n) (S.out _ (by rw [h];exact λz=>nomatch z) n)
 | _,_,.obj h e n r=>.obj (S.keep _ _ h n) e (S.out _ (by rw [h];exact λz=>nomatch z) n) (aj.step S r)
 | _,_,.dic h e1 e2 n r=>.dic (S.keep _ _ h n) e1 e2 (S.out _ (by rw [h];exact λz=>nomatch z) n) (aj.step S r)
 | _,_,.scr h r=>.scr (h.imp (λh=>⟨h.1.same λo e=>S.keep _ o e h.2,S.out _ h.1.trk h.2⟩) id) (aj.step S r)
theorem aj.step{H H':Hp}{O O':Ex}(S:aN H H' O O'):∀{vs:List V}{ds:List VL},aj K H O vs ds->aj K H' O' vs ds
 | _,_,.nil=>.nil
 | _,_,.cons h r=>.cons (Dt.step S h) (aj.step S r)
end
theorem aN.same{H H':Hp}{O:Ex}(s:aw H H'):aN H H' O O:=⟨λb o e _=>s b o e,λ_ _ n=>n⟩
theorem Dt.mono{H H':Hp}{O:Ex}{v:V}{d:VL}(s:aw H H')(h:Dt K H O v d):Dt K H' O v d:=h.step (.same s)
theorem aj.mono{H H':Hp}{O:Ex}{v:List V}{d:List VL}(s:aw H H')(h:aj K H O v d):aj K H' O v d:=h.step (.same s)
theorem aj.length{H:Hp}{O:Ex}:∀{vs:List V}{ds:List VL},aj K H O vs ds->vs.length=ds.length
 | _,_,.nil=>rfl
 | _,_,.cons _ r=>by rw [Oz,Oz,aj.length r]
theorem aj.get{H:Hp}{O:Ex}:∀{vs:List V}{ds:List VL}{i:Nat}{v:V},aj K H O vs ds->vs[i]?=some v->∃d,ds[i]?=some d/\Dt K H O v d
 | _,_,_,_,.nil,e=>by simp at e
 | _,_,0,_,.cons h _,e=>by simp at e;subst e;exact⟨_,rfl,h⟩
 | _,_,i+1,_,.cons _ r,e=>by simpa using aj.get (i:=i) r (by simpa using e)
theorem aj.getD{H:Hp}{O:Ex}:∀{vs:List V}{ds:List VL}{i:Nat}{d:VL},aj K H O vs ds->ds[i]?=some d->∃v,vs[i]?=some v/\Dt K H O v d
 | _,_,_,_,.nil,e=>by simp at e
 | _,_,0,_,.cons h _,e=>by simp at e;subst e;exact⟨_,rfl,h⟩
 | _,_,i+1,_,.cons _ r,e=>by simpa using aj.getD (i:=i) r (by simpa using e)
theorem aj.append{H:Hp}{O:Ex}:∀{vs ws:List V}{ds es:List VL},aj K H O vs ds->aj K H O ws es->aj K H O (vs++ws) (ds++es)
 | _,_,_,_,.nil,s=>s
 | _,_,_,_,.cons h r,s=>.cons h (aj.append r s)
theorem aj.take{H:Hp}{O:Ex}:∀{vs:List V}{ds:List VL}(n:Nat),aj K H O vs ds->aj K H O (vs.take n) (ds.take n)
 | _,_,0,_=>.nil
 | _,_,_+1,.nil=>.nil
 | _,_,n+1,.cons h r=>.cons h (aj.take n r)
theorem aj.drop{H:Hp}{O:Ex}:∀{vs:List V}{ds:List VL}(n:Nat),aj K H O vs ds->aj K H O (vs.drop n) (ds.drop n)
 | _,_,0,r=>r
 | _,_,_+1,.nil=>.nil
 | _,_,n+1,.cons _ r=>aj.drop n r
theorem aj.ints{H:Hp}{O:Ex}:∀(ns:List Int),aj K H O (ns.map V.int) (ns.map OZ)
 | []=>.nil
 | n::r=>.cons (.int n) (aj.ints r)
inductive Sh (K:Oe) (H:Hp) (O:Ex):V->VL->Prop
 | dt {v:V} {d:VL}:Dt K H O v d->Sh K H O v d
 | own {l:VO} {vs:List V} {ds:List VL}:H l=some (.lst vs)->aj K H O vs ds->Sh K H O (.ref l) (.list ds)
theorem Sh.mono{H H':Hp}{O:Ex}{v:V}{d:VL}(s:aw H H'):Sh K H O v d->Sh K H' O v d
 | .dt h=>.dt (h.mono s)
 | .own h r=>.own (s _ _ h) (r.mono s)
theorem Dt.all{H:Hp}{O:Ex}{v:V}{d:VL}(h:Dt K H O v d):Dt K H (λ_=>False) v d:=h.step ⟨λ_ _ e _=>e,λ_ _ _ z=>z⟩
theorem aj.all{H:Hp}{O:Ex}{v:List V}{d:List VL}(h:aj K H O v d):aj K H (λ_=>False) v d:=h.step ⟨λ_ _ e _=>e,λ_ _ _ z=>z⟩
theorem Sh.all{H:Hp}{O:Ex}{v:V}{d:VL}:Sh K H O v d->Dt K H (λ_=>False) v d
 | .dt h=>h.all
 | .own h r=>.lst (.inl h) (λz=>z) r.all
theorem bz.of0{H:Hp}{a:VO}{xs:List V}(h:bz K uw a xs):bz K H a xs:=by
 rcases h with(h | ⟨o,h⟩) | h
 ·cases h
 ·cases h
 ·exact .inr h
theorem bg.of0{H:Hp}{a:VO}{xs:List V}(h:bg K uw a xs):bg K H a xs:=by
 rcases h with(h | ⟨o,h⟩) | h
 ·cases h
 ·cases h
 ·exact .inr h
theorem Sh.tup{H:Hp}{O:Ex}{v:V}{ds:List VL}(h:Sh K H O v (.tuple ds)):∃a xs,v= .ref a/\bz K H a xs/\aj K H O xs ds:=by
 cases h with
 | dt h=>
  cases h with
  | tup h _ r=>exact⟨_,_,rfl,.inl h,r⟩
  | tupK h r=>exact⟨_,_,rfl,h.of0,r⟩
theorem Sh.lstR{H:Hp}{O:Ex}{v:V}{ds:List VL}(h:Sh K H O v (.list ds)):∃a xs,v= .ref a/\Rd H a (.lst xs)/\aj K H O xs ds:=by
 cases h with
 | dt h=>
  cases h with
  | lst h _ r=>exact⟨_,_,rfl,h,r⟩
 | own h r=>exact⟨_,_,rfl,.inl h,r⟩
theorem Sh.lst{H:Hp}{O:Ex}{v:V}{ds:List VL}(h:Sh K H O v (.list ds)):∃a xs,v= .ref a/\bg K H a xs/\aj K H O xs ds:=by
 obtain⟨a,xs,e,h,r⟩:=h.lstR;exact⟨a,xs,e,.inl h,r⟩
theorem Sh.scr{H:Hp}{O:Ex}{v:V}{ds:List VL}(h:Sh K H O v (gG ds)):∃a xs,v= .ref a/\bg K H a xs/\aj K H O xs ds:=by
 cases h with
 | dt h=>
  cases h with
  | scr h r=>
   rcases h with h | h
   ·exact⟨_,_,rfl,.inl h.1,r⟩
   ·exact⟨_,_,rfl,h.of0,r⟩
theorem Sh.int{H:Hp}{O:Ex}{v:V}{i:Int}(h:Sh K H O v (.int i)):v= .int i:=by cases h with | dt h=>cases h;rfl
theorem Sh.bl{H:Hp}{O:Ex}{v:V}{i:Bool}(h:Sh K H O v (.bool i)):v= .bl i:=by cases h with | dt h=>cases h;rfl
theorem Sh.str{H:Hp}{O:Ex}{v:V}{i:Str}(h:Sh K H O v (.str i)):v= .str i:=by cases h with | dt h=>cases h;rfl
theorem Sh.non{H:Hp}{O:Ex}{v:V}(h:Sh K H O v .none):v= .non:=by cases h with | dt h=>cases h;rfl
end
section
variable {X:Cx} {pins:List (VO×Obj)} {σ:St} {H:Hp} {s:VP}
mutual
theorem hU(I:af X pins σ H s){O:Ex}:∀{v:V}{d:VL}{u:VM},Dt X.K H O v d->d.canLay0=true->aE v u->∃as,Reads s.heap u d as
 | _,_,_,.non,_,r=>by cases r;exact⟨_,Reads.none⟩
 | _,_,_,.bl b,_,r=>by cases r;exact⟨_,Reads.bool b⟩
 | _,_,_,.int i,_,r=>by obtain⟨t,rfl⟩:=r;exact⟨_,Reads.int i t⟩
 | _,_,_,.str x,_,r=>by obtain⟨t,rfl⟩:=r;exact⟨_,Reads.str x t⟩
 | _,_,_,.tup h _ hs,c,r=>by
  cases r;obtain⟨its,rv,⟨o,e,c',n,dd⟩,_⟩:=I.tuple (.inl h);obtain⟨as,q⟩:=uz I hs (by simpa [Pj] using c) rv;exact⟨as,reads_tuple_at e c' dd (by simpa using q)⟩
 | _,_,_,.tupK h hs,c,r=>by
  cases r;obtain⟨its,rv,⟨o,e,c',n,dd⟩,_⟩:=I.tuple h.of0;obtain⟨as,q⟩:=uz I hs (by simpa [Pj] using c) rv;exact⟨as,reads_tuple_at e c' dd (by simpa using q)⟩
 | _,_,_,.lst h _ hs,c,r=>by
  cases r;obtain⟨its,rv,⟨o,n,e,c',_,dd⟩,_⟩:=I.list (.inl h);obtain⟨as,q⟩:=uz I hs (by simpa [Pj] using c) rv;exact⟨_,reads_list_at e c' dd (by simpa using q)⟩
 | _,_,_,.pack _ _,c,_=>by simp [Pj] at c
 | _,_,_,.purse _ _,c,_=>by simp [Pj] at c
 | _,_,_,.dct0 _ _,c,_=>by simp [Pj] at c
 | _,_,_,.obj _ _ _ _,c,_=>by simp [Pj] at c
 | _,_,_,.dic _ _ _ _ _,c,_=>by simp [Pj] at c
 | _,_,_,.scr _ _,c,_=>by simp [Pj] at c
theorem uz(I:af X pins σ H s){O:Ex}:∀{vs:List V}{ds:List VL}{us:List VM},aj X.K H O vs ds->Qe ds=true->aK vs us->∃as,ReadsAll s.heap us ds as
 | _,_,_,.nil,_,r=>by cases r;exact⟨_,ReadsAll.nil⟩
 | _,_,_,.cons h hs,c,r=>by
  rw [Qe,Pw] at c;cases r with
  | cons r1 r2=>
   obtain⟨as,q⟩:=hU I h c.1 r1;obtain⟨bs,p⟩:=uz I hs c.2 r2;exact⟨_,ReadsAll.cons q p⟩
end
end
open PySem PySem.Spec PyProof.Rows PySem.W
inductive Sl where
 | v (d:VL)
 | o (ds:List VL)
 | k (kd:List (ak×VL))
 | i (l C:VO) (fd:List (Str×VL))
 | r (l C g u:VO) (fd:List (Str×VL)) (gd ud:List (ak×VL))
 | b (ds:List VL)
abbrev Dl:=List (Option Sl)
inductive bA (K:Oe) (H:Hp) (O:Ex):List (ak×V)->List (ak×VL)->Prop
 | nil:bA K H O [] []
 | cons {k:ak} {v:V} {d:VL} {r:List (ak×V)} {s:List (ak×VL)}:Dt K H O v d->bA K H O r s->bA K H O ((k,v)::r) ((k,d)::s)
theorem bA.step{K:Oe}{H H':Hp}{O O':Ex}(S:aN H H' O O'){r:List (ak×V)}{s:List (ak×VL)}(h:bA K H O r s):bA K H' O' r s:=by
 induction h with
 | nil=>exact .nil
 | cons a _ ih=>exact .cons (a.step S) ih
theorem bA.mono{K:Oe}{H H':Hp}{O:Ex}(S:aw H H'){r:List (ak×V)}{s:List (ak×VL)}(h:bA K H O r s):bA K H' O r s:=h.step (.same S)
def hV(K:Oe)(H:Hp)(O:Ex)(fs:List (Str×V))(fd:List (Str×VL)):Prop:=fs.map (·.1)=fd.map (·.1)/\aj K H O (fs.map (·.2)) (fd.map (·.2))
def Sl.own:Sl->Prop
 | .v _=>False
 | .b _=>False
 | _=>True
abbrev bY:Str:=Od "gone"
abbrev cP:Str:=Od "used"
def wk(K:Oe)(H:Hp)(O0 O:Ex)(l C g u:VO)(fd:List (Str×VL))(gd ud:List (ak×VL)):Prop:=∃dx fs og ou gv uv,H l=some (.ins C dx (fs++[(bY,.ref g),(cP,.ref u)]))/\hV K H O fs fd/\g≠u/\
 (O g/\¬O0 g/\H g=some (.frz og (.dK gv))/\bA K H O gv gd)/\(O u/\¬O0 u/\H u=some (.frz ou (.dK uv))/\bA K H O uv ud)
def gH(K:Oe)(H:Hp)(O0 O:Ex)(x:Option V):Option Sl->Prop
 | none=>True
 | some (.v d)=>∃v,x=some v/\Dt K H O v d
 | some (.o ds)=>∃l vs,x=some (.ref l)/\O l/\¬O0 l/\H l=some (.lst vs)/\aj K H O vs ds
 | some (.k kd)=>∃l kv,x=some (.ref l)/\O l/\¬O0 l/\H l=some (.dK kv)/\bA K H O kv kd
 | some (.i l C fd)=>∃dx fs,x=some (.ref l)/\O l/\¬O0 l/\H l=some (.ins C dx fs)/\hV K H O fs fd
 | some (.r l C g u fd gd ud)=>x=some (.ref l)/\O l/\¬O0 l/\wk K H O0 O l C g u fd gd ud
 | some (.b ds)=>∃l vs,x=some (.ref l)/\O0 l/\H l=some (.lst vs)/\aj K H O vs ds
structure Wd (K:Oe) (H0:Hp) (O0:Ex) (H:Hp) (O:Ex) (σ:St) (δ:Dl):Prop where
 same:aw H0 H
 sub:∀l,O0 l->O l
 new:∀l,O l->O0 l\/H0 l=none
 trk:∀l,O l->H l≠none
 len:σ.length=δ.length
 sl:∀(i:Nat) y,δ[i]?=some y->gH K H O0 O ((σ[i]?).join) y
 dis:∀(i j:Nat) y z l,δ[i]?=some (some y)->y.own->δ[j]?=some (some z)->z.own->σ[i]?=some (some (.ref l))->σ[j]?=some (some (.ref l))->i=j
section
variable {K:Oe} {H0 H H':Hp} {O0 O:Ex} {σ:St} {δ:Dl}
theorem gH.mono{x:Option V}{y:Option Sl}(s:aw H H')(h:gH K H O0 O x y):gH K H' O0 O x y:=by
 match y,h with
 | none,_=>exact QG
 | some (.v d),⟨v,e,r⟩=>exact⟨v,e,r.mono s⟩
 | some (.o ds),⟨l,vs,e,a,b,c,r⟩=>exact⟨l,vs,e,a,b,s _ _ c,r.mono s⟩
 | some (.k ds),⟨l,vs,e,a,b,c,r⟩=>exact⟨l,vs,e,a,b,s _ _ c,r.mono s⟩
 | some (.i l C ds),⟨dx,vs,e,a,b,c,r1,r2⟩=>exact⟨dx,vs,e,a,b,s _ _ c,r1,r2.mono s⟩
 | some (.r l C g u fd gd ud),⟨e,a,b,dx,fs,og,ou,gv,uv,c,⟨r1,r2⟩,ne,⟨g1,g2,g3,g4⟩,u1,u2,u3,u4⟩=>exact⟨e,a,b,dx,fs,og,ou,gv,uv,s _ _ c,⟨r1,r2.mono s⟩,ne,⟨g1,g2,s _ _ g3,g4.mono s⟩,u1,u2,s _ _ u3,u4.mono s⟩
 | some (.b ds),⟨l,vs,e,a,c,r⟩=>exact⟨l,vs,e,a,s _ _ c,r.mono s⟩
theorem gH.go{O':Ex}{x:Option V}{y:Option Sl}(h:gH K H O0 O x y)(S:aN H H' O O')(kp:∀l o,y.any (λz=>match z with | .v _=>false | .b _=>false | _=>true)=true->x=some (.ref l)->O l->¬O0 l->H l=some o->O' l/\H' l=some o)
 (kp2:∀a o u,O a->¬O0 a->H a=some (.frz o u)->O' a/\H' a=some (.frz o u))(kp3:∀a o,O0 a->H a=some o->H' a=some o):gH K H' O0 O' x y:=by
 match y,h with
 | none,_=>exact QG
 | some (.v d),⟨v,e,r⟩=>exact⟨v,e,r.step S⟩
 | some (.o ds),⟨l,vs,e,a,b,c,r⟩=>exact⟨l,vs,e,(kp l _ rfl e a b c).1,b,(kp l _ rfl e a b c).2,r.step S⟩
 | some (.k ds),⟨l,vs,e,a,b,c,r⟩=>exact⟨l,vs,e,(kp l _ rfl e a b c).1,b,(kp l _ rfl e a b c).2,r.step S⟩
 | some (.i l C ds),⟨dx,vs,e,a,b,c,r1,r2⟩=>exact⟨dx,vs,e,(kp l _ rfl e a b c).1,b,(kp l _ rfl e a b c).2,r1,r2.step S⟩
 | some (.r l C g u fd gd ud),⟨e,a,b,dx,fs,og,ou,gv,uv,c,⟨r1,r2⟩,ne,⟨g1,g2,g3,g4⟩,u1,u2,u3,u4⟩=>exact⟨e,(kp l _ rfl e a b c).1,b,dx,fs,og,ou,gv,uv,(kp l _ rfl e a b c).2,⟨r1,r2.step S⟩,ne,⟨(kp2 _ _ _ g1 g2 g3).1,g2,(kp2 _ _ _ g1 g2 g3).2,g4.step S⟩,(kp2 _ _ _ u1 u2 u3).1,u2,(kp2 _ _ _ u1 u2 u3).2,u4.step S⟩
 | some (.b ds),⟨l,vs,e,a,c,r⟩=>exact⟨l,vs,e,a,kp3 _ _ a c,r.step S⟩
theorem Wd.mono(s:aw H H')(w:Wd K H0 O0 H O σ δ):Wd K H0 O0 H' O σ δ:=
 ⟨w.same.trans s,w.sub,w.new,λl h z=>(by
  cases e:H l with
  | none=>exact w.trk l h e
  | some o=>rw [s _ _ e] at z;cases z),w.len,λi y e=>(w.sl i y e).mono s,w.dis⟩
theorem fi{i:Nat}{v:V}(h:(σ[i]?).join=some v):σ[i]?=some (some v):=by
 cases q:σ[i]? with
 | none=>rw [q] at h;cases h
 | some o=>rw [q] at h;rw [show o=some v from h]
theorem Wd.val(w:Wd K H0 O0 H O σ δ){i:Nat}{d:VL}(e:δ[i]?=some (some (.v d))):∃v,σ[i]?=some (some v)/\Dt K H O v d:=by
 obtain⟨v,h,r⟩:=w.sl i _ e;exact⟨v,fi h,r⟩
theorem Wd.own(w:Wd K H0 O0 H O σ δ){i:Nat}{ds:List VL}(e:δ[i]?=some (some (.o ds))):∃l vs,σ[i]?=some (some (.ref l))/\O l/\¬O0 l/\H l=some (.lst vs)/\aj K H O vs ds:=by
 obtain⟨l,vs,h,r⟩:=w.sl i _ e;exact⟨l,vs,fi h,r⟩
theorem Wd.ownK(w:Wd K H0 O0 H O σ δ){i:Nat}{kd:List (ak×VL)}(e:δ[i]?=some (some (.k kd))):∃l kv,σ[i]?=some (some (.ref l))/\O l/\¬O0 l/\H l=some (.dK kv)/\bA K H O kv kd:=by
 obtain⟨l,vs,h,r⟩:=w.sl i _ e;exact⟨l,vs,fi h,r⟩
theorem Wd.ownI(w:Wd K H0 O0 H O σ δ){i:Nat}{l C:VO}{fd:List (Str×VL)}(e:δ[i]?=some (some (.i l C fd))):∃dx fs,σ[i]?=some (some (.ref l))/\O l/\¬O0 l/\H l=some (.ins C dx fs)/\hV K H O fs fd:=by
 obtain⟨dx,vs,h,r⟩:=w.sl i _ e;exact⟨dx,vs,fi h,r⟩
theorem Wd.adr(w:Wd K H0 O0 H O σ δ){i:Nat}{y:Sl}(e:δ[i]?=some (some y))(h:y.own):∃l,σ[i]?=some (some (.ref l))/\O l/\¬O0 l:=by
 match y,h,e with
 | .o ds,_,e=>obtain⟨l,vs,a,b,c,_⟩:=w.own e;exact⟨l,a,b,c⟩
 | .k ds,_,e=>obtain⟨l,vs,a,b,c,_⟩:=w.ownK e;exact⟨l,a,b,c⟩
 | .i l C ds,_,e=>obtain⟨dx,vs,a,b,c,_⟩:=w.ownI e;exact⟨l,a,b,c⟩
 | .r l C g u fd gd ud,_,e=>obtain⟨a,b,c,_⟩:=w.sl i _ e;exact⟨l,fi a,b,c⟩
theorem Wd.nofrz(w:Wd K H0 O0 H O σ δ){i:Nat}{y:Sl}{l:VO}(e:δ[i]?=some (some y))(h:y.own)(hl:σ[i]?=some (some (.ref l)))(o:Obj)(u:HO):H l≠some (.frz o u):=by
 match y,h,e with
 | .o ds,_,e=>obtain⟨l',vs,a,b,c,d,_⟩:=w.own e;rw [hl] at a;cases a;rw [d];exact λz=>nomatch z
 | .k ds,_,e=>obtain⟨l',vs,a,b,c,d,_⟩:=w.ownK e;rw [hl] at a;cases a;rw [d];exact λz=>nomatch z
 | .i l C ds,_,e=>obtain⟨dx,vs,a,b,c,d,_⟩:=w.ownI e;rw [hl] at a;cases a;rw [d];exact λz=>nomatch z
 | .r l C g u fd gd ud,_,e=>obtain⟨a,b,c,_,_,_,_,_,_,d,_⟩:=w.sl i _ e;have a:=fi a;rw [hl] at a;cases a;rw [d];exact λz=>nomatch z
theorem Wd.set(w:Wd K H0 O0 H O σ δ){i:Nat}{v:V}{d:VL}(h:Dt K H O v d):Wd K H0 O0 H O (σ.set i (some v)) (δ.set i (some (.v d))):=by
 refine⟨w.same,w.sub,w.new,w.trk,by simp [w.len],λj y e=>?_,λj k y z l e1 y1 e2 z2 e3 e4=>?_⟩
 ·by_cases hj:j=i
  ·subst hj;have hl:j < δ.length:=by
    have:=(OB.mp e).1;simpa using this
   rw [OS hl] at e;cases e;rw [OS (by rw [w.len];exact hl)];exact⟨v,rfl,h⟩
  ·rw [OG (Ne.symm hj)] at e⊢;exact w.sl j y e
 ·have ne:∀{j:Nat}{y:Sl},(δ.set i (some (.v d)))[j]?=some (some y)->y.own->j≠i:=λ{j y} e ho z=>by
   subst z;by_cases hl:j < δ.length
   ·rw [OS hl] at e;cases e;exact ho
   ·rw [Qm (by simpa using hl)] at e;cases e
  have n1:=ne e1 y1;have n2:=ne e2 z2;rw [OG (Ne.symm n1)] at e1 e3;rw [OG (Ne.symm n2)] at e2 e4;exact w.dis j k y z l e1 y1 e2 z2 e3 e4
theorem Wd.setY(w:Wd K H0 O0 H O σ δ){i:Nat}{p:VO}{ho:HO}{y0:Sl}(hy:y0.own)(hp:H p=none)(h:∀O',aN H (ai H p ho) O O'->O' p->¬O0 p->gH K (ai H p ho) O0 O' (some (.ref p)) (some y0)):
 Wd K H0 O0 (ai H p ho) (λl=>O l\/l=p) (σ.set i (some (.ref p))) (δ.set i (some y0)):=by
 have sm:aw H (ai H p ho):=aw.new hp;have np:∀l,O l->l≠p:=λl hl z=>w.trk l hl (by rw [z];exact hp);have p0:H0 p=none:=by
  cases e:H0 p with
  | none=>rfl
  | some o=>rw [w.same _ _ e] at hp;cases hp
 have S:aN H (ai H p ho) O (λl=>O l\/l=p):=⟨λb o e _=>sm b o e,λb hb hn z=>z.elim hn λq=>hb (by rw [q];exact hp)⟩;have n0:¬O0 p:=λz=>np p (w.sub p z) rfl;refine⟨w.same.trans sm,λl z=>.inl (w.sub l z),λl z=>z.elim (w.new l) λq=>.inr (by rw [q];exact p0),λl z=>?_,by simp [w.len],λj y e=>?_,λj k y z l e1 y1 e2 z2 e3 e4=>?_⟩
 ·by_cases q:l=p
  ·rw [q,bh];exact λz=>nomatch z
  ·rw [az q];exact w.trk l (z.resolve_right q)
 ·by_cases hj:j=i
  ·subst hj;have hl:j < δ.length:=by
    have:=(OB.mp e).1;simpa using this
   rw [OS hl] at e;cases e;rw [OS (by rw [w.len];exact hl)];exact h _ S (.inr rfl) n0
  ·rw [OG (Ne.symm hj)] at e⊢;exact(w.sl j y e).go S (λl o _ _ a _ c=>⟨.inl a,sm _ _ c⟩) (λa o u a1 _ a3=>⟨.inl a1,sm _ _ a3⟩) λa o _ a3=>sm _ _ a3
 ·by_cases hj:j=i
  ·by_cases hk:k=i
   ·rw [hj,hk]
   ·exfalso;rw [hj] at e1 e3;have hl:i < σ.length:=by
     have:=(OB.mp e3).1;simpa using this
    rw [OS hl] at e3;cases e3;rw [OG (Ne.symm hk)] at e2 e4;obtain⟨l',x1,x2,_⟩:=w.adr e2 z2;rw [e4] at x1;cases x1;exact np _ x2 rfl
  ·by_cases hk:k=i
   ·exfalso;rw [hk] at e2 e4;have hl:i < σ.length:=by
     have:=(OB.mp e4).1;simpa using this
    rw [OS hl] at e4;cases e4;rw [OG (Ne.symm hj)] at e1 e3;obtain⟨l',x1,x2,_⟩:=w.adr e1 y1;rw [e3] at x1;cases x1;exact np _ x2 rfl
   ·rw [OG (Ne.symm hj)] at e1 e3;rw [OG (Ne.symm hk)] at e2 e4;exact w.dis j k _ _ l e1 y1 e2 z2 e3 e4
theorem Wd.setO(w:Wd K H0 O0 H O σ δ){i:Nat}{p:VO}{vs:List V}{ds:List VL}(hp:H p=none)(h:aj K H O vs ds):
 Wd K H0 O0 (ai H p (.lst vs)) (λl=>O l\/l=p) (σ.set i (some (.ref p))) (δ.set i (some (.o ds))):=
 w.setY trivial hp λO' S a b=>⟨p,vs,rfl,a,b,bh,h.step S⟩
theorem Wd.setK(w:Wd K H0 O0 H O σ δ){i:Nat}{p:VO}{kv:List (ak×V)}{kd:List (ak×VL)}(hp:H p=none)(h:bA K H O kv kd):
 Wd K H0 O0 (ai H p (.dK kv)) (λl=>O l\/l=p) (σ.set i (some (.ref p))) (δ.set i (some (.k kd))):=
 w.setY trivial hp λO' S a b=>⟨p,kv,rfl,a,b,bh,h.step S⟩
theorem Wd.putY(w:Wd K H0 O0 H O σ δ){i:Nat}{l:VO}{ho:HO}{y0 y1:Sl}(h0:y0.own)(h1:y1.own)(e:δ[i]?=some (some y0))(hl:σ[i]?=some (some (.ref l)))(h:aN H (ai H l ho) O O->O l->¬O0 l->gH K (ai H l ho) O0 O (some (.ref l)) (some y1)):
 Wd K H0 O0 (ai H l ho) O σ (δ.set i (some y1)):=by
 obtain⟨l',x1,x2,x3⟩:=w.adr e h0;rw [hl] at x1;cases x1;have l0:H0 l=none:=(w.new l x2).resolve_left x3;have S:aN H (ai H l ho) O O:=⟨λb o q n=>by rw [az (λz=>n (by rw [z];exact x2))];exact q,λ_ _ n=>n⟩;have li:i < δ.length:=(OB.mp e).1;refine⟨λb o q=>by rw [az (λz=>by rw [z,l0] at q;cases q)];exact w.same b o q,w.sub,w.new,λb z=>?_,by simp [w.len],λj y q=>?_,λj k y z b e1 y1' e2 z2 e3 e4=>?_⟩
 ·by_cases q:b=l
  ·rw [q,bh];exact λz=>nomatch z
  ·rw [az q];exact w.trk b z
 ·by_cases hj:j=i
  ·subst hj;rw [OS li] at q;cases q;rw [hl];exact h S x2 x3
  ·rw [OG (Ne.symm hj)] at q;refine(w.sl j y q).go S (λb o ho' e' a1 a2 a3=>⟨a1,?_⟩) (λb o u a1 a2 a3=>⟨a1,by rw [az (λz=>w.nofrz e h0 hl o u (by rw [<-z];exact a3))];exact a3⟩) λb o a1 a3=>by rw [az (λz=>x3 (by rw [<-z];exact a1))];exact a3
   have nb:b≠l:=λz=>by
    subst z
    match y,ho',q with
    | some z,ho',q=>exact hj (w.dis j i z y0 b q (by cases z <;> first | trivial | cases ho') e h0 (fi e') hl)
   rw [az nb];exact a3
 ·have d7:∀{j:Nat}{y:Sl},(δ.set i (some y1))[j]?=some (some y)->y.own->∃y',δ[j]?=some (some y')/\y'.own:=λ{j y} q hq=>by
   by_cases hj:j=i
   ·subst hj;exact⟨_,e,h0⟩
   ·rw [OG (Ne.symm hj)] at q;exact⟨_,q,hq⟩
  obtain⟨_,q1,r1⟩:=d7 e1 y1';obtain⟨_,q2,r2⟩:=d7 e2 z2;exact w.dis j k _ _ b q1 r1 q2 r2 e3 e4
theorem Wd.putO(w:Wd K H0 O0 H O σ δ){i:Nat}{l:VO}{vs us:List V}{ds es:List VL}(e:δ[i]?=some (some (.o ds)))(hl:σ[i]?=some (some (.ref l)))(h:aj K H O us es):
 Wd K H0 O0 (ai H l (.lst us)) O σ (δ.set i (some (.o es))):=
 w.putY (y0:= .o ds) (y1:= .o es) trivial trivial e hl λS a b=>⟨l,us,rfl,a,b,bh,h.step S⟩
theorem Wd.putK(w:Wd K H0 O0 H O σ δ){i:Nat}{l:VO}{kv:List (ak×V)}{kd kd':List (ak×VL)}(e:δ[i]?=some (some (.k kd)))(hl:σ[i]?=some (some (.ref l)))(h:bA K H O kv kd'):
 Wd K H0 O0 (ai H l (.dK kv)) O σ (δ.set i (some (.k kd'))):=
 w.putY (y0:= .k kd) (y1:= .k kd') trivial trivial e hl λS a b=>⟨l,kv,rfl,a,b,bh,h.step S⟩
end
abbrev DT:=Dl->(VL->Prop)->Prop
abbrev DA:=Dl->(List VL->Prop)->Prop
abbrev DB:=Dl->(Bool->Prop)->Prop
structure hW where
 nx:Dl->Prop
 rt:VL->Prop
 bk:Dl->Prop:=λ_=>False
 ct:Dl->Prop:=λ_=>False
abbrev DS:=hW->Dl->Prop
section
variable (K:Oe) (H0:Hp) (O0:Ex)
def up(t:DT):TE:=λσ H R=>∃O δ Qd,Wd K H0 O0 H O σ δ/\t δ Qd/\∀d v H',Qd d->aw H H'->Dt K H' O v d->R v H'
def wm(t:DT):TE:=λσ H R=>∃O δ Qd,Wd K H0 O0 H O σ δ/\t δ Qd/\∀d v H',Qd d->aw H H'->Sh K H' O v d->R v H'
def fV(t:DA):TA:=λσ H R=>∃O δ Qd,Wd K H0 O0 H O σ δ/\t δ Qd/\∀ds vs H',Qd ds->aw H H'->aj K H' O vs ds->R vs H'
def bK(t:DB):TT:=λσ H R=>∃O δ Qd,Wd K H0 O0 H O σ δ/\t δ Qd/\∀b H',Qd b->aw H H'->R b H'
def bo(t:DS):TS:=λD σ H=>∃O δ E,Wd K H0 O0 H O σ δ/\t E δ/\(∀O' δ' σ' H',E.nx δ'->Wd K H0 O0 H' O' σ' δ'->aN H H' O O'->D.nx σ' H')/\(∀d v H',E.rt d->aw H0 H'->Dt K H' O0 v d->D.rt v H')/\
 (∀O' δ' σ' H',E.bk δ'->Wd K H0 O0 H' O' σ' δ'->aN H H' O O'->D.bk σ' H')/\(∀O' δ' σ' H',E.ct δ'->Wd K H0 O0 H' O' σ' δ'->aN H H' O O'->D.ct σ' H')
end
theorem PE.imp{X:Cx}{e:VV}{t u:TE}(h:PE X e t)(i:∀σ H Q,u σ H Q->t σ H Q):PE X e u:=λpins s σ H Q I z=>h pins s σ H Q I (i σ H Q z)
theorem PT.imp{X:Cx}{e:VV}{t u:TT}(h:PT X e t)(i:∀σ H Q,u σ H Q->t σ H Q):PT X e u:=λpins s σ H Q I z=>h pins s σ H Q I (i σ H Q z)
theorem PW.imp{X:Cx}{e:VV}{t u:TT}(h:PW X e t)(i:∀σ H Q,u σ H Q->t σ H Q):PW X e u:=λwh pins s σ H Q I z=>h wh pins s σ H Q I (i σ H Q z)
theorem PA.imp{X:Cx}{e:List VV}{t u:TA}(h:PA X e t)(i:∀σ H Q,u σ H Q->t σ H Q):PA X e u:=λpos pins s σ H Q I z=>h pos pins s σ H Q I (i σ H Q z)
theorem PS.imp{X:Cx}{e:V1}{t u:TS}(h:PS X e t)(i:∀D σ H,u D σ H->t D σ H):PS X e u:=λpins s σ H D I z=>h pins s σ H D I (i D σ H z)
theorem bQ.imp{X:Cx}{e:List V1}{t u:TS}(h:bQ X e t)(i:∀D σ H,u D σ H->t D σ H):bQ X e u:=λpins s σ H D I z=>h pins s σ H D I (i D σ H z)
section
variable {X:Cx} {H0:Hp} {O0:Ex}
abbrev DE(X:Cx)(H0:Hp)(O0:Ex)(e:VV)(t:DT):Prop:=PE X e (up X.K H0 O0 t)
abbrev DF(X:Cx)(H0:Hp)(O0:Ex)(e:VV)(t:DT):Prop:=PE X e (wm X.K H0 O0 t)
theorem df{e:VV}{t:DT}(h:DE X H0 O0 e t):DF X H0 O0 e t:=h.imp λσ H Q uu62=>by obtain⟨O,δ,Qd,w,q,k⟩:=uu62;exact⟨O,δ,Qd,w,q,λd v H' a b c=>k d v H' a b (.dt c)⟩
def eM(i:Nat):DT:=λδ Q=>∃d,δ[i]?=some (some (.v d))/\Q d
def iS(i:Nat):DT:=λδ Q=>∃ds,δ[i]?=some (some (.o ds))/\Q (.list ds)
def dC(d:VL):DT:=λ_ Q=>Q d
theorem dv(i:Nat){x:Str}{pos:Pos}(hN:X.N[i]?=some x:=by rfl)(hv:sk X.env.scope x:=by first | exact T9 rfl | exact SX (T9 rfl) | exact SX (SX rfl))
 (hd:(x==("__debug__":Str))=false:=by decide)(hcd:(x==("__classdict__":Str))=false:=by decide):DE X H0 O0 (.Name x pos) (eM i):=
 (vJ hN hv hd hcd).imp λσ H Q uu63=>by
  obtain⟨O,δ,Qd,w,⟨d,e,q⟩,k⟩:=uu63;obtain⟨v,h,r⟩:=w.val e;exact⟨v,h,k d v H q (aw.refl _) r⟩
theorem dw(i:Nat){x:Str}{pos:Pos}(hN:X.N[i]?=some x:=by rfl)(hv:sk X.env.scope x:=by first | exact T9 rfl | exact SX (T9 rfl) | exact SX (SX rfl))
 (hd:(x==("__debug__":Str))=false:=by decide)(hcd:(x==("__classdict__":Str))=false:=by decide):DF X H0 O0 (.Name x pos) (iS i):=
 (vJ hN hv hd hcd).imp λσ H Q uu64=>by
  obtain⟨O,δ,Qd,w,⟨ds,e,q⟩,k⟩:=uu64;obtain⟨l,vs,h,_,_,r,rs⟩:=w.own e;exact⟨_,h,k _ _ H q (aw.refl _) (.own r rs)⟩
theorem dc{e:VV}{v:V}{d:VL}(h:PE X e (tC v))(r:∀H O,Dt X.K H O v d):DE X H0 O0 e (dC d):=h.imp λσ H Q uu65=>by obtain⟨O,δ,Qd,w,q,k⟩:=uu65;exact k d v H q (aw.refl _) (r H O)
theorem ah{i j pos}:DE X H0 O0 (.Constant (.int i) j pos) (dC (.int i)):=dc sr λ_ _=>.int i
theorem z5{b j pos}:DE X H0 O0 (.Constant (.bool b) j pos) (dC (.bool b)):=dc yR λ_ _=>.bl b
theorem fE{j pos}:DE X H0 O0 (.Constant .none j pos) (dC .none):=dc Fb λ_ _=>.non
theorem aY{x j pos}:DE X H0 O0 (.Constant (.str x) j pos) (dC (.str x)):=dc Fc λ_ _=>.str x
def fW:DA:=λ_ Q=>Q []
def fX(t:DT)(u:DA):DA:=λδ Q=>t δ λd=>u δ λds=>Q (d::ds)
theorem ao:PA X [] (fV X.K H0 O0 fW):=iO.imp λσ H Q uu66=>by obtain⟨O,δ,Qd,w,q,k⟩:=uu66;exact k [] [] H q (aw.refl _) .nil
theorem aa{e:VV}{es:List VV}{t:DT}{u:DA}(h:DE X H0 O0 e t)(hs:PA X es (fV X.K H0 O0 u))(he:VT (e::es) X.env=(false,eval e X.env)::VT es X.env:=by rfl):PA X (e::es) (fV X.K H0 O0 (fX t u)):=
 (e7 h hs he).imp λσ H Q uu67=>by obtain⟨O,δ,Qd,w,q,k⟩:=uu67;exact⟨O,δ,_,w,q,λd v H1 q1 s1 r1=>⟨O,δ,_,w.mono s1,q1,λds vs H2 q2 s2 r2=>k (d::ds) (v::vs) H2 q2 (s1.trans s2) (.cons (r1.mono s2) r2)⟩⟩
def jR(t:DA):DT:=λδ Q=>t δ λds=>ds.length<=VW/\Q (.tuple ds)
theorem uA{H:Hp}{O:Ex}{σ:St}{δ:Dl}{H1:Hp}{p:VO}{K:Oe}(w:Wd K H0 O0 H O σ δ)(s:aw H H1)(hp:H1 p=none):¬O p:=λz=>(w.mono s).trk p z hp
theorem bD{es:List VV}{t:DA}{x1}{pos:Pos}(h:PA X es (fV X.K H0 O0 t)):DE X H0 O0 (.Tuple es x1 pos) (jR t):=
 (Gk h).imp λσ H Q uu68=>by obtain⟨O,δ,Qd,w,q,k⟩:=uu68;exact⟨O,δ,_,w,q,λds vs H1 q1 s1 r1=>⟨by rw [r1.length];exact q1.1,λp hp=>k _ _ _ q1.2 (s1.trans (aw.new hp)) (.tup (.inl bh) (uA w s1 hp) (r1.mono (aw.new hp)))⟩⟩
end
open PySem PySem.Spec PyProof.Rows PySem.W
theorem aN.refl(H:Hp)(O:Ex):aN H H O O:=⟨λ_ _ e _=>e,λ_ _ n=>n⟩
theorem aN.trans{H H1 H2:Hp}{O O1 O2:Ex}(a:aN H H1 O O1)(b:aN H1 H2 O1 O2):aN H H2 O O2:=by
 refine⟨λc o e n=>?_,λc e n=>?_⟩
 ·have h1:=a.keep c o e n;exact b.keep c o h1 (a.out c (by rw [e];exact λz=>nomatch z) n)
 ·cases q:H c with
  | none=>exact absurd q e
  | some o=>exact b.out c (by rw [a.keep c o q n];exact λz=>nomatch z) (a.out c e n)
section
variable {X:Cx} {H0:Hp} {O0:Ex}
def cu(K:Oe)(r:R2)(rd:VL->VL->(VL->Prop)->Prop):Prop:=
 ∀(H:Hp)(O:Ex)(x y:V)(dx dy:VL)(Qd:VL->Prop)(R:VK),(∀l,O l->H l≠none)->Sh K H O x dx->Sh K H O y dy->rd dx dy Qd->(∀d v H',Qd d->aw H H'->Dt K H' O v d->R v H')->r x y H R
def cK(rd:VL->VL->(VL->Prop)->Prop)(ta tb:DT):DT:=λδ Q=>ta δ λx=>tb δ λy=>rd x y Q
theorem uB{K:Oe}{r:R2}{rd:VL->VL->(VL->Prop)->Prop}{ta tb:DT}(hd:cu K r rd):∀σ H Q,up K H0 O0 (cK rd ta tb) σ H Q->qZ r (wm K H0 O0 ta) (wm K H0 O0 tb) σ H Q:=
 λσ H Q uu69=>by obtain⟨O,δ,Qd,w,q,k⟩:=uu69;exact⟨O,δ,_,w,q,λx v H1 q1 s1 r1=>⟨O,δ,_,w.mono s1,q1,λy u H2 q2 s2 r2=>hd H2 O v u x y Qd _ (w.mono (s1.trans s2)).trk (r1.mono s2) r2 q2 λd z H3 qd s3 r3=>k d z H3 qd (s1.trans (s2.trans s3)) r3⟩⟩
theorem aH{a b:VV}{ta tb:DT}{op:Operator}{r:R2}{rd:VL->VL->(VL->Prop)->Prop}{pos:Pos}(ho:bH X (Wm op) r)(hd:cu X.K r rd)(ha:DF X H0 O0 a ta)(hb:DF X H0 O0 b tb):DE X H0 O0 (.BinOp a op b pos) (cK rd ta tb):=(zj ho ha hb).imp (uB hd)
theorem fF{a b:VV}{ta tb:DT}{op:CmpOp}{r:R2}{rd:VL->VL->(VL->Prop)->Prop}{pos:Pos}(ho:bH X (V8 op) r)(hd:cu X.K r rd)(ha:DF X H0 O0 a ta)(hb:DF X H0 O0 b tb)(hm:Wg op b=false):DE X H0 O0 (.Compare a [op] [b] pos) (cK rd ta tb):=(FL ho ha hb hm).imp (uB hd)
def dM(t:DT):DB:=λδ Q=>t δ λd=>∃b,d= .bool b/\Q b
theorem aQ{a b:VV}{ta tb:DT}{op:CmpOp}{r:R2}{rd:VL->VL->(VL->Prop)->Prop}{pos:Pos}(ho:bH X (V8 op) r)(hd:cu X.K r rd)(ha:DF X H0 O0 a ta)(hb:DF X H0 O0 b tb)(hm:Wg op b=false):PT X (.Compare a [op] [b] pos) (bK X.K H0 O0 (dM (cK rd ta tb))):=
 (FN ho ha hb hm).imp λσ H Q uu70=>by obtain⟨O,δ,Qd,w,q,k⟩:=uu70;exact uB hd σ H _ ⟨O,δ,_,w,q,λd v H' uu71 s r=>by obtain⟨b,e,qb⟩:=uu71;subst e;cases r;exact⟨b,rfl,k b H' qb s⟩⟩
theorem qw{e:VV}{t:DT}(h:DE X H0 O0 e t)(he:∀whole,isTrue e X.env whole=(do let v<-whole;W0 e.pos;WR [v] (truthy v)):=by intro _;rfl):PT X e (bK X.K H0 O0 (dM t)):=
 (Ff h he).imp λσ H Q uu72=>by obtain⟨O,δ,Qd,w,q,k⟩:=uu72;exact⟨O,δ,_,w,q,λd v H' uu73 s r=>by obtain⟨b,e,qb⟩:=uu73;subst e;cases r;exact⟨b,rfl,k b H' qb s⟩⟩
def jS(t u:DB):DB:=λδ Q=>t δ λc=>if c=true then u δ Q else Q false
def jT(t u:DB):DB:=λδ Q=>t δ λc=>if c=true then Q true else u δ Q
def jU(t:DB):DB:=λδ Q=>t δ λc=>Q (!c)
theorem fG{a:VV}{t:DB}{pos:Pos}(h:PT X a (bK X.K H0 O0 t)):PW X (.BoolOp .And [a] pos) (bK X.K H0 O0 t):=Fg h
theorem sO{a:VV}{t:DB}{pos:Pos}(h:PT X a (bK X.K H0 O0 t)):PW X (.BoolOp .Or [a] pos) (bK X.K H0 O0 t):=Fh h
theorem fH{a b:VV}{rest:List VV}{t u:DB}{pos:Pos}(h:PT X a (bK X.K H0 O0 t))(hb:PW X (.BoolOp .And (b::rest) pos) (bK X.K H0 O0 u)):PW X (.BoolOp .And (a::b::rest) pos) (bK X.K H0 O0 (jS t u)):=
 (Fi h hb).imp λσ H Q uu74=>by obtain⟨O,δ,Qd,w,q,k⟩:=uu74;exact⟨O,δ,_,w,q,λc H1 q1 s1=>by
  cases c with
  | true=>exact⟨O,δ,_,w.mono s1,q1,λb H2 q2 s2=>k b H2 q2 (s1.trans s2)⟩
  | false=>exact k false H1 q1 s1⟩
theorem sP{a b:VV}{rest:List VV}{t u:DB}{pos:Pos}(h:PT X a (bK X.K H0 O0 t))(hb:PW X (.BoolOp .Or (b::rest) pos) (bK X.K H0 O0 u)):PW X (.BoolOp .Or (a::b::rest) pos) (bK X.K H0 O0 (jT t u)):=
 (Fj h hb).imp λσ H Q uu75=>by obtain⟨O,δ,Qd,w,q,k⟩:=uu75;exact⟨O,δ,_,w,q,λc H1 q1 s1=>by
  cases c with
  | false=>exact⟨O,δ,_,w.mono s1,q1,λb H2 q2 s2=>k b H2 q2 (s1.trans s2)⟩
  | true=>exact k true H1 q1 s1⟩
theorem wq{a:VV}{t:DB}{pos:Pos}(h:PT X a (bK X.K H0 O0 t)):PT X (.UnaryOp .Not a pos) (bK X.K H0 O0 (jU t)):=
 (Fl h).imp λσ H Q uu76=>by obtain⟨O,δ,Qd,w,q,k⟩:=uu76;exact⟨O,δ,_,w,q,λc H1 q1 s1=>k (!c) H1 q1 s1⟩
def jV(t u:DT):DT:=λδ Q=>t δ λd=>∃c,d= .bool c/\if c=true then u δ Q else Q (.bool false)
theorem wt{op}{a:VV}{t:DT}{pos:Pos}(h:DE X H0 O0 a t):DE X H0 O0 (.BoolOp op [a] pos) t:=Fm h
theorem uC{a b:VV}{rest:List VV}{t u:DT}{pos:Pos}(h:DE X H0 O0 a t)(hb:DE X H0 O0 (.BoolOp .And (b::rest) pos) u):DE X H0 O0 (.BoolOp .And (a::b::rest) pos) (jV t u):=
 (Fn h hb).imp λσ H Q ⟨O,δ,Qd,w,q,k⟩=>⟨O,δ,_,w,q,λd v H1 uu78 s1 r=>by
  obtain⟨c,e,q1⟩:=uu78;subst e;cases r;refine⟨c,rfl,?_⟩;cases c with
  | true=>exact⟨O,δ,_,w.mono s1,q1,λd v H2 q2 s2 r2=>k d v H2 q2 (s1.trans s2) r2⟩
  | false=>exact k _ _ H1 q1 s1 (.bl false)⟩
def jW(c:DB)(t u:DT):DT:=λδ Q=>c δ λb=>if b=true then t δ Q else u δ Q
theorem sQ{c a b:VV}{tc:DB}{t u:DT}{pos:Pos}(hc:PT X c (bK X.K H0 O0 tc))(ha:DE X H0 O0 a t)(hb:DE X H0 O0 b u):DE X H0 O0 (.IfExp c a b pos) (jW tc t u):=
 (Fo hc ha hb).imp λσ H Q uu79=>by obtain⟨O,δ,Qd,w,q,k⟩:=uu79;exact⟨O,δ,_,w,q,λc H1 q1 s1=>by
  cases c with
  | true=>exact⟨O,δ,_,w.mono s1,q1,λd v H2 q2 s2 r2=>k d v H2 q2 (s1.trans s2) r2⟩
  | false=>exact⟨O,δ,_,w.mono s1,q1,λd v H2 q2 s2 r2=>k d v H2 q2 (s1.trans s2) r2⟩⟩
def ba(K:Oe)(F:List VL->(VL->Prop)->Prop):Sp:=λvs H Q _=>∃O ds Qd,(∀l,O l->H l≠none)/\aj K H O vs ds/\F ds Qd/\∀d v H',Qd d->aw H H'->Dt K H' O v d->Q v H'
def fY(F:List VL->(VL->Prop)->Prop)(t:DA):DT:=λδ Q=>t δ λds=>F ds Q
theorem aS{K:Oe}{F:List VL->(VL->Prop)->Prop}{t:DA}{E:XK}:∀σ H Q,up K H0 O0 (fY F t) σ H Q->vZ (ba K F) [] E (fV K H0 O0 t) σ H Q:=
 λσ H Q uu80=>by obtain⟨O,δ,Qd,w,q,k⟩:=uu80;exact⟨O,δ,_,w,q,λds vs H1 q1 s1 r1=>⟨O,ds,Qd,(w.mono s1).trk,by rw [Pg];exact r1,q1,λd v H2 q2 s2 r2=>k d v H2 q2 (s1.trans s2) r2⟩⟩
inductive rg (K:Oe) (H:Hp) (O:Ex):List V->List VL->Prop
 | nil:rg K H O [] []
 | cons {v:V} {d:VL} {vs:List V} {ds:List VL}:Sh K H O v d->rg K H O vs ds->rg K H O (v::vs) (d::ds)
def gI(K:Oe)(H0:Hp)(O0:Ex)(t:DA):TA:=λσ H R=>∃O δ Qd,Wd K H0 O0 H O σ δ/\t δ Qd/\∀ds vs H',Qd ds->aw H H'->rg K H' O vs ds->R vs H'
theorem bC:PA X [] (gI X.K H0 O0 fW):=iO.imp λσ H Q uu81=>by obtain⟨O,δ,Qd,w,q,k⟩:=uu81;exact k [] [] H q (aw.refl _) .nil
theorem bu{e:VV}{es:List VV}{t:DT}{u:DA}(h:DF X H0 O0 e t)(hs:PA X es (gI X.K H0 O0 u))(he:VT (e::es) X.env=(false,eval e X.env)::VT es X.env:=by rfl):PA X (e::es) (gI X.K H0 O0 (fX t u)):=
 (e7 h hs he).imp λσ H Q uu82=>by obtain⟨O,δ,Qd,w,q,k⟩:=uu82;exact⟨O,δ,_,w,q,λd v H1 q1 s1 r1=>⟨O,δ,_,w.mono s1,q1,λds vs H2 q2 s2 r2=>k (d::ds) (v::vs) H2 q2 (s1.trans s2) (.cons (r1.mono s2) r2)⟩⟩
def mQ(K:Oe)(r:List V->Hp->VK->Prop)(rd:List VL->(VL->Prop)->Prop):Prop:=
 ∀(H:Hp)(O:Ex)(xs:List V)(ds:List VL)(Qd:VL->Prop)(R:VK),(∀l,O l->H l≠none)->rg K H O xs ds->rd ds Qd->(∀d v H',Qd d->aw H H'->Dt K H' O v d->R v H')->r xs H R
theorem bU{K:Oe}{r:List V->Hp->VK->Prop}{rd:List VL->(VL->Prop)->Prop}{t:DA}(hd:mQ K r rd):∀σ H Q,up K H0 O0 (fY rd t) σ H Q->uh r (gI K H0 O0 t) σ H Q:=
 λσ H Q uu83=>by obtain⟨O,δ,Qd,w,q,k⟩:=uu83;exact⟨O,δ,_,w,q,λds vs H1 q1 s1 r1=>hd H1 O vs ds Qd _ (w.mono s1).trk r1 q1 λd v H2 q2 s2 r2=>k d v H2 q2 (s1.trans s2) r2⟩
def iT(t u:DS):DS:=λE δ=>t {E with nx:=u E} δ
theorem aq{st:V1}{rest:List V1}{t u:DS}(h:PS X st (bo X.K H0 O0 t))(h2:bQ X rest (bo X.K H0 O0 u)):bQ X (st::rest) (bo X.K H0 O0 (iT t u)):=
 (tP h h2).imp λD σ H uu84=>by obtain⟨O,δ,E,w,q,k1,k2,k3,k4⟩:=uu84;exact⟨O,δ,_,w,q,λO' δ' σ' H' z w' S=>⟨O',δ',E,w',z,λO2 δ2 σ2 H2 z2 w2 S2=>k1 O2 δ2 σ2 H2 z2 w2 (S.trans S2),k2,λO2 δ2 σ2 H2 z2 w2 S2=>k3 O2 δ2 σ2 H2 z2 w2 (S.trans S2),λO2 δ2 σ2 H2 z2 w2 S2=>k4 O2 δ2 σ2 H2 z2 w2 (S.trans S2)⟩,k2,k3,k4⟩
def jX:DS:=λE δ=>E.nx δ
theorem bE:bQ X [] (bo X.K H0 O0 jX):=yZ.imp λD σ H uu85=>by obtain⟨O,δ,E,w,q,k1,k2,k3,k4⟩:=uu85;exact k1 O δ σ H q w (aN.refl _ _)
theorem aA{st:V1}{t:DS}(h:PS X st (bo X.K H0 O0 t)):bQ X [st] (bo X.K H0 O0 t):=vM h
def iU(i:Nat)(t:DT):DS:=λE δ=>t δ λd=>E.nx (δ.set i (some (.v d)))
theorem bw{i:Nat}{x:Str}{e:VV}{t:DT}{pos pos':Pos}(hN:X.N.Nodup)(hi:X.N[i]?=some x)(hx:gC X.env.scope x)(he:DE X H0 O0 e t)(hs:V6 e (some (.Name x pos')) pos.line X.env=pure false:=by rfl)(hf:X.fn x=true\/X.env.scope.names.lookup x=some .local:=by first | exact .inl rfl | exact .inr rfl | assumption):
 PS X (.Assign [.Name x pos'] e pos) (bo X.K H0 O0 (iU i t)):=
 (tU hN hi hx he hs hf).imp λD σ H uu86=>by obtain⟨O,δ,E,w,q,k1,k2,k3,k4⟩:=uu86;exact⟨O,δ,_,w,q,λd v H1 q1 s1 r1=>k1 O _ _ H1 q1 ((w.mono s1).set r1) (.same s1)⟩
def iV(t:DT):DS:=λE δ=>t δ E.rt
theorem d7{K:Oe}{H:Hp}{O:Ex}{σ:St}{δ:Dl}(w:Wd K H0 O0 H O σ δ):aN H H O O0:=⟨λ_ _ e _=>e,λb _ n z=>n (w.sub b z)⟩
theorem aU{e:VV}{t:DT}{pos:Pos}(he:DE X H0 O0 e t):PS X (.Return (some e) pos) (bo X.K H0 O0 (iV t)):=
 (zc he).imp λD σ H uu87=>by obtain⟨O,δ,E,w,q,k1,k2,k3,k4⟩:=uu87;exact⟨O,δ,_,w,q,λd v H1 q1 s1 r1=>k2 d v H1 q1 (w.same.trans s1) (r1.step (d7 (w.mono s1)))⟩
def hZ(i:Nat):DS:=λE δ=>∃ds,δ[i]?=some (some (.o ds))/\E.rt (.list ds)
theorem sR{e:VV}{i:Nat}{pos:Pos}(he:PE X e (cJ i)):PS X (.Return (some e) pos) (bo X.K H0 O0 (hZ i)):=
 (zc he).imp λD σ H uu88=>by
  obtain⟨O,δ,E,w,⟨ds,e,q⟩,k1,k2,k3,k4⟩:=uu88;obtain⟨l,vs,h,a,b,c,r⟩:=w.own e;exact⟨_,h,k2 _ _ H q w.same (.lst (.inl c) b (r.step (d7 w)))⟩
def jY(c:DB)(t u:DS):DS:=λE δ=>c δ λb=>if b=true then t E δ else u E δ
theorem bF{c:VV}{a b:List V1}{tc:DB}{t u:DS}{pos:Pos}(hc:PT X c (bK X.K H0 O0 tc))(ha:bQ X a (bo X.K H0 O0 t))(hb:bQ X b (bo X.K H0 O0 u)):PS X (.If c a b pos) (bo X.K H0 O0 (jY tc t u)):=
 (ze hc ha hb).imp λD σ H uu89=>by obtain⟨O,δ,E,w,q,k1,k2,k3,k4⟩:=uu89;exact⟨O,δ,_,w,q,λc H1 q1 s1=>by
  have g:∀{t':DS},t' E δ->bo X.K H0 O0 t' D σ H1:=λz=>⟨O,δ,E,w.mono s1,z,λO2 δ2 σ2 H2 z2 w2 S2=>k1 O2 δ2 σ2 H2 z2 w2 (aN.trans (.same s1) S2),k2,λO2 δ2 σ2 H2 z2 w2 S2=>k3 O2 δ2 σ2 H2 z2 w2 (aN.trans (.same s1) S2),λO2 δ2 σ2 H2 z2 w2 S2=>k4 O2 δ2 σ2 H2 z2 w2 (aN.trans (.same s1) S2)⟩;cases c with
  | true=>exact g q1
  | false=>exact g q1⟩
def qx(K:Oe)(H0:Hp)(O0:Ex)(t:DA):TE:=λσ H R=>∃O δ Qd,Wd K H0 O0 H O σ δ/\t δ Qd/\∀ds vs p H',Qd ds->aw H H'->H' p=none->aj K H' O vs ds->R (.ref p) (ai H' p (.lst vs))
abbrev FE(X:Cx)(H0:Hp)(O0:Ex)(e:VV)(t:DA):Prop:=PE X e (qx X.K H0 O0 t)
def dL(t:DA):DT:=λδ Q=>t δ λds=>Q (.list ds)
theorem fe{e:VV}{t:DA}(h:FE X H0 O0 e t):DE X H0 O0 e (dL t):=
 h.imp λσ H Q uu90=>by obtain⟨O,δ,Qd,w,q,k⟩:=uu90;exact⟨O,δ,_,w,q,λds vs p H1 q1 s1 hp r1=>k _ _ _ q1 (s1.trans (aw.new hp)) (.lst (.inl bh) (uA w s1 hp) (r1.mono (aw.new hp)))⟩
def iW(t:DA):DA:=λδ Q=>t δ λds=>ds.length<=VW/\Q ds
theorem dN{es:List VV}{t:DA}{pos:Pos}(h:PA X es (fV X.K H0 O0 t)):FE X H0 O0 (.List es pos) (iW t):=
 (Gm h).imp λσ H Q uu91=>by obtain⟨O,δ,Qd,w,q,k⟩:=uu91;exact⟨O,δ,_,w,q,λds vs H1 q1 s1 r1=>⟨by rw [r1.length];exact q1.1,λp hp=>k _ _ _ _ q1.2 s1 hp r1⟩⟩
def h7(i:Nat)(t:DA):DS:=λE δ=>t δ λds=>E.nx (δ.set i (some (.o ds)))
theorem ia{i:Nat}{x:Str}{e:VV}{t:DA}{pos pos':Pos}(hN:X.N.Nodup)(hi:X.N[i]?=some x)(hx:gC X.env.scope x)(he:FE X H0 O0 e t)(hs:V6 e (some (.Name x pos')) pos.line X.env=pure false:=by rfl)(hf:X.fn x=true\/X.env.scope.names.lookup x=some .local:=by first | exact .inl rfl | exact .inr rfl | assumption):
 PS X (.Assign [.Name x pos'] e pos) (bo X.K H0 O0 (h7 i t)):=
 (tU hN hi hx he hs hf).imp λD σ H ⟨O,δ,E,w,q,k1,k2,k3,k4⟩=>⟨O,δ,_,w,q,λds vs p H1 q1 s1 hp r1=>k1 _ _ _ _ q1 ((w.mono s1).setO hp r1)
  ⟨λb o e _=>(s1.trans (aw.new hp)) b o e,λb e n z=>z.elim n λy=>by
   cases q:H b with
   | none=>exact e q
   | some o=>have:=s1 _ _ q;rw [y,hp] at this;cases this⟩⟩
def jZ(i:Nat)(t:DT):DS:=λE δ=>∃ds,δ[i]?=some (some (.o ds))/\t δ λd=>ds.length < VW/\E.nx (δ.set i (some (.o (ds++[d]))))
theorem j0{i:Nat}{o e:VV}{t:DT}{apos cpos pos:Pos}(ho:PE X o (cJ i))(he:DE X H0 O0 e t)(hbase:Wi o "append" X.env (eval o X.env)=eval o X.env:=by rfl)
 (hfew:((V5 cpos (VT [e] X.env)).all (λx=>!x.1) && (Wv cpos (Wl [] X.env)).all (λx=>x.1.isSome) && decide ([e].length+([]:List WB).length+(if ([]:List WB).isEmpty then 0 else 1) < 30))=true:=by rfl)
 (hline:(apos.endLine==cpos.line)=true:=by rfl)(hst:VT [e] X.env=(false,eval e X.env)::VT [] X.env:=by rfl)(hplain:(V5 cpos (VT [] X.env)).any (·.1)=false:=by rfl)
 (hs:V6 (.Call (.Attribute o "append" apos) [e] [] cpos) none pos.line X.env=pure false:=by rfl):PS X (.Expr (.Call (.Attribute o "append" apos) [e] [] cpos) pos) (bo X.K H0 O0 (jZ i t)):=
 (tQ (wb SF PySem.F.slot_list_append PySem.F.type_list_append zP ho (e7 he iO hst) hbase hfew hline hst hplain) hs).imp λD σ H uu93=>by
  obtain⟨O,δ,E,w,⟨ds,e,q⟩,k1,k2,k3,k4⟩:=uu93;obtain⟨l,vs,h,a,b,c,r⟩:=w.own e;refine⟨_,h,.inl ⟨rfl,_,bg.of c⟩,O,δ,_,w,q,λd v H1 q1 s1 r1=>?_⟩;refine⟨l,vs,v,rfl,rfl,s1 _ _ c,by rw [r.length];exact q1.1,?_⟩;exact k1 _ _ _ _ q1.2 ((w.mono s1).putO (vs:=vs) e h ((r.mono s1).append (.cons r1 .nil))) ⟨λb' o' z n=>by rw [az (λy=>n (by rw [y];exact a))];exact s1 _ _ z,λ_ _ n=>n⟩
end
open PySem PySem.Spec PyProof.Rows PySem.W
structure cy (J:It) (P:Hp->Prop) (vs:List V):Prop where
 go:∀i H',P H'->i < vs.length->J.go i H'
 yl:∀i H' x H'',P H'->i < vs.length->J.yld i H' x H''->H''=H'/\vs[i]?=some x
 st:∀i H',P H'->vs.length<=i->J.stop i H'
def ri(H1:Hp)(a:VO)(H':Hp):Prop:=∀o,H1 a=some o->H' a=some o
theorem bg.keep{K:Oe}{H H':Hp}{a:VO}{xs:List V}(s:ri H a H')(h:bg K H a xs):bg K H' a xs:=by
 rcases h with(h | ⟨o,h⟩) | h
 ·exact .inl (.inl (s _ h))
 ·exact .inl (.inr ⟨o,s _ h⟩)
 ·exact .inr h
theorem bz.keep{K:Oe}{H H':Hp}{a:VO}{xs:List V}(s:ri H a H')(h:bz K H a xs):bz K H' a xs:=by
 rcases h with(h | ⟨o,h⟩) | h
 ·exact .inl (.inl (s _ h))
 ·exact .inl (.inr ⟨o,s _ h⟩)
 ·exact .inr h
theorem cy.list{K:Oe}{H:Hp}{a:VO}{vs:List V}(h:bg K H a vs):cy (qY K a) (ri H a) vs:=
 ⟨λi H' s hi=>⟨vs,vs[i],h.keep s,by simp [hi]⟩,λi H' x H'' s _ y=>⟨y.1,y.2 vs (h.keep s)⟩,λi H' s hi=>⟨vs,h.keep s,hi⟩⟩
theorem cy.tup{K:Oe}{H:Hp}{a:VO}{vs:List V}(h:bz K H a vs):cy (sC K a) (ri H a) vs:=
 ⟨λi H' s hi=>⟨vs,vs[i],h.keep s,by simp [hi]⟩,λi H' x H'' s _ y=>⟨y.1,y.2 vs (h.keep s)⟩,λi H' s hi=>⟨vs,h.keep s,hi⟩⟩
def qy(lo:Int)(n:Nat):List VL:=(Qa n).map λ(k:Nat)=>.int (lo+k)
theorem cy.rng{lo:Int}{n:Nat}:cy (jP lo n) (λ_=>True) ((Qa n).map λ(k:Nat)=>V.int (lo+k)):=by
 refine⟨λi H' s hi=>(by simpa using hi:i < n),λi H' x H'' s hi y=>⟨y.1,?_⟩,λi H' s hi=>(by simpa using hi:n<=i)⟩;obtain⟨_,rfl⟩:=y;have hn:i < n:=by simpa using hi
 simp [hn]
theorem aj.rng{K:Oe}{H:Hp}{O:Ex}{lo:Int}:∀(l:List Nat),aj K H O (l.map λ(k:Nat)=>V.int (lo+k)) (l.map λ(k:Nat)=>OZ (lo+k))
 | []=>.nil
 | n::r=>.cons (.int _) (aj.rng r)
abbrev DG:=VL->Dl->(Dl->Prop)->Prop
def GD(K:Oe)(g:TG)(dg:DG):Prop:=∀(H0:Hp)(O0:Ex)(H:Hp)(O:Ex)(σ:St)(δ:Dl)(v:V)(x:VL)(R:St->Hp->Prop)(Qd:Dl->Prop),Wd K H0 O0 H O σ δ->Dt K H O v x->dg x δ Qd->(∀δ' σ',Qd δ'->Wd K H0 O0 H O σ' δ'->R σ' H)->g v σ H R
def iX(i:Nat):DG:=λx δ Q=>Q (δ.set i (some (.v x)))
theorem aO{K:Oe}{i:Nat}:GD K (jO i) (iX i):=λH0 O0 H O σ δ v x R Qd w r q k=>k _ _ q (w.set r)
abbrev qz:=List VL->Dl->(Dl->Prop)->Prop
def uD(K:Oe)(g:iK)(dg:qz):Prop:=∀(H0:Hp)(O0:Ex)(H:Hp)(O:Ex)(σ:St)(δ:Dl)(vs:List V)(xs:List VL)(R:St->Hp->Prop)(Qd:Dl->Prop),Wd K H0 O0 H O σ δ->aj K H O vs xs->dg xs δ Qd->(∀δ' σ',Qd δ'->Wd K H0 O0 H O σ' δ'->R σ' H)->g vs σ H R
def j1:qz:=λxs δ Q=>xs=[]/\Q δ
def j2(t:DG)(u:qz):qz:=λxs δ Q=>∃x r,xs=x::r/\t x δ λδ'=>u r δ' Q
theorem ib{K:Oe}:uD K tS j1:=λH0 O0 H O σ δ vs xs R Qd w r uu94 k=>by obtain⟨e,q⟩:=uu94;subst e;cases r;exact⟨rfl,k _ _ q w⟩
theorem cf{K:Oe}{t:TG}{u:iK}{dt:DG}{du:qz}(h:GD K t dt)(h2:uD K u du):uD K (su t u) (j2 dt du):=λH0 O0 H O σ δ vs xs R Qd w r uu95 k=>by
 obtain⟨x,rr,e,q⟩:=uu95;subst e;cases r with
 | cons r1 r2=>exact⟨_,_,rfl,h H0 O0 H O σ δ _ _ _ _ w r1 q λδ' σ' q' w'=>h2 H0 O0 H O σ' δ' _ _ R Qd w' r2 q' k⟩
def j3(n:Nat)(t:qz):DG:=λx δ Q=>∃xs,x= .tuple xs/\xs.length=n/\t xs δ Q
theorem ic{K:Oe}{n:Nat}{t:iK}{dt:qz}(h:uD K t dt):GD K (tT K n t) (j3 n dt):=λH0 O0 H O σ δ v x R Qd w r uu96 k=>by
 obtain⟨xs,e,hl,q⟩:=uu96;subst e;obtain⟨a,vs,rfl,hs,rr⟩:=(Sh.dt r).tup;exact⟨a,vs,rfl,hs,by rw [rr.length];exact hl,h H0 O0 H O σ δ _ _ R Qd w rr q k⟩
section
variable {X:Cx} {H0:Hp} {O0:Ex}
def j4(t:DT)(g:DG):DS:=λE δ=>t δ λd=>g d δ E.nx
theorem Ht{tg e:VV}{t:DT}{g:TG}{dg:DG}{pos:Pos}(he:DE X H0 O0 e t)(hg:PG X tg g)(gd:GD X.K g dg)(hs:Xj [tg] e pos.line X.env=pure false:=by rfl)(hw:Xk [tg] e X.env=pure none:=by rfl)
 (h1:(WS [tg] X.env).map (·.2)=[assign tg X.env]:=by rfl):PS X (.Assign [tg] e pos) (bo X.K H0 O0 (j4 t dg)):=
 (Ft he hg hs hw h1).imp λD σ H uu0=>by obtain⟨O,δ,E,w,q,k1,k2,k3,k4⟩:=uu0;exact⟨O,δ,_,w,q,λd v H1 q1 s1 r1=>gd H0 O0 H1 O σ δ v d _ _ (w.mono s1) r1 q1 λδ' σ' q' w'=>k1 O δ' σ' H1 q' w' (.same s1)⟩
def j5(i j:Nat)(t:DA):DS:=λE δ=>t δ λds=>∃x y,ds=[x,y]/\E.nx ((δ.set i (some (.v x))).set j (some (.v y)))
theorem Hu{i j:Nat}{x y:Str}{a b:VV}{ta:DA}{px py pt pos:Pos}{kt k2 pt2}(hc:X.calm=true)(hN:X.N.Nodup)(hi:X.N[i]?=some x)(hj:X.N[j]?=some y)(hij:i≠j)
 (hx:X.env.scope.names.lookup x=some .local)(hy:X.env.scope.names.lookup y=some .local)(ha:PA X [a,b] (fV X.K H0 O0 ta))
 (hw:Xk [.Tuple [.Name x px,.Name y py] kt pt] (.Tuple [a,b] k2 pt2) X.env=pure (some [x,y]))
 (hs:Xj [.Tuple [.Name x px,.Name y py] kt pt] (.Tuple [a,b] k2 pt2) pos.line X.env=pure false:=by rfl):
 PS X (.Assign [.Tuple [.Name x px,.Name y py] kt pt] (.Tuple [a,b] k2 pt2) pos) (bo X.K H0 O0 (j5 i j ta)):=
 (Fv hc hN hi hj hij hx hy ha hw hs).imp λD σ H uu1=>by obtain⟨O,δ,E,w,q,k1,k2,k3,k4⟩:=uu1;exact⟨O,δ,_,w,q,λds vs H1 uu2 s1 r1=>by
  obtain⟨d1,d2,e,q1⟩:=uu2;subst e;cases r1 with
  | cons r1 r2=>
   cases r2 with
   | cons r2 r3=>
    cases r3;exact⟨_,_,rfl,k1 _ _ _ _ q1 (((w.mono s1).set r1).set r2) (.same s1)⟩⟩
def fZ(g:DG)(tb:DS)(E:hW):List VL->Dl->Prop
 | [],δ=>E.nx δ
 | x::xs,δ=>g x δ λδ2=>tb {E with nx:=fZ g tb E xs,ct:=fZ g tb E xs,bk:=E.nx} δ2
theorem Oa{K:Oe}{J:It}{P:Hp->Prop}{vs:List V}{xs:List VL}{g:TG}{dg:DG}{tb:DS}{D:mL}{E:hW}{σ:St}{H:Hp}{O:Ex}{δ:Dl}(S:cy J P vs)(gd:GD K g dg)
 (hP:∀H' O',aN H H' O O'->P H')(r:aj K H O vs xs)(w:Wd K H0 O0 H O σ δ)(q:fZ dg tb E xs δ)
 (k1:∀O' δ' σ' H',E.nx δ'->Wd K H0 O0 H' O' σ' δ'->aN H H' O O'->D.nx σ' H')(k2:∀d v H',E.rt d->aw H0 H'->Dt K H' O0 v d->D.rt v H'):FR J g (bo K H0 O0 tb) D σ H:=by
 refine⟨λi m σ' H'=>∃O' δ',m=vs.length - i/\i<=vs.length/\Wd K H0 O0 H' O' σ' δ'/\aN H H' O O'/\fZ dg tb E (xs.drop i) δ',⟨vs.length,O,δ,by simp,Pe _,w,aN.refl _ _,by simpa using q⟩,?_⟩;rintro i m σ1 H1 ⟨O1,δ1,rfl,hi,w1,S1,q1⟩;by_cases hlt:i < vs.length
 ·refine .inr ⟨S.go i H1 (hP _ _ S1) hlt,λσ' H'=>∃O' δ',Wd K H0 O0 H' O' σ' δ'/\aN H H' O O'/\fZ dg tb E (xs.drop (i+1)) δ',λσ' H' uu3=>by obtain⟨O',δ',w',S',q'⟩:=uu3;exact⟨vs.length - (i+1),VH,O',δ',rfl,hlt,w',S',q'⟩,λx H' y=>?_⟩;have yy:=S.yl i H1 x H' (hP _ _ S1) hlt y;clear y;obtain⟨e,y⟩:=yy;subst e;obtain⟨d,ed,rd⟩:=r.get y;have hd:xs.drop i=d::xs.drop (i+1):=by
   rw [Sj (h:=(OB.mp ed).1),(OB.mp ed).2]
  rw [hd] at q1;refine gd H0 O0 _ O1 σ1 δ1 x d _ _ w1 (rd.step S1) q1 λδ2 σ2 q2 w2=>?_;refine⟨O1,δ2,_,w2,q2,λO' δ' σ' H' z w' S'=>⟨O',δ',w',S1.trans S',z⟩,k2,λO' δ' σ' H' z w' S'=>k1 O' δ' σ' H' z w' (S1.trans S'),λO' δ' σ' H' z w' S'=>⟨O',δ',w',S1.trans S',z⟩⟩
 ·have e:i=vs.length:=VH
  subst e;refine .inl ⟨S.st _ H1 (hP _ _ S1) (Oj _),?_⟩;rw [r.length,T6 (Oj _)] at q1;exact k1 O1 δ1 σ1 H1 q1 w1 S1
def j6(g:DG)(tb:DS)(E:hW)(xs:List VL)(δ:Dl):Prop:=∃I:Nat->Dl->Prop,I 0 δ/\(∀i x δ,xs[i]?=some x->I i δ->g x δ λδ2=>tb {E with nx:=I (i+1),ct:=I (i+1),bk:=E.nx} δ2)/\∀δ,I xs.length δ->E.nx δ
theorem uE{K:Oe}{J:It}{P:Hp->Prop}{vs:List V}{xs:List VL}{g:TG}{dg:DG}{tb:DS}{D:mL}{E:hW}{σ:St}{H:Hp}{O:Ex}{δ:Dl}(S:cy J P vs)(gd:GD K g dg)
 (hP:∀H' O',aN H H' O O'->P H')(r:aj K H O vs xs)(w:Wd K H0 O0 H O σ δ)(q:j6 dg tb E xs δ)
 (k1:∀O' δ' σ' H',E.nx δ'->Wd K H0 O0 H' O' σ' δ'->aN H H' O O'->D.nx σ' H')(k2:∀d v H',E.rt d->aw H0 H'->Dt K H' O0 v d->D.rt v H'):FR J g (bo K H0 O0 tb) D σ H:=by
 obtain⟨Iv,q0,qs,qe⟩:=q;refine⟨λi m σ' H'=>∃O' δ',m=vs.length - i/\i<=vs.length/\Wd K H0 O0 H' O' σ' δ'/\aN H H' O O'/\Iv i δ',⟨vs.length,O,δ,by simp,Pe _,w,aN.refl _ _,q0⟩,?_⟩;rintro i m σ1 H1 ⟨O1,δ1,rfl,hi,w1,S1,q1⟩;by_cases hlt:i < vs.length
 ·refine .inr ⟨S.go i H1 (hP _ _ S1) hlt,λσ' H'=>∃O' δ',Wd K H0 O0 H' O' σ' δ'/\aN H H' O O'/\Iv (i+1) δ',λσ' H' uu4=>by obtain⟨O',δ',w',S',q'⟩:=uu4;exact⟨vs.length - (i+1),VH,O',δ',rfl,hlt,w',S',q'⟩,λx H' y=>?_⟩;have yy:=S.yl i H1 x H' (hP _ _ S1) hlt y;clear y;obtain⟨e,y⟩:=yy;subst e;obtain⟨d,ed,rd⟩:=r.get y;refine gd H0 O0 _ O1 σ1 δ1 x d _ _ w1 (rd.step S1) (qs i d δ1 ed q1) λδ2 σ2 q2 w2=>?_;refine⟨O1,δ2,_,w2,q2,λO' δ' σ' H' z w' S'=>⟨O',δ',w',S1.trans S',z⟩,k2,λO' δ' σ' H' z w' S'=>k1 O' δ' σ' H' z w' (S1.trans S'),λO' δ' σ' H' z w' S'=>⟨O',δ',w',S1.trans S',z⟩⟩
 ·have e:i=vs.length:=VH
  subst e;refine .inl ⟨S.st _ H1 (hP _ _ S1) (Oj _),?_⟩;rw [r.length] at q1;exact k1 O1 δ1 σ1 H1 (qe δ1 q1) w1 S1
def j7(t:DT)(g:DG)(tb:DS):DS:=λE δ=>t δ λd=>∃xs,d= .list xs/\j6 g tb E xs δ
def j8(t:DT)(g:DG)(tb:DS):DS:=λE δ=>t δ λd=>∃xs,d= .tuple xs/\j6 g tb E xs δ
def j9(t:DA)(g:DG)(tb:DS):DS:=λE δ=>t δ λds=>∃j:Int,ds=[.int j]/\-(2 ^ 62)<=j/\j < 2 ^ 62/\j6 g tb E (qy 0 j.toNat) δ
section
variable {tg iter:VV} {body:List V1} {t:DT} {ta:DA} {g:TG} {dg:DG} {tb:DS} {pos p ps:Pos}
theorem qA(hp:W2 (VU X.prog X.w) X.A X.env X.xe)(hc:X.calm=true)(hi:DE X H0 O0 iter t)(hg:PG X tg g)(gd:GD X.K g dg)(hb:bQ X body (bo X.K H0 O0 tb))(hs:∀x,V3 iter X.env x=pure x:=by intro _;rfl):
 PS X (.For tg iter body [] pos) (bo X.K H0 O0 (j7 t dg tb)):=
 (tY hp hc (tW hi) hg hb hs).imp λD σ H uu5=>by obtain⟨O,δ,E,w,q,k1,k2,k3,k4⟩:=uu5;exact⟨O,δ,_,w,q,λd v H1 uu6 s1 r1=>by
  obtain⟨xs,e,q1⟩:=uu6;subst e;cases r1 with
  | lst h n r=>
   refine⟨_,rfl,⟨_,.inl h⟩,uE (cy.list (.inl h)) gd (λH' O' S o e=>S.keep _ _ e n) r (w.mono s1) q1 (λO' δ' σ' H' z w' S=>k1 O' δ' σ' H' z w' (aN.trans (.same s1) S)) k2⟩⟩
theorem qB(hp:W2 (VU X.prog X.w) X.A X.env X.xe)(hc:X.calm=true)(hi:DE X H0 O0 iter t)(hg:PG X tg g)(gd:GD X.K g dg)(hb:bQ X body (bo X.K H0 O0 tb))(hs:∀x,V3 iter X.env x=pure x:=by intro _;rfl):
 PS X (.For tg iter body [] pos) (bo X.K H0 O0 (j8 t dg tb)):=
 (tY hp hc (vP hi) hg hb hs).imp λD σ H uu7=>by obtain⟨O,δ,E,w,q,k1,k2,k3,k4⟩:=uu7;exact⟨O,δ,_,w,q,λd v H1 uu8 s1 r1=>by
  obtain⟨xs,e,q1⟩:=uu8;subst e;cases r1 with
  | tup h n r=>
   refine⟨_,rfl,⟨_,.inl h⟩,uE (cy.tup (.inl h)) gd (λH' O' S o e=>S.keep _ _ e n) r (w.mono s1) q1 (λO' δ' σ' H' z w' S=>k1 O' δ' σ' H' z w' (aN.trans (.same s1) S)) k2⟩
  | tupK h r=>
   refine⟨_,rfl,⟨_,h.of0⟩,uE (P:=λ_=>True) ⟨λi H' _ hi=>⟨_,_,h.of0,by simp [hi];rfl⟩,λi H' x H'' _ _ y=>⟨y.1,y.2 _ h.of0⟩,λi H' _ hi=>⟨_,h.of0,hi⟩⟩ gd (λ_ _ _=>trivial) r (w.mono s1) q1 (λO' δ' σ' H' z w' S=>k1 O' δ' σ' H' z w' (aN.trans (.same s1) S)) k2⟩⟩
theorem z6(hp:W2 (VU X.prog X.w) X.A X.env X.xe)(hc:X.calm=true){a:VV}(hgl:Gl X "range")(hm:X.mg "range"=none)(ha:PA X [a] (fV X.K H0 O0 ta))(hg:PG X tg g)(gd:GD X.K g dg)(hb:bQ X body (bo X.K H0 O0 tb))
 (hst:VT [a] X.env=[(false,eval a X.env)]:=by rfl)(hs:∀x,V3 (.Call (.Name "range" p) [a] [] ps) X.env x=pure x:=by intro _;rfl):
 PS X (.For tg (.Call (.Name "range" p) [a] [] ps) body [] pos) (bo X.K H0 O0 (j9 ta dg tb)):=
 (tY hp hc (vR hgl hm ha hst) hg hb hs).imp λD σ H uu9=>by obtain⟨O,δ,E,w,q,k1,k2,k3,k4⟩:=uu9;exact⟨O,δ,_,w,q,λds vs H1 uu10 s1 r1=>by
  obtain⟨j,e,b1,b2,q1⟩:=uu10;subst e;cases r1 with
  | cons r1 r2=>
   cases r2;cases r1;exact⟨j,rfl,b1,b2,uE cy.rng gd (λ_ _ _=>trivial) (aj.rng _) (w.mono s1) q1 (λO' δ' σ' H' z w' S=>k1 O' δ' σ' H' z w' (aN.trans (.same s1) S)) k2⟩⟩
end
theorem Wd.letbe{K:Oe}{H:Hp}{O:Ex}{σ:St}{δ:Dl}(w:Wd K H0 O0 H O σ δ){i:Nat}{l:VO}{y0:Sl}{d:VL}(e:δ[i]?=some (some y0))(ho:y0.own)(h:σ[i]?=some (some (.ref l)))(hd:∀O',aN H H O O'->¬O' l->Dt K H O' (.ref l) d):
 ∃O',Wd K H0 O0 H O' σ (δ.set i (some (.v d)))/\aN H H O O':=by
 obtain⟨l',x1,a,b⟩:=w.adr e ho;rw [h] at x1;cases x1;have S:aN H H O (λx=>O x/\x≠l):=⟨λ_ _ z _=>z,λ_ _ n z=>n z.1⟩;have li:i < δ.length:=(OB.mp e).1;have ne:∀{j:Nat}{y:Sl},(δ.set i (some (.v d)))[j]?=some (some y)->y.own->j≠i:=λ{j y} q hy z=>by
  subst z;rw [OS li] at q;cases q;exact hy
 refine⟨_,⟨w.same,λx z=>⟨w.sub x z,λy=>b (by rw [<-y];exact z)⟩,λx z=>w.new x z.1,λx z=>w.trk x z.1,by simp [w.len],λj y q=>?_,λj k y z l' e1 y1 e2 z2 e3 e4=>?_⟩,S⟩
 ·by_cases hj:j=i
  ·subst hj;rw [OS li] at q;cases q;exact⟨.ref l,by rw [h];rfl,hd _ S (λz=>z.2 rfl)⟩
  ·rw [OG (Ne.symm hj)] at q;refine(w.sl j y q).go S (λb o ho' e' a1 a2 a3=>⟨⟨a1,λz=>?_⟩,a3⟩) (λb o u a1 a2 a3=>⟨⟨a1,λz=>w.nofrz e ho h o u (by rw [<-z];exact a3)⟩,a3⟩) λb o a1 a3=>a3;subst z
   match y,ho',q with
   | some z,ho',q=>exact hj (w.dis j i z y0 _ q (by cases z <;> first | trivial | cases ho') e ho (fi e') h)
 ·have n1:=ne e1 y1;have n2:=ne e2 z2;rw [OG (Ne.symm n1)] at e1;rw [OG (Ne.symm n2)] at e2;exact w.dis j k _ _ l' e1 y1 e2 z2 e3 e4
theorem Wd.freeze{K:Oe}{H:Hp}{O:Ex}{σ:St}{δ:Dl}(w:Wd K H0 O0 H O σ δ){i:Nat}{ds:List VL}(e:δ[i]?=some (some (.o ds))):∃O',Wd K H0 O0 H O' σ (δ.set i (some (.v (.list ds))))/\aN H H O O':=by
 obtain⟨l,vs,h,a,b,c,r⟩:=w.own e;exact w.letbe (y0:= .o ds) e trivial h λO' S n=>.lst (.inl c) n (r.step S)
def iY(i:Nat)(t:DS):DS:=λE δ=>∃ds,δ[i]?=some (some (.o ds))/\t E (δ.set i (some (.v (.list ds))))
theorem Hv(i:Nat){st:V1}{t:DS}(h:PS X st (bo X.K H0 O0 t)):PS X st (bo X.K H0 O0 (iY i t)):=
 h.imp λD σ H uu11=>by
  obtain⟨O,δ,E,w,⟨ds,e,q⟩,k1,k2,k3,k4⟩:=uu11;obtain⟨O',w',S⟩:=w.freeze e;exact⟨O',_,E,w',q,λO2 δ2 σ2 H2 z2 w2 S2=>k1 O2 δ2 σ2 H2 z2 w2 (S.trans S2),k2,λO2 δ2 σ2 H2 z2 w2 S2=>k3 O2 δ2 σ2 H2 z2 w2 (S.trans S2),λO2 δ2 σ2 H2 z2 w2 S2=>k4 O2 δ2 σ2 H2 z2 w2 (S.trans S2)⟩
def cv(k:Nat)(fr:List Nat)(δ:Dl):Dl:=OX k none++fr.map λj=>(δ[j]?).join
def uF(g:DG)(tc:DB)(te:DT)(δ0:Dl):List VL->List VL->(List VL->Prop)->Prop
 | [],acc,Q=>Q acc
 | x::xs,acc,Q=>g x δ0 λδ2=>tc δ2 λok=>if ok=true then te δ2 λy=>uF g tc te δ0 xs (acc++[y]) Q else uF g tc te δ0 xs acc Q
theorem Wd.comp{K:Oe}{H:Hp}{O:Ex}{σ:St}{δ:Dl}(w:Wd K H0 O0 H O σ δ){k:Nat}{fr:List Nat}(hf:fr.Nodup):Wd K H0 O0 H O (bt k fr σ) (cv k fr δ):=by
 have at1:∀{α:Type}(l:List (Option α))(i:Nat),(OX k none++fr.map λj=>(l[j]?).join)[i]?=if i < k then some none else(fr[i - k]?).map λj=>(l[j]?).join:=by
  intro α l i;by_cases h:i < k
  ·rw [VJ h,PK (by simpa using h),Q8,VJ h]
  ·rw [VI h,Qf (by simpa using QR h),OD];simp
 have un:∀{α:Type}(l:List (Option α))(i:Nat)(x:α),(OX k none++fr.map λj=>(l[j]?).join)[i]?=some (some x)->∃j,fr[i - k]?=some j/\k<=i/\l[j]?=some (some x):=by
  intro α l i x h;rw [at1] at h;split at h
  ·cases h
  ·cases e:fr[i - k]? with
   | none=>rw [e] at h;cases h
   | some j=>
    rw [e] at h;refine⟨j,rfl,VH,?_⟩;have h':(l[j]?).join=some x:=Pf h;cases q:l[j]? with
    | none=>rw [q] at h';cases h'
    | some o=>rw [q] at h';rw [show o=some x from h']
 refine⟨w.same,w.sub,w.new,w.trk,by simp [bt,cv],λi y e=>?_,λi j y z l e1 y1 e2 z2 e3 e4=>?_⟩
 ·match y,e with
  | none,_=>exact QG
  | some x,e=>
   obtain⟨j,hj,hk,ej⟩:=un δ i x e;have q:=w.sl j _ ej;have e2:((bt k fr σ)[i]?).join=(σ[j]?).join:=by
    unfold bt;rw [at1,VI VH,hj];rfl
   rw [e2];exact q
 ·obtain⟨a,ha,ka,ea⟩:=un δ i _ e1;obtain⟨b,hb,kb,eb⟩:=un δ j _ e2;obtain⟨a',ha',_,ea'⟩:=un σ i _ e3;obtain⟨b',hb',_,eb'⟩:=un σ j _ e4;rw [ha] at ha';cases ha';rw [hb] at hb';cases hb';have:=w.dis a b y z l ea y1 eb z2 ea' eb';subst this;have e5:=(List.getElem?_inj (l:=fr) (i:=i - k) (j:=j - k) (OB.mp ha).1 hf).mp (by rw [ha,hb]);omega
theorem Ob{K:Oe}{J:It}{P:Hp->Prop}{vs:List V}{xs:List VL}{g:TG}{dg:DG}{tc:TT}{dc:DB}{te:TE}{de:DT}{k:Nat}{fr:List Nat}{σ:St}{H:Hp}{O:Ex}{δ:Dl}{Qd:List VL->Prop}{Q:VK}(S:cy J P vs)(gd:GD K g dg)(hf:fr.Nodup)
 (hk:∀v:V,∀σ':St,∀H':Hp,∀R:St->Hp->Prop,g v (bt k fr σ) H' R->g v (bt k fr σ) H' λσ2 H2=>mO (bt k fr σ) σ2/\R σ2 H2)
 (hc:∀σ H Q,bK K H0 O0 dc σ H Q->tc σ H Q)(he:∀σ H Q,up K H0 O0 de σ H Q->te σ H Q)
 (hP:∀D H',H D=none->iR D H H'->P H')(r:aj K H O vs xs)(w:Wd K H0 O0 H O σ δ)(hz:vs.length<=VW)(q:uF dg dc de (cv k fr δ) xs [] Qd)
 (k1:∀ds us p H',Qd ds->aw H H'->H' p=none->aj K H' O us ds->Q (.ref p) (ai H' p (.lst us))):qv J g tc te k fr σ H Q:=by
 intro D hD;have w0:Wd K H0 O0 H O (bt k fr σ) (cv k fr δ):=w.comp hf;have nD:¬O D:=λz=>w.trk D z hD;have D0:H0 D=none:=by
  cases e:H0 D with
  | none=>rfl
  | some o=>rw [w.same _ _ e] at hD;cases hD
 have ex:∀H',iR D H H'->H' D≠none->Wd K H0 O0 H' (λa=>O a\/a=D) (bt k fr σ) (cv k fr δ):=λH' s' hd=>by
  have S':aN H H' O (λa=>O a\/a=D):=⟨λb o e _=>s' b o e (cM e hD),λb hb hn z=>z.elim hn λq=>hb (by rw [q];exact hD)⟩;refine⟨λb o e=>s' b o (w.same b o e) (λz=>by rw [z,D0] at e;cases e),λl z=>.inl (w.sub l z),λl z=>z.elim (w.new l) λq=>.inr (by rw [q];exact D0),λl z=>?_,w0.len,λj y e=>?_,w0.dis⟩
  ·by_cases ql:l=D
   ·rw [ql];exact hd
   ·have hl:=w.trk l (z.resolve_right ql);cases e:H l with
    | none=>exact absurd e hl
    | some o=>rw [s' l o e ql];exact λz=>nomatch z
  ·exact(w0.sl j y e).go S' (λl o _ _ a1 _ a3=>⟨.inl a1,s' _ _ a3 (λz=>nD (by rw [<-z];exact a1))⟩) (λa o u a1 _ a3=>⟨.inl a1,s' _ _ a3 (λz=>nD (by rw [<-z];exact a1))⟩) λa o a1 a3=>s' _ _ a3 (λz=>nD (by rw [<-z];exact w.sub _ a1))
 refine⟨λi m H'=>∃acc ys,m=vs.length - i/\i<=vs.length/\iR D H H'/\H' D=some (.lst ys)/\ys.length<=i/\aj K H' (λa=>O a\/a=D) ys acc/\uF dg dc de (cv k fr δ) (xs.drop i) acc Qd,⟨vs.length,[],[],by simp,Pe _,λb o e n=>by rw [az n];exact e,bh,Pe _,.nil,by simpa using q⟩,?_⟩;rintro i m H1 ⟨acc,ys,rfl,hi,s1,e1,hy,ra,q1⟩;by_cases hlt:i < vs.length
 ·refine .inr ⟨S.go i H1 (hP D H1 hD s1) hlt,λx H' y=>?_⟩;have yy:=S.yl i H1 x H' (hP D H1 hD s1) hlt y;clear y;obtain⟨e,y⟩:=yy;subst e;obtain⟨d,ed,rd⟩:=r.get y;have hd:xs.drop i=d::xs.drop (i+1):=by
   rw [Sj (h:=(OB.mp ed).1),(OB.mp ed).2]
  rw [hd] at q1;have w1:=ex _ s1 (by rw [e1];exact λz=>nomatch z);have S':aN H H' O (λa=>O a\/a=D):=⟨λb o e _=>s1 b o e (cM e hD),λb hb hn z=>z.elim hn λq=>hb (by rw [q];exact hD)⟩;refine hk x σ _ _ (gd H0 O0 _ _ _ _ x d _ _ w1 (rd.step S') q1 λδ2 σ2 q2 w2=>?_);refine hc σ2 _ _ ⟨_,δ2,_,w2,q2,λok H3 q3 s3=>?_⟩;cases ok with
  | true=>
   rw [VJ rfl];refine he σ2 H3 _ ⟨_,δ2,_,w2.mono s3,q3,λd' v H4 q4 s4 r4=>?_⟩;have e4:=s4 _ _ (s3 _ _ e1);have sD:aN H4 (ai H4 D (.lst (ys++[v]))) (λa=>O a\/a=D) (λa=>O a\/a=D):=⟨λb o e n=>by rw [az (λz=>n (.inr z))];exact e,λ_ _ n=>n⟩;refine⟨ys,e4,VH,vs.length - (i+1),VH,acc++[d'],ys++[v],rfl,hlt,λb o e n=>by rw [az n];exact s4 _ _ (s3 _ _ (s1 b o e n)),bh,by simpa using hy,?_,q4⟩;exact((ra.mono (s3.trans s4)).append (.cons r4 .nil)).step sD
  | false=>
   rw [VI VG];exact⟨vs.length - (i+1),VH,acc,ys,rfl,hlt,λb o e n=>s3 _ _ (s1 b o e n),s3 _ _ e1,VH,ra.mono s3,q3⟩
 ·have e:i=vs.length:=VH
  subst e;refine .inl ⟨S.st _ H1 (hP D H1 hD s1) (Oj _),?_⟩;rw [r.length,T6 (Oj _)] at q1;have hrest:∃H2:Hp,H2 D=none/\aw H H2/\H1=ai H2 D (.lst ys):=by
   refine⟨λb=>if b=D then none else H1 b,by simp,λb o e=>?_,?_⟩
   ·have n:=cM e hD;show(if b=D then none else H1 b)=some o;rw [VI n];exact s1 b o e n
   ·funext b;by_cases z:b=D
    ·rw [z,bh];exact e1
    ·rw [az z];show H1 b=if b=D then none else H1 b;rw [VI z]
  obtain⟨H2,h2,s2,rfl⟩:=hrest;refine k1 acc ys D H2 q1 s2 h2 (ra.step ⟨λb o e n=>?_,λb _ n z=>n (.inl z)⟩);rw [az (λz=>n (.inr z))] at e;exact e
def gb(g:DG)(tc:DB)(te:DT)(δ0:Dl)(xs:List VL)(Q:List VL->Prop):Prop:=∃I:Nat->List VL->Prop,I 0 []/\(∀i x acc,xs[i]?=some x->I i acc->g x δ0 λδ2=>tc δ2 λok=>if ok=true then te δ2 λy=>I (i+1) (acc++[y]) else I (i+1) acc)/\∀acc,I xs.length acc->Q acc
theorem qC{K:Oe}{J:It}{P:Hp->Prop}{vs:List V}{xs:List VL}{g:TG}{dg:DG}{tc:TT}{dc:DB}{te:TE}{de:DT}{k:Nat}{fr:List Nat}{σ:St}{H:Hp}{O:Ex}{δ:Dl}{Qd:List VL->Prop}{Q:VK}(S:cy J P vs)(gd:GD K g dg)(hf:fr.Nodup)
 (hk:∀v:V,∀σ':St,∀H':Hp,∀R:St->Hp->Prop,g v (bt k fr σ) H' R->g v (bt k fr σ) H' λσ2 H2=>mO (bt k fr σ) σ2/\R σ2 H2)
 (hc:∀σ H Q,bK K H0 O0 dc σ H Q->tc σ H Q)(he:∀σ H Q,up K H0 O0 de σ H Q->te σ H Q)
 (hP:∀D H',H D=none->iR D H H'->P H')(r:aj K H O vs xs)(w:Wd K H0 O0 H O σ δ)(hz:vs.length<=VW)(q:gb dg dc de (cv k fr δ) xs Qd)
 (k1:∀ds us p H',Qd ds->aw H H'->H' p=none->aj K H' O us ds->Q (.ref p) (ai H' p (.lst us))):qv J g tc te k fr σ H Q:=by
 obtain⟨Iv,q0,qs,qe⟩:=q;intro D hD;have w0:Wd K H0 O0 H O (bt k fr σ) (cv k fr δ):=w.comp hf;have nD:¬O D:=λz=>w.trk D z hD;have D0:H0 D=none:=by
  cases e:H0 D with
  | none=>rfl
  | some o=>rw [w.same _ _ e] at hD;cases hD
 have ex:∀H',iR D H H'->H' D≠none->Wd K H0 O0 H' (λa=>O a\/a=D) (bt k fr σ) (cv k fr δ):=λH' s' hd=>by
  have S':aN H H' O (λa=>O a\/a=D):=⟨λb o e _=>s' b o e (cM e hD),λb hb hn z=>z.elim hn λq=>hb (by rw [q];exact hD)⟩;refine⟨λb o e=>s' b o (w.same b o e) (λz=>by rw [z,D0] at e;cases e),λl z=>.inl (w.sub l z),λl z=>z.elim (w.new l) λq=>.inr (by rw [q];exact D0),λl z=>?_,w0.len,λj y e=>?_,w0.dis⟩
  ·by_cases ql:l=D
   ·rw [ql];exact hd
   ·have hl:=w.trk l (z.resolve_right ql);cases e:H l with
    | none=>exact absurd e hl
    | some o=>rw [s' l o e ql];exact λz=>nomatch z
  ·exact(w0.sl j y e).go S' (λl o _ _ a1 _ a3=>⟨.inl a1,s' _ _ a3 (λz=>nD (by rw [<-z];exact a1))⟩) (λa o u a1 _ a3=>⟨.inl a1,s' _ _ a3 (λz=>nD (by rw [<-z];exact a1))⟩) λa o a1 a3=>s' _ _ a3 (λz=>nD (by rw [<-z];exact w.sub _ a1))
 refine⟨λi m H'=>∃acc ys,m=vs.length - i/\i<=vs.length/\iR D H H'/\H' D=some (.lst ys)/\ys.length<=i/\aj K H' (λa=>O a\/a=D) ys acc/\Iv i acc,⟨vs.length,[],[],by simp,Pe _,λb o e n=>by rw [az n];exact e,bh,Pe _,.nil,q0⟩,?_⟩;rintro i m H1 ⟨acc,ys,rfl,hi,s1,e1,hy,ra,q1⟩;by_cases hlt:i < vs.length
 ·refine .inr ⟨S.go i H1 (hP D H1 hD s1) hlt,λx H' y=>?_⟩;have yy:=S.yl i H1 x H' (hP D H1 hD s1) hlt y;clear y;obtain⟨e,y⟩:=yy;subst e;obtain⟨d,ed,rd⟩:=r.get y;have w1:=ex _ s1 (by rw [e1];exact λz=>nomatch z);have S':aN H H' O (λa=>O a\/a=D):=⟨λb o e _=>s1 b o e (cM e hD),λb hb hn z=>z.elim hn λq=>hb (by rw [q];exact hD)⟩;refine hk x σ _ _ (gd H0 O0 _ _ _ _ x d _ _ w1 (rd.step S') (qs i d acc ed q1) λδ2 σ2 q2 w2=>?_);refine hc σ2 _ _ ⟨_,δ2,_,w2,q2,λok H3 q3 s3=>?_⟩;cases ok with
  | true=>
   rw [VJ rfl];refine he σ2 H3 _ ⟨_,δ2,_,w2.mono s3,q3,λd' v H4 q4 s4 r4=>?_⟩;have e4:=s4 _ _ (s3 _ _ e1);have sD:aN H4 (ai H4 D (.lst (ys++[v]))) (λa=>O a\/a=D) (λa=>O a\/a=D):=⟨λb o e n=>by rw [az (λz=>n (.inr z))];exact e,λ_ _ n=>n⟩;refine⟨ys,e4,VH,vs.length - (i+1),VH,acc++[d'],ys++[v],rfl,hlt,λb o e n=>by rw [az n];exact s4 _ _ (s3 _ _ (s1 b o e n)),bh,by simpa using hy,?_,q4⟩;exact((ra.mono (s3.trans s4)).append (.cons r4 .nil)).step sD
  | false=>
   rw [VI VG];exact⟨vs.length - (i+1),VH,acc,ys,rfl,hlt,λb o e n=>s3 _ _ (s1 b o e n),s3 _ _ e1,VH,ra.mono s3,q3⟩
 ·have e:i=vs.length:=VH
  subst e;refine .inl ⟨S.st _ H1 (hP D H1 hD s1) (Oj _),?_⟩;rw [r.length] at q1;have hrest:∃H2:Hp,H2 D=none/\aw H H2/\H1=ai H2 D (.lst ys):=by
   refine⟨λb=>if b=D then none else H1 b,by simp,λb o e=>?_,?_⟩
   ·have n:=cM e hD;show(if b=D then none else H1 b)=some o;rw [VI n];exact s1 b o e n
   ·funext b;by_cases z:b=D
    ·rw [z,bh];exact e1
    ·rw [az z];show H1 b=if b=D then none else H1 b;rw [VI z]
  obtain⟨H2,h2,s2,rfl⟩:=hrest;refine k1 acc ys D H2 (qe acc q1) s2 h2 (ra.step ⟨λb o e n=>?_,λb _ n z=>n (.inl z)⟩);rw [az (λz=>n (.inr z))] at e;exact e
def gc:DB:=λ_ Q=>Q true
def ie(g:TG)(k:Nat):Prop:=∀(fr:List Nat)(σ:St)(v:V)(H':Hp)(R:St->Hp->Prop),g v (bt k fr σ) H' R->g v (bt k fr σ) H' λσ2 H2=>mO (bt k fr σ) σ2/\R σ2 H2
theorem bL:ie (jO 0) 1:=λfr σ v H' R h=>⟨Hj,h⟩
def ig(t:DT)(g:DG)(tc:DB)(te:DT)(k:Nat)(fr:List Nat):DA:=λδ Q=>t δ λd=>∃xs,d= .list xs/\xs.length<=VW/\gb g tc te (cv k fr δ) xs Q
def ij(t:DT)(g:DG)(tc:DB)(te:DT)(k:Nat)(fr:List Nat):DA:=λδ Q=>t δ λd=>∃xs,d= .tuple xs/\xs.length<=VW/\gb g tc te (cv k fr δ) xs Q
def iZ(ta:DA)(g:DG)(tc:DB)(te:DT)(k:Nat)(fr:List Nat):DA:=λδ Q=>ta δ λds=>∃j:Int,ds=[.int j]/\-(2 ^ 62)<=j/\j < VW/\gb g tc te (cv k fr δ) (qy 0 j.toNat) Q
section
variable {tg iter elt:VV} {ifs:List VV} {scope:Wn} {N':List Str} {k:Nat} {fr:List Nat} {g:TG} {dg:DG} {t:DT} {ta:DA} {tc:DB} {te:DT} {pos p ps:Pos}
theorem d8(hc:X.calm=true)(S:bb X.env.scope X.N N' k fr scope)(hi:DF X H0 O0 iter t)(gd:GD X.K g dg)(hk:ie g k)(hfr:fr.Nodup)
 (hg:∀fp C s H,PG (br X scope N' fp C s H) tg g)(hf:∀fp C s H,dZ (br X scope N' fp C s H) ifs (bK X.K H0 O0 tc))(he:∀fp C s H,PE (br X scope N' fp C s H) elt (up X.K H0 O0 te))
 (hs:∀x,V3 iter X.env x=pure x:=by intro _;rfl):FE X H0 O0 (.ListComp elt [⟨tg,iter,ifs,0⟩] scope pos) (ig t dg tc te k fr):=
 (uo hc S (tW hi) hg hf he hs).imp λσ H Q uu12=>by obtain⟨O,δ,Qd,w,q,kk⟩:=uu12;exact⟨O,δ,_,w,q,λd v H1 uu13 s1 r1=>by
  obtain⟨xs,e,hz,q1⟩:=uu13;subst e;obtain⟨a,vs,rfl,hq,rr⟩:=r1.lst;refine⟨a,rfl,⟨_,hq⟩,λD hD=>qC (cy.list hq) gd hfr (λv _ H' R h=>hk fr σ v H' R h) (λ_ _ _ z=>z) (λ_ _ _ z=>z) (λD H' hD s' o e=>s' _ _ e (cM e hD)) rr (w.mono s1) (by rw [rr.length];exact hz) q1 (λds us p H' z s' hp r'=>kk ds us p H' z (s1.trans s') hp r') D hD⟩⟩
theorem kc(hc:X.calm=true)(S:bb X.env.scope X.N N' k fr scope)(hi:DF X H0 O0 iter t)(gd:GD X.K g dg)(hk:ie g k)(hfr:fr.Nodup)
 (hg:∀fp C s H,PG (br X scope N' fp C s H) tg g)(hf:∀fp C s H,dZ (br X scope N' fp C s H) ifs (bK X.K H0 O0 tc))(he:∀fp C s H,PE (br X scope N' fp C s H) elt (up X.K H0 O0 te))
 (hs:∀x,V3 iter X.env x=pure x:=by intro _;rfl):FE X H0 O0 (.ListComp elt [⟨tg,iter,ifs,0⟩] scope pos) (ij t dg tc te k fr):=
 (uo hc S (vP hi) hg hf he hs).imp λσ H Q uu14=>by obtain⟨O,δ,Qd,w,q,kk⟩:=uu14;exact⟨O,δ,_,w,q,λd v H1 uu15 s1 r1=>by
  obtain⟨xs,e,hz,q1⟩:=uu15;subst e;obtain⟨a,vs,rfl,hq,rr⟩:=r1.tup;refine⟨a,rfl,⟨_,hq⟩,λD hD=>qC (cy.tup hq) gd hfr (λv _ H' R h=>hk fr σ v H' R h) (λ_ _ _ z=>z) (λ_ _ _ z=>z) (λD H' hD s' o e=>s' _ _ e (cM e hD)) rr (w.mono s1) (by rw [rr.length];exact hz) q1 (λds us p H' z s' hp r'=>kk ds us p H' z (s1.trans s') hp r') D hD⟩⟩
theorem Hw(hc:X.calm=true){a:VV}(S:bb X.env.scope X.N N' k fr scope)(hgl:Gl X "range")(hm:X.mg "range"=none)(ha:PA X [a] (gI X.K H0 O0 ta))(gd:GD X.K g dg)(hk:ie g k)(hfr:fr.Nodup)
 (hg:∀fp C s H,PG (br X scope N' fp C s H) tg g)(hf:∀fp C s H,dZ (br X scope N' fp C s H) ifs (bK X.K H0 O0 tc))(he:∀fp C s H,PE (br X scope N' fp C s H) elt (up X.K H0 O0 te))
 (hst:VT [a] X.env=[(false,eval a X.env)]:=by rfl)(hs:∀x,V3 (.Call (.Name "range" p) [a] [] ps) X.env x=pure x:=by intro _;rfl):
 FE X H0 O0 (.ListComp elt [⟨tg,(.Call (.Name "range" p) [a] [] ps),ifs,0⟩] scope pos) (iZ ta dg tc te k fr):=
 (uo hc S (vR hgl hm ha hst) hg hf he hs).imp λσ H Q uu16=>by obtain⟨O,δ,Qd,w,q,kk⟩:=uu16;exact⟨O,δ,_,w,q,λds vs H1 uu17 s1 r1=>by
  obtain⟨j,e,b1,b2,q1⟩:=uu17;subst e;cases r1 with
  | cons r1 r2=>
   cases r2;cases r1.int;have hb:(VW:Int) < 2 ^ 62:=VG
   exact⟨j,rfl,b1,VH,λD hD=>qC (P:=λ_=>True) cy.rng gd hfr (λv _ H' R h=>hk fr σ v H' R h) (λ_ _ _ z=>z) (λ_ _ _ z=>z) (λ_ _ _ _=>trivial) (aj.rng _) (w.mono s1) (by rw [Of,RX];omega) q1 (λds us p H' z s' hp r'=>kk ds us p H' z (s1.trans s') hp r') D hD⟩⟩
end
end
open PySem PySem.Spec PyProof.Rows PySem.W
section
variable {K:Oe}
def dI(g:Int->Int->VL):VL->VL->(VL->Prop)->Prop:=λx y Q=>∃i j,x= .int i/\y= .int j/\Q (g i j)
def ke(C:Int->Int->Prop)(g:Int->Int->VL):VL->VL->(VL->Prop)->Prop:=λx y Q=>∃i j,x= .int i/\y= .int j/\C i j/\Q (g i j)
theorem cQ{g:Int->Int->Int}:cu K (g8 λi j=>.int (g i j)) (dI λi j=>.int (g i j)):=λH O x y dx dy Qd R _ hx hy uu18 k=>by
 obtain⟨i,j,e1,e2,q⟩:=uu18;subst e1 e2;cases hx.int;cases hy.int;exact⟨i,j,rfl,rfl,k _ _ H q (aw.refl _) (.int _)⟩
theorem dO{g:Int->Int->Bool}:cu K (g8 λi j=>.bl (g i j)) (dI λi j=>.bool (g i j)):=λH O x y dx dy Qd R _ hx hy uu19 k=>by
 obtain⟨i,j,e1,e2,q⟩:=uu19;subst e1 e2;cases hx.int;cases hy.int;exact⟨i,j,rfl,rfl,k _ _ H q (aw.refl _) (.bl _)⟩
theorem bp{C:Int->Int->Prop}{g:Int->Int->Int}:cu K (rI C λi j=>.int (g i j)) (ke C λi j=>.int (g i j)):=λH O x y dx dy Qd R _ hx hy uu20 k=>by
 obtain⟨i,j,e1,e2,c,q⟩:=uu20;subst e1 e2;cases hx.int;cases hy.int;exact⟨i,j,rfl,rfl,c,k _ _ H q (aw.refl _) (.int _)⟩
def z7(K:Oe):R2:=λx y H Q=>∃O dx dy,Sh K H O x dx/\Sh K H O y dy/\cx dx/\cx dy/\Q (.bl (ON dx dy)) H
def z9(K:Oe):R2:=λx y H Q=>∃O dx dy,Sh K H O x dx/\Sh K H O y dy/\cx dx/\cx dy/\Q (.bl (!ON dx dy)) H
theorem dB{X:Cx}(hu:X.A.units+64 < Wb):bH X (V8 .Eq) (z7 X.K):=by
 intro pins s σ H x y v u Q I rx ry h;obtain⟨O,dx,dy,hx,hy,sx,sy,q⟩:=h;obtain⟨as,ra⟩:=hU I hx.all (PZ sx) rx;obtain⟨bs,rb⟩:=hU I hy.all (PZ sy) ry;exact SeqAt.compareEq_shaped ra rb sx sy hu (iN I q rfl)
theorem Aa{X:Cx}(hu:X.A.units+64 < Wb):bH X (V8 .NotEq) (z9 X.K):=by
 intro pins s σ H x y v u Q I rx ry h;obtain⟨O,dx,dy,hx,hy,sx,sy,q⟩:=h;obtain⟨as,ra⟩:=hU I hx.all (PZ sx) rx;obtain⟨bs,rb⟩:=hU I hy.all (PZ sy) ry;exact SeqAt.compareNe_shaped ra rb sx sy hu (iN I q rfl)
def kh:VL->VL->(VL->Prop)->Prop:=λx y Q=>cx x/\cx y/\Q (.bool (ON x y))
def ki:VL->VL->(VL->Prop)->Prop:=λx y Q=>cx x/\cx y/\Q (.bool (!ON x y))
theorem dD:cu K (z7 K) kh:=λH O x y dx dy Qd R _ hx hy uu21 k=>by obtain⟨a,b,q⟩:=uu21;exact⟨O,dx,dy,hx,hy,a,b,k _ _ H q (aw.refl _) (.bl _)⟩
theorem Ab:cu K (z9 K) ki:=λH O x y dx dy Qd R _ hx hy uu22 k=>by obtain⟨a,b,q⟩:=uu22;exact⟨O,dx,dy,hx,hy,a,b,k _ _ H q (aw.refl _) (.bl _)⟩
def kj:VL->VL->(VL->Prop)->Prop:=λx y Q=>∃ds i d,x= .list ds/\y= .int i/\atI ds i=some d/\Q d
def gf:VL->VL->(VL->Prop)->Prop:=λx y Q=>∃ds i d,x= .tuple ds/\y= .int i/\atI ds i=some d/\Q d
theorem aj.atI{H:Hp}{O:Ex}{vs:List V}{ds:List VL}{i:Int}{d:VL}(r:aj K H O vs ds)(e:L2.atI ds i=some d):∃v,L2.atI vs i=some v/\Dt K H O v d:=by
 unfold L2.atI at e⊢;rw [r.length];cases q:iQ ds.length i with
 | none=>rw [q] at e;cases e
 | some j=>rw [q] at e;exact r.getD e
theorem bq:cu K (v9 K) kj:=λH O x y dx dy Qd R _ hx hy uu23 k=>by
 obtain⟨ds,i,d,e1,e2,e3,q⟩:=uu23;subst e1 e2;obtain⟨a,vs,rfl,hs,r⟩:=hx.lst;cases hy.int;obtain⟨v,hv,rv⟩:=r.atI e3;exact⟨a,vs,i,v,rfl,rfl,hs,hv,k d v H q (aw.refl _) rv⟩
theorem aI:cu K (wa K) gf:=λH O x y dx dy Qd R _ hx hy uu24 k=>by
 obtain⟨ds,i,d,e1,e2,e3,q⟩:=uu24;subst e1 e2;obtain⟨a,vs,rfl,hs,r⟩:=hx.tup;cases hy.int;obtain⟨v,hv,rv⟩:=r.atI e3;exact⟨a,vs,i,v,rfl,rfl,hs,hv,k d v H q (aw.refl _) rv⟩
end
section
variable {X:Cx} {H0:Hp} {O0:Ex}
def Hx:R2:=λx y H Q=>∃l b xs zs,x= .ref l/\y= .ref b/\Rd H l (.lst xs)/\Rd H b (.lst zs)/\xs.length+zs.length<=VW/\∀p,H p=none->Q (.ref p) (ai H p (.lst (xs++zs)))
theorem Hy:bH X (Wm .Add) Hx:=by
 intro pins s σ H x y v u Q I rx ry h;obtain⟨l,b,xs,zs,rfl,rfl,hH,hB,hz,q⟩:=h;cases rx;cases ry;obtain⟨z,its,n,r,e⟩:=hH.ok I.hok;obtain⟨z2,its2,n2,r2,e2⟩:=hB.ok I.hok;have l1:=r.length;have l2:=r2.length;refine PySem.P.add_list e e2 ?_ (by rw [OI,OI];omega);have ea:its.toArray++its2.toArray=(its++its2).toArray:=by simp
 rw [ea];exact⟨.ref _,_,I.lnew (t':=s.toks) (r.append r2) (by rw [OH];omega),rfl,q _ I.fresh⟩
def km(ta tb:DT):DA:=λδ Q=>ta δ λx=>tb δ λy=>∃xs ys,x= .list xs/\y= .list ys/\xs.length+ys.length<=VW/\Q (xs++ys)
theorem Hz{a b:VV}{ta tb:DT}{pos:Pos}(ha:DF X H0 O0 a ta)(hb:DF X H0 O0 b tb):FE X H0 O0 (.BinOp a .Add b pos) (km ta tb):=
 (zj Hy ha hb).imp λσ H Q uu25=>by obtain⟨O,δ,Qd,w,q,k⟩:=uu25;exact⟨O,δ,_,w,q,λx v H1 q1 s1 r1=>⟨O,δ,_,w.mono s1,q1,λy u H2 uu26 s2 r2=>by
  obtain⟨xs,ys,e1,e2,hz,q2⟩:=uu26;subst e1 e2;obtain⟨a,vs,rfl,h1,d1⟩:=(r1.mono s2).lstR;obtain⟨b,us,rfl,h2,d2⟩:=r2.lstR;exact⟨a,b,vs,us,rfl,rfl,h1,h2,by rw [d1.length,d2.length];exact hz,λp hp=>k _ _ _ _ q2 (s1.trans s2) hp (d1.append d2)⟩⟩⟩
def kn:VL->VL->(VL->Prop)->Prop:=λx y Q=>∃xs ys,x= .tuple xs/\y= .tuple ys/\xs≠[]/\xs.length+ys.length<=VW/\Q (.tuple (xs++ys))
theorem HA{K:Oe}:cu K (v7 K) kn:=λH O x y dx dy Qd R tr hx hy uu27 k=>by
 obtain⟨xs,ys,e1,e2,hn,hz,q⟩:=uu27;subst e1 e2;have hx0:=hx;obtain⟨a,vs,rfl,h1,d1⟩:=hx.tup;obtain⟨b,us,rfl,h2,d2⟩:=hy.tup;refine⟨a,b,vs,us,rfl,rfl,h1,h2,λz=>?_,by rw [d1.length,d2.length];exact hz,λz=>?_,λ_ p hp=>?_⟩
 ·subst z;cases d1;exact hn rfl
 ·subst z;cases d2;rw [Pg] at q;cases hx0 with
  | dt hx0=>exact k _ _ H q (aw.refl _) hx0
 ·exact k _ _ _ q (aw.new hp) (.tup (.inl bh) (λz=>tr p z hp) ((d1.append d2).mono (aw.new hp)))
def cg(xs:List VL)(lo hi:Option Int):List VL:=(xs.drop (HT.sIx xs.length 0 lo)).take (HT.sIx xs.length xs.length hi - HT.sIx xs.length 0 lo)
theorem aj.cut{K:Oe}{H:Hp}{O:Ex}{vs:List V}{ds:List VL}(r:aj K H O vs ds)(lo hi:Option Int):aj K H O (jQ vs lo hi) (cg ds lo hi):=by
 unfold jQ cg;rw [r.length];exact(r.drop _).take _
abbrev DO:=Dl->(Option Int->Prop)->Prop
def mR(K:Oe)(H0:Hp)(O0:Ex)(t:DO):TO:=λσ H R=>∃O δ Qd,Wd K H0 O0 H O σ δ/\t δ Qd/\∀d H',Qd d->aw H H'->R d H'
def ko:DO:=λ_ Q=>Q none
def kq(t:DT):DO:=λδ Q=>t δ λd=>∃i,d= .int i/\Q (some i)
theorem PO.imp{X:Cx}{e:Option VV}{t u:TO}(h:PO X e t)(i:∀σ H Q,u σ H Q->t σ H Q):PO X e u:=λpins s σ H Q I z=>h pins s σ H Q I (i σ H Q z)
theorem rj:PO X none (mR X.K H0 O0 ko):=GA.imp λσ H Q uu28=>by obtain⟨O,δ,Qd,w,q,k⟩:=uu28;exact k none H q (aw.refl _)
theorem cR{e:VV}{t:DT}(h:DE X H0 O0 e t):PO X (some e) (mR X.K H0 O0 (kq t)):=(GB h).imp λσ H Q uu29=>by obtain⟨O,δ,Qd,w,q,k⟩:=uu29;exact⟨O,δ,_,w,q,λd v H1 uu30 s1 r1=>by obtain⟨i,e,q1⟩:=uu30;subst e;cases r1;exact⟨i,rfl,k _ H1 q1 s1⟩⟩
def kr(t:DT)(tl th:DO):DA:=λδ Q=>t δ λd=>tl δ λl=>th δ λu=>∃xs,d= .list xs/\Q (cg xs l u)
theorem qD{e:VV}{lo hi:Option VV}{t:DT}{tl th:DO}{pos p2:Pos}(h:DF X H0 O0 e t)(hl:PO X lo (mR X.K H0 O0 tl))(hu:PO X hi (mR X.K H0 O0 th)):FE X H0 O0 (.Subscript e (.Slice lo hi none p2) pos) (kr t tl th):=
 (v5 zM h hl hu).imp λσ H Q uu31=>by obtain⟨O,δ,Qd,w,q,k⟩:=uu31;exact⟨O,δ,_,w,q,λd v H1 q1 s1 r1=>⟨O,δ,_,w.mono s1,q1,λl H2 q2 s2=>⟨O,δ,_,w.mono (s1.trans s2),q2,λu H3 uu32 s3=>by
  obtain⟨xs,e,q3⟩:=uu32;subst e;obtain⟨a,vs,rfl,h1,d1⟩:=(r1.mono (s2.trans s3)).lst;exact⟨a,vs,rfl,h1,λp hp=>k _ _ _ _ q3 (s1.trans (s2.trans s3)) hp (d1.cut l u)⟩⟩⟩⟩
theorem ar{a b:VV}{ta tb:DT}{r:R2}{rd:VL->VL->(VL->Prop)->Prop}{pos:Pos}(ho:sM X r)(hd:cu X.K r rd)(ha:DF X H0 O0 a ta)(hb:DF X H0 O0 b tb)(hs:∀v u,Xe b false v u=operate [v,u] (WM v u):=by intro _ _;rfl):DE X H0 O0 (.Subscript a b pos) (cK rd ta tb):=(sN ho ha hb hs).imp (uB hd)
def ku:List VL->(VL->Prop)->Prop:=λds Q=>∃xs,(ds=[.list xs]\/ds=[.tuple xs])/\Q (.int xs.length)
def kx:List VL->(VL->Prop)->Prop:=λds Q=>∃xs,ds=[gG xs]/\Q (.int xs.length)
theorem ro{K:Oe}:mQ K (λxs H Q=>∃p ys,xs=[.ref p]/\(bg K H p ys\/bz K H p ys)/\Q (.int ys.length) H) ku:=λH O xs ds Qd R _ hs uu33 k=>by
 obtain⟨ys,e,q⟩:=uu33;rcases e with e | e <;> subst e
 ·cases hs with
  | cons h r=>
   cases r;obtain⟨a,vs,rfl,h1,d1⟩:=h.lst;exact⟨a,vs,rfl,.inl h1,by rw [d1.length];exact k _ _ H q (aw.refl _) (.int _)⟩
 ·cases hs with
  | cons h r=>
   cases r;obtain⟨a,vs,rfl,h1,d1⟩:=h.tup;exact⟨a,vs,rfl,.inr h1,by rw [d1.length];exact k _ _ H q (aw.refl _) (.int _)⟩
theorem Ac{K:Oe}:mQ K (λxs H Q=>∃p ys,xs=[.ref p]/\(bg K H p ys\/bz K H p ys)/\Q (.int ys.length) H) kx:=λH O xs ds Qd R _ hs uu34 k=>by
 obtain⟨ys,e,q⟩:=uu34;subst e;cases hs with
 | cons h r=>
  cases r;obtain⟨a,vs,rfl,h1,d1⟩:=h.scr;exact⟨a,vs,rfl,.inl h1,by rw [d1.length];exact k _ _ H q (aw.refl _) (.int _)⟩
def i3:List VL->(VL->Prop)->Prop:=λds Q=>∃xs,ds=[.list xs]/\Q (.tuple xs)
theorem fj{K:Oe}:mQ K (λxs H Q=>∃p ys,xs=[.ref p]/\((bg K H p ys/\∀l,H l=none->Q (.ref l) (ai H l (.tup ys)))\/(bz K H p ys/\Q (.ref p) H))) i3:=λH O xs ds Qd R tr hs uu35 k=>by
 obtain⟨ys,e,q⟩:=uu35;subst e;cases hs with
 | cons h r=>
  cases r;obtain⟨a,vs,rfl,h1,d1⟩:=h.lst;exact⟨a,vs,rfl,.inl ⟨h1,λl hl=>k _ _ _ q (aw.new hl) (.tup (.inl bh) (λz=>tr l z hl) (d1.mono (aw.new hl)))⟩⟩
theorem aj.bools{K:Oe}{H:Hp}{O:Ex}:∀{bs:List Bool}{vs:List V},aj K H O vs (bs.map RT)->vs=bs.map V.bl
 | [],_,r=>by rw [PD] at r;cases r;rfl
 | b::bs,_,r=>by
  rw [Ol] at r;cases r with
  | cons h r=>cases h;rw [Ol,aj.bools r]
def kz(g:List Bool->Bool):List VL->(VL->Prop)->Prop:=λds Q=>∃bs:List Bool,ds=[.list (bs.map .bool)]/\Q (.bool (g bs))
theorem uG{K:Oe}{g:List Bool->Bool}:mQ K (λxs H Q=>∃(a:VO)(bs:List Bool),xs=[.ref a]/\bg K H a (bs.map V.bl)/\Q (.bl (g bs)) H) (kz g):=λH O xs ds Qd R tr hs uu36 k=>by
 obtain⟨bs,e,q⟩:=uu36;subst e;cases hs with
 | cons h r=>
  cases r;obtain⟨a,vs,rfl,h1,d1⟩:=h.lst;cases d1.bools;exact⟨a,bs,rfl,h1,k _ _ H q (aw.refl _) (.bl _)⟩
def kA(g:Int->Int->Int):List VL->(VL->Prop)->Prop:=λds Q=>∃i j,ds=[.int i,.int j]/\Q (.int (g i j))
theorem Ad{K:Oe}{g:Int->Int->Int}:mQ K (λxs H Q=>∃i j,xs=[.int i,.int j]/\Q (.int (g i j)) H) (kA g):=λH O xs ds Qd R tr hs uu37 k=>by
 obtain⟨i,j,e,q⟩:=uu37;subst e;cases hs with
 | cons h r=>
  cases r with
  | cons h2 r=>
   cases r;cases h.int;cases h2.int;exact⟨i,j,rfl,k _ _ H q (aw.refl _) (.int _)⟩
end
section
variable {P:VY} {w:VZ} {K:Oe} {mg:Str->Option VM} {base:V0}
def d9(N:List Str)(ds:List VL):Dl:=ds.map (λd=>some (.v d))++OX (N.length - ds.length) none
theorem Ae{H:Hp}{O:Ex}{N:List Str}{vs:List V}{ds:List VL}(tr:∀l,O l->H l≠none)(r:aj K H O vs ds):Wd K H O H O (start N vs) (d9 N ds):=by
 have hl:=r.length;have at1:∀(i:Nat) y,(d9 N ds)[i]?=some y->(∃d,ds[i]?=some d/\y=some (.v d))\/y=none:=λi y e=>by
  unfold d9 at e;by_cases h:i < ds.length
  ·rw [PK (by simpa using h),OD] at e;cases q:ds[i]? with
   | none=>rw [q] at e;cases e
   | some d=>rw [q] at e;exact .inl ⟨d,rfl,(Pf e).symm⟩
  ·rw [Qf (by simpa using QR h),Q8] at e;split at e
   ·exact .inr (Pf e).symm
   ·cases e
 refine⟨aw.refl _,λ_ z=>z,λ_ z=>.inl z,tr,by simp [start,d9,hl],λi y e=>?_,λi j ds' es l e1=>?_⟩
 ·rcases at1 i y e with⟨d,hd,rfl⟩ | rfl
  ·obtain⟨v,hv,rv⟩:=r.getD hd;refine⟨v,?_,rv⟩;unfold start;rw [PK (by simpa using(OB.mp hv).1),OD,hv];rfl
  ·exact QG
 ·rcases at1 i _ e1 with⟨d,_,z⟩ | z
  ·cases z;intro h;exact h.elim
  ·cases z
theorem aP.okD{x qual:Str}{st:V1}{f:VO}{fd:VX}{N ps:List Str}{k:Nat}{F:List VL->(VL->Prop)->Prop}(Fu:aP K x qual st f fd)(S:aV N ps (ag st))(len:∀ds Q,F ds Q->ds.length=ps.length)
 (hbody:∀(cdv:VM) (A:V2) (outer:List Env) (s:VP) (H:Hp) (O:Ex) (ds:List VL) (Q:VL->Prop) (E:XK),bf k (A.deeper (WJ qual (ag st) s.heap.objs.size f cdv))->F ds Q->
  ∃t,bQ (hJ CX0 P w K mg base N qual (ag st) f cdv A outer s H E).nox (au st) (bo K H O t)/\t {nx:=λ_=>Q .none,rt:=Q} (d9 N ds)):aF P w K mg base CX0 (k+1) f fd ps (ba K F):=by
 refine Fu.ok S (λvs H Q E h=>?_) (λcdv A outer s H vs Q E hr h=>?_)
 ·obtain⟨O,ds,Qd,_,r,q,_⟩:=h;rw [r.length];exact len _ _ q
 ·obtain⟨O,ds,Qd,tr,r,q,k⟩:=h;obtain⟨t,ht,q'⟩:=hbody cdv A outer s H O ds Qd E hr q;refine⟨_,ht,O,_,_,Ae tr r,q',λO' δ' σ' H' z w' S'=>?_,λd v H' z s' r'=>k d v H' z s' r',λ_ _ _ _ z=>z.elim,λ_ _ _ _ z=>z.elim⟩;exact k _ _ _ z w'.same .non
end
open PySem PySem.Spec PyProof.Rows PySem.W
section
variable {X:Cx} {H0:Hp} {O0:Ex}
theorem cS:dZ X [] (bK X.K H0 O0 gc):=λpins s σ H Q I h=>by
 obtain⟨O,δ,Qd,w,q,k⟩:=h;exact G6 pins s σ H Q I (k true H q (aw.refl _))
def kB:VL->VL->(VL->Prop)->Prop:=λx y Q=>∃i j,x= .str i/\y= .str j/\i.length+j.length<=VW/\Q (.str (i++j))
theorem Af{K:Oe}:cu K (λx y H Q=>∃i j,x= .str i/\y= .str j/\i.length+j.length<=VW/\Q (.str (i++j)) H) kB:=λH O x y dx dy Qd R tr hx hy uu38 k=>by
 obtain⟨i,j,e1,e2,hz,q⟩:=uu38;subst e1 e2;cases hx.str;cases hy.str;exact⟨i,j,rfl,rfl,hz,k _ _ H q (aw.refl _) (.str _)⟩
def kC:VL->VL->(VL->Prop)->Prop:=λx y Q=>∃z i c,x= .str z/\y= .int i/\z.length<=VW/\atI z.cps.toList i=some c/\Q (.str ⟨#[c]⟩)
theorem Ag{K:Oe}:cu K zK kC:=λH O x y dx dy Qd R tr hx hy uu39 k=>by
 obtain⟨z,i,c,e1,e2,hz,e3,q⟩:=uu39;subst e1 e2;cases hx.str;cases hy.int;exact⟨z,i,c,rfl,rfl,hz,e3,k _ _ H q (aw.refl _) (.str _)⟩
def kD:List VL->(VL->Prop)->Prop:=λds Q=>(∃i,ds=[.int i]/\Q (.int i))\/∃b,ds=[.bool b]/\Q (.int (if b then 1 else 0))
theorem Ah{K:Oe}:mQ K (λxs H Q=>(∃i,xs=[.int i]/\Q (.int i) H)\/∃k,xs=[.bl k]/\Q (.int (if k then 1 else 0)) H) kD:=λH O xs ds Qd R tr hs h k=>by
 rcases h with⟨i,e,q⟩ | ⟨b,e,q⟩ <;> subst e
 ·cases hs with
  | cons h r=>cases r;cases h.int;exact .inl ⟨i,rfl,k _ _ H q (aw.refl _) (.int _)⟩
 ·cases hs with
  | cons h r=>cases r;cases h.bl;exact .inr ⟨b,rfl,k _ _ H q (aw.refl _) (.int _)⟩
def kE(t:DA):DA:=λδ Q=>t δ λds=>∃xs,(ds=[.list xs]\/ds=[.tuple xs])/\Q xs
theorem HB{a:VV}{t:DA}{np p:Pos}(hg:Gl X "list")(hm:X.mg "list"=none)(hv:V9 "list"=some (.type "list"))(ha:PA X [a] (gI X.K H0 O0 t))(he:VT [a] X.env=(false,eval a X.env)::VT [] X.env:=by rfl)(hpl:(V5 p (VT [] X.env)).any (·.1)=false:=by rfl):FE X H0 O0 (.Call (.Name "list" np) [a] [] p) (kE t):=
 (dA GP hg hm hv ha (he:=he) (hpl:=hpl)).imp λσ H Q uu40=>by obtain⟨O,δ,Qd,w,q,k⟩:=uu40;exact⟨O,δ,_,w,q,λds vs H1 uu41 s1 r1=>by
  obtain⟨xs,e,q1⟩:=uu41;rcases e with e | e <;> subst e
  ·cases r1 with
   | cons h r=>
    cases r;obtain⟨a,us,rfl,h1,d1⟩:=h.lst;exact⟨a,us,rfl,.inl h1,λl hl=>k _ _ _ _ q1 s1 hl d1⟩
  ·cases r1 with
   | cons h r=>
    cases r;obtain⟨a,us,rfl,h1,d1⟩:=h.tup;exact⟨a,us,rfl,.inr h1,λl hl=>k _ _ _ _ q1 s1 hl d1⟩⟩
end
open PySem PySem.Spec PyProof.Rows PySem.W
def HC:List VL->(VL->Prop)->Prop:=λds Q=>∃z:Int,ds=[wj,.int z]/\0 < z/\z<=1000000/\∀i:Int,0<=i->i < z->Q (.int i)
theorem cT{α:Type}{a:α}{l:List α}:atI (a::l) 0=some a:=gF (j:=0) rfl
theorem fk{α:Type}{a b:α}{l:List α}:atI (a::b::l) 1=some b:=gF (j:=1) rfl
theorem gJ{α:Type}{a b c:α}{l:List α}:atI (a::b::c::l) 2=some c:=gF (j:=2) rfl
theorem fo{α:Type}{a b c d:α}{l:List α}:atI (a::b::c::d::l) 3=some d:=gF (j:=3) rfl
theorem kF{α:Type}{a b c d e:α}{l:List α}:atI (a::b::c::d::e::l) 4=some e:=gF (j:=4) rfl
theorem mS{i:Int}:cx (.int i):=rfl
theorem mT{i:Bool}:cx (.bool i):=rfl
theorem mU:cx .none:=rfl
theorem cL{x y:Str}:ON (.str x) (.str y)=(x==y):=by simp [ON]
theorem mV{x y:Int}:ON (.int x) (.int y)=(x==y):=by simp [ON]
theorem mW{x y:Bool}:ON (.bool x) (.bool y)=(x==y):=by simp [ON]
theorem cH{x:Str}:cx (.str x)↔Om x=true:=by
 unfold cx Q1;simp [Pj,Sv]
theorem ui{n d:Nat}:HT.sIx n d none=d:=rfl
theorem uH{n d:Nat}{i:Int}(h0:0<=i)(h1:i<=n):HT.sIx n d (some i)=i.toNat:=by
 obtain⟨j,rfl⟩:=Q9 h0;rw [HT.sIx_nat,Q4];omega
theorem sS{xs:List VL}{i:Int}(h0:0<=i)(h1:i<=xs.length):cg xs none (some i)=xs.take i.toNat:=by
 unfold cg;rw [ui,uH h0 h1];simp
theorem uI{xs:List VL}{i:Int}(h0:0<=i)(h1:i<=xs.length):cg xs (some i) none=xs.drop i.toNat:=by
 unfold cg;rw [ui,uH h0 h1,O7 (by rw [R8];exact Oj _)]
theorem uJ{lo:Int}{n i:Nat}{x:VL}(h:(qy lo n)[i]?=some x):i < n/\x= .int (lo+i):=by
 unfold qy at h;rw [OD] at h;by_cases hi:i < n
 ·rw [List.getElem?_range hi] at h;exact⟨hi,(Pf h).symm⟩
 ·rw [Qm (by simpa using hi)] at h;cases h
theorem wu{lo:Int}{n:Nat}:(qy lo n).length=n:=by unfold qy;simp
open PySem PySem.Spec PyProof.Rows
section
variable {κ:Type} [DecidableEq κ]
def dE(kvs:List (κ×V))(k:κ):Option V:=(kvs.find? λkv=>decide (kv.1=k)).map (·.2)
def putK(kvs:List (κ×V))(k:κ)(v:V):List (κ×V):=
 if (kvs.any λkv=>decide (kv.1=k))=true then kvs.map (λkv=>if kv.1=k then(kv.1,v) else kv) else kvs++[(k,v)]
theorem sT{p:κ×V}{r:List (κ×V)}{k:κ}(e:p.1=k):dE (p::r) k=some p.2:=by simp [dE,PL,e]
theorem rA{p:κ×V}{r:List (κ×V)}{k:κ}(e:¬p.1=k):dE (p::r) k=dE r k:=by simp [dE,PL,e]
theorem Ai(k:κ):∀kvs:List (κ×V),(kvs.any λkv=>decide (kv.1=k))=(dE kvs k).isSome
 | []=>rfl
 | p::r=>by
  rw [PQ];by_cases e:p.1=k
  ·simp only [sT e,decide_eq_true e,Bool.true_or,Option.isSome_some]
  ·rw [rA e,decide_eq_false e,Qq];exact Ai k r
theorem Aj(kvs:List (κ×V))(k:κ)(v:V):(putK kvs k v).length<=kvs.length+1:=by
 unfold putK;split
 ·rw [Of];omega
 ·rw [OH,Oz,Pn];omega
theorem dH.isSome_eq{o:Option V}{u:Option VM}(r:dH o u):o.isSome=u.isSome:=by
 cases o with
 | none=>cases u with
  | none=>rfl
  | some _=>exact(show False from r).elim
 | some _=>cases u with
  | none=>exact(show False from r).elim
  | some _=>rfl
theorem dH.getD{o:Option V}{u:Option VM}{d:V}{d':VM}(r:dH o u)(rd:aE d d'):aE (o.getD d) (u.getD d'):=by
 cases o with
 | none=>cases u with
  | none=>exact rd
  | some _=>exact(show False from r).elim
 | some _=>cases u with
  | none=>exact(show False from r).elim
  | some _=>exact r
theorem KV.val{kvs:List (κ×V)}{vs:List (κ×VM)}(r:KV kvs vs)(k:κ):dH (dE kvs k) (valueAt vs k):=by
 unfold KV at r
 induction r with
 | nil=>exact QG
 | @cons p q ps qs h t ih=>
  obtain⟨h1,h2⟩:=h;by_cases e:p.1=k
  ·have e':q.1=k:=h1.symm.trans e;have b:valueAt (q::qs) k=some q.2:=by simp [valueAt,PL,e']
   rw [sT e,b];exact h2
  ·have e':¬q.1=k:=λz=>e (h1.trans z);have b:valueAt (q::qs) k=valueAt qs k:=by simp [valueAt,PL,e']
   rw [rA e,b];exact ih
theorem KV.any{kvs:List (κ×V)}{vs:List (κ×VM)}(r:KV kvs vs)(k:κ):(kvs.any λkv=>decide (kv.1=k))=vs.any λkv=>decide (kv.1=k):=by
 unfold KV at r
 induction r with
 | nil=>rfl
 | cons h t ih=>rw [PQ,PQ,ih,h.1]
theorem KV.repl{kvs:List (κ×V)}{vs:List (κ×VM)}(r:KV kvs vs)(k:κ){y:V}{u:VM}(ry:aE y u):
 KV (kvs.map λkv=>if kv.1=k then(kv.1,y) else kv) (vs.map λkv=>if kv.1=k then(kv.1,u) else kv):=by
 unfold KV at r⊢
 induction r with
 | nil=>exact .nil
 | @cons p q ps qs h t ih=>
  rw [Ol,Ol];refine .cons ?_ ih;obtain⟨h1,h2⟩:=h;by_cases e:p.1=k
  ·rw [VJ e,VJ (h1.symm.trans e)];exact⟨h1,ry⟩
  ·rw [VI e,VI (λz=>e (h1.trans z))];exact⟨h1,h2⟩
theorem KV.put{kvs:List (κ×V)}{vs:List (κ×VM)}(r:KV kvs vs)(k:κ){y:V}{u:VM}(ry:aE y u):KV (putK kvs k y) (stored vs k u):=by
 unfold putK stored;rw [r.any k];by_cases e:(vs.any λkv=>decide (kv.1=k))=true
 ·rw [VJ e,VJ e];exact r.repl k ry
 ·rw [VI e,VI e];exact Vy r ⟨rfl,ry⟩
theorem KV.keys{kvs:List (κ×V)}{vs:List (κ×VM)}(r:KV kvs vs):kvs.map (·.1)=vs.map (·.1):=by
 unfold KV at r
 induction r with
 | nil=>rfl
 | cons h t ih=>rw [Ol,Ol,ih,h.1]
theorem KV.length{kvs:List (κ×V)}{vs:List (κ×VM)}(r:KV kvs vs):kvs.length=vs.length:=Tf r
end
theorem qE{P:VY}{w:VZ}{k:ak}{u:VM}(r:aE (kV k) u):(dn P w).is k u=true:=by
 cases k with
 | inl i=>obtain⟨t,e⟩:=(show ∃t,u=QU i t from r);subst e;exact E1 P w i t
 | inr x=>obtain⟨t,e⟩:=(show ∃t,u=RP x t from r);subst e;exact E2 P w x t
theorem Ak{P:VY}{w:VZ}:∀{ks:List ak}{us:List VM},aK (ks.map kV) us->ItemsAre (dn P w) ks us
 | [],_,r=>by rw [PD] at r;cases r;exact .nil
 | k::ks,_,r=>by
  rw [Ol] at r;cases r with
  | cons h t=>exact .cons (qE h) (Ak t)
abbrev KT(H:Hp):List (List ak×V)->List (List ak×VO×VM)->Prop:=Paired λp q=>p.1=q.1/\H q.2.1=some (.tup (p.1.map kV))/\aE p.2 q.2.2
theorem KT.val{H:Hp}{kvs:List (List ak×V)}{xs:List (List ak×VO×VM)}(r:KT H kvs xs)(k:List ak):dH (dE kvs k) ((atKey xs k).map (·.2)):=by
 induction r with
 | nil=>exact QG
 | @cons p q ps qs h t ih=>
  obtain⟨h1,_,h2⟩:=h;by_cases e:p.1=k
  ·have e':q.1=k:=h1.symm.trans e;have b:atKey (q::qs) k=some q.2:=by simp [atKey,PL,e']
   rw [sT e,b];exact h2
  ·have e':¬q.1=k:=λz=>e (h1.trans z);have b:atKey (q::qs) k=atKey qs k:=by simp [atKey,PL,e']
   rw [rA e,b];exact ih
theorem KT.repl{H:Hp}{kvs:List (List ak×V)}{xs:List (List ak×VO×VM)}(r:KT H kvs xs)(k:List ak){y:V}{u:VM}(ry:aE y u):
 KT H (kvs.map λkv=>if kv.1=k then(kv.1,y) else kv) (xs.map (putAt k u)):=by
 induction r with
 | nil=>exact .nil
 | @cons p q ps qs h t ih=>
  rw [Ol,Ol];refine .cons ?_ ih;obtain⟨h1,h2,h3⟩:=h;unfold putAt;by_cases e:p.1=k
  ·rw [VJ e,VJ (h1.symm.trans e)];exact⟨h1,h2,ry⟩
  ·rw [VI e,VI (λz=>e (h1.trans z))];exact⟨h1,h2,h3⟩
theorem KT.put{H:Hp}{kvs:List (List ak×V)}{xs:List (List ak×VO×VM)}(r:KT H kvs xs)(k:List ak){b:VO}{y:V}{u:VM}(hb:H b=some (.tup (k.map kV)))(ry:aE y u):
 KT H (putK kvs k y) (storedH xs k b u):=by
 have e:(kvs.any λkv=>decide (kv.1=k))=(atKey xs k).isSome:=by
  rw [Ai,(r.val k).isSome_eq,SG]
 unfold putK storedH;rw [e];by_cases q:(atKey xs k).isSome=true
 ·rw [VJ q,VJ q];exact r.repl k ry
 ·rw [VI q,VI q];exact Vy r ⟨rfl,hb,ry⟩
theorem KT.keeps{H H':Hp}{kvs:List (List ak×V)}{xs:List (List ak×VO×VM)}(r:KT H kvs xs)(ht:∀b ys,H b=some (.tup ys)->H' b=some (.tup ys)):KT H' kvs xs:=
 Paired.mapP r λ_ _ z=>⟨z.1,ht _ _ z.2.1,z.2.2⟩
section
variable {P:VY} {w:VZ} {H:Hp} {h:V0} {a:VO}
theorem Al{u:HO}(ok:bG P w H h)(e:Rd H a u):cb P w H h a u:=e.ok ok
theorem kG{kvs:List (ak×V)}(ok:bG P w H h)(e:Rd H a (.dK kvs)):kvs.length<=VW/\(a==Wr)=false/\∃vs,KV kvs vs/\h.DictOf (dn P w) a vs:=
 show cb P w H h a (.dK kvs) from Al ok e
theorem HD{kvs:List (ak×V)}(ok:bG P w H h)(e:H a=some (.dK kvs)):kvs.length<=VW/\(a==Wr)=false/\∃vs,KV kvs vs/\h.DictOf (dn P w) a vs:=kG ok (.inl e)
theorem qF{ks:List ak}(ok:bG P w H h)(e:H a=some (.tup (ks.map kV))):(WY (dn P w)).is h ks a:=by
 obtain⟨_,its,r,o,h1,h2,n,h3⟩:=(show cb P w H h a (.tup (ks.map kV)) from ok a _ e);exact⟨o,its.toArray,n,h1,h2,h3,by simpa using Ak r⟩
theorem mX{kvs:List (List ak×V)}(ok:bG P w H h)(e:Rd H a (.dT kvs)):kvs.length<=VW/\(a==Wr)=false/\
 ∃xs,KT H kvs xs/\h.DictOfH (WY (dn P w)) a xs:=by
 obtain⟨z,y,xs,r,o,es,ep,h1,h2,h3,h4,h5⟩:=(show cb P w H h a (.dT kvs) from Al ok e);refine⟨z,y,xs,r,o,es,ep,h1,h2,h3,h4,λx hx=>?_,h5⟩;have all:∀{l:List (List ak×V)}{m:List (List ak×VO×VM)},KT H l m->∀x∈m,(WY (dn P w)).is h x.1 x.2.1:=by
  intro l m q
  induction q with
  | nil=>intro x hx;exact nomatch hx
  | @cons p q ps qs hq t ih=>
   intro x hx;rcases OA.mp hx with e | hx
   ·subst e;exact qF ok (by rw [<-hq.1];exact hq.2.1)
   ·exact ih x hx
 exact all r x hx
theorem HE{kvs:List (List ak×V)}(ok:bG P w H h)(e:H a=some (.dT kvs)):kvs.length<=VW/\(a==Wr)=false/\
 ∃xs,KT H kvs xs/\h.DictOfH (WY (dn P w)) a xs:=mX ok (.inl e)
end
def cB(H:Hp)(a:VO)(y:V)(r:Option V):Prop:=
 (∃kvs k,Rd H a (.dK kvs)/\y=kV k/\r=dE kvs k)\/∃kvs k b,Rd H a (.dT kvs)/\y= .ref b/\H b=some (.tup (k.map kV))/\r=dE kvs k
def qG(H:Hp)(a:VO)(y v:V)(H':Hp):Prop:=
 (∃kvs k,H a=some (.dK kvs)/\y=kV k/\kvs.length < VW/\H'=ai H a (.dK (putK kvs k v)))\/
 ∃kvs k b,H a=some (.dT kvs)/\y= .ref b/\H b=some (.tup (k.map kV))/\kvs.length < VW/\H'=ai H a (.dT (putK kvs k v))
theorem cB.k{H:Hp}{a:VO}{kvs:List (ak×V)}{k:ak}(e:H a=some (.dK kvs)):cB H a (kV k) (dE kvs k):= .inl ⟨kvs,k,.inl e,rfl,rfl⟩
theorem qG.k{H:Hp}{a:VO}{kvs:List (ak×V)}{k:ak}{v:V}(e:H a=some (.dK kvs))(hl:kvs.length < VW):qG H a (kV k) v (ai H a (.dK (putK kvs k v))):= .inl ⟨kvs,k,e,rfl,hl,rfl⟩
section
variable {X:Cx} {pins:List (VO×Obj)} {σ:St} {H:Hp} {s:VP} {a:VO} {y v:V} {u r:VM} {o:Option V} {A:V2} {E:VM->VP->Prop}
theorem af.big(I:af X pins σ H s):Wr < s.heap.objs.size:=by
 have h:VR < s.heap.objs.size:=(I.mod.glob.keeps I.bk).lt;exact Vo VG h
theorem HF{Q:VM->VP->Prop}(hu:A.units+1 < Wb)(I:af X pins σ H s)(g:cB H a y (some v))(ry:aE y u)(h:∀w' s',af X pins σ H s'->aE v w'->Q w' s'):
 VS (VU X.prog X.w) A (WM (.ref a) u) Q E s:=by
 rcases g with⟨kvs,k,e,ey,l⟩ | ⟨kvs,k,b,e,ey,eb,l⟩
 ·subst ey;obtain⟨z,hd,vs,rel,dd⟩:=kG I.hok e;obtain⟨w',hw,rw'⟩:=dH.some_of (v:=v) (o:=valueAt vs k) (by rw [l];exact rel.val k);exact wpAny_getItem_of (qE ry) dd.mapOf hw (h w' _ (I.tok _) rw')
 ·subst ey;cases (show u=Pc b from ry);obtain⟨z,hd,xs,rel,dd⟩:=mX I.hok e;obtain⟨w',hw,rw'⟩:=dH.some_of (v:=v) (o:=(atKey xs k).map (·.2)) (by rw [l];exact rel.val k);obtain⟨p,hp,hp2⟩:=QM.mp hw;refine wpAny_getItem_heap (Ws hu) (qF I.hok eb) dd hp ?_;rw [hp2];exact h w' _ (I.tok _) rw'
theorem HG{Q:VM->VP->Prop}(hu:A.units+1 < Wb)(I:af X pins σ H s)(g:cB H a y o)(ry:aE y u)(h:∀s',af X pins σ H s'->Q (.bool o.isSome) s'):
 VS (VU X.prog X.w) A (V8 .In u (.ref a)) Q E s:=by
 rcases g with⟨kvs,k,e,ey,l⟩ | ⟨kvs,k,b,e,ey,eb,l⟩
 ·subst ey;obtain⟨z,hd,vs,rel,dd⟩:=kG I.hok e;refine wpAny_in_of (qE ry) hd dd.mapOf ?_;rw [<-(rel.val k).isSome_eq,<-l];exact h _ (I.tok _)
 ·subst ey;cases (show u=Pc b from ry);obtain⟨z,hd,xs,rel,dd⟩:=mX I.hok e;refine wpAny_in_heap (Ws hu) (qF I.hok eb) hd dd ?_;have q:=(rel.val k).isSome_eq;rw [SG] at q;rw [<-q,<-l];exact h _ (I.tok _)
theorem HH{Q:VM->VP->Prop}(hu:A.units+1 < Wb)(I:af X pins σ H s)(g:cB H a y o)(ry:aE y u)(h:∀s',af X pins σ H s'->Q (.bool (!o.isSome)) s'):
 VS (VU X.prog X.w) A (V8 .NotIn u (.ref a)) Q E s:=by
 rcases g with⟨kvs,k,e,ey,l⟩ | ⟨kvs,k,b,e,ey,eb,l⟩
 ·subst ey;obtain⟨z,hd,vs,rel,dd⟩:=kG I.hok e;refine wpAny_notIn_of (qE ry) hd dd.mapOf ?_;rw [<-(rel.val k).isSome_eq,<-l];exact h _ (I.tok _)
 ·subst ey;cases (show u=Pc b from ry);obtain⟨z,hd,xs,rel,dd⟩:=mX I.hok e;refine wpAny_notIn_heap (Ws hu) (qF I.hok eb) hd dd ?_;have q:=(rel.val k).isSome_eq;rw [SG] at q;rw [<-q,<-l];exact h _ (I.tok _)
theorem Am{h':V0}{t':Nat}{ob:HO}(I:af X pins σ H s)(mu:sj (H a))(hs:Q0 a s.heap h')(he:∃q,h'.get? a=some q)(new:cb X.prog X.w (ai H a ob) h' a ob):
 af X pins σ (ai H a ob) {s with heap:=h',toks:=t'}:=
 I.write (x:=a) (e:=a) mu (.inl rfl) (λb q hb z=>(hs.2 b hb).trans z) he new
theorem HI{P:VY}{w:VZ}{H':Hp}{h':V0}{kvs:List (ak×V)}{vs:List (ak×VM)}(z:kvs.length<=VW)(hd:(a==Wr)=false)(rel:KV kvs vs)(dd:h'.DictOf (dn P w) a vs):
 cb P w H' h' a (.dK kvs):=⟨z,hd,vs,rel,dd⟩
theorem HJ{H':Hp}{Q:Unit->VP->Prop}(hu:A.units+1 < Wb)(I:af X pins σ H s)(g:qG H a y v H')(ry:aE y u)(rv:aE v r)(h:∀s',af X pins σ H' s'->Q () s'):
 VS (VU X.prog X.w) A (setItem (.ref a) u r) Q E s:=by
 rcases g with⟨kvs,k,e,ey,l,eH⟩ | ⟨kvs,k,b,e,ey,eb,l,eH⟩
 ·subst ey eH;obtain⟨z,hd,vs,rel,dd⟩:=HD I.hok e;have hz:vs.length<=VW:=by rw [<-rel.length];exact z
  have hl:(putK kvs k v).length<=VW:=by have:=Aj kvs k v;omega
  refine wpAny_setItem_pairs (hsz:=hz) (qE ry) dd λh' dd' hs=>h _ ?_;have he:∃q,h'.get? a=some q:=let ⟨q,_,_,hq,_⟩:=dd';⟨q,hq⟩
  exact Am I (by rw [e];exact QG) hs he (HI hl hd (rel.put k rv) dd')
 ·subst ey eH;cases (show u=Pc b from ry);obtain⟨z,hd,xs,rel,dd⟩:=HE I.hok e;have hz:xs.length<=VW:=by rw [<-Tf rel];exact z
  have hl:(putK kvs k v).length<=VW:=by have:=Aj kvs k v;omega
  refine wpAny_setItem_heap (hsz:=hz) (Ws hu) (qF I.hok eb) dd λh' dd' hs=>h _ ?_;obtain⟨q,es,ep,hq,h2,h3,h4,_,h5⟩:=dd';refine Am I (by rw [e];exact QG) hs ⟨q,hq⟩ ⟨hl,hd,_,(rel.put k eb rv).keeps λc ys ec=>?_,q,es,ep,hq,h2,h3,h4,h5⟩;rw [az (E4 ec e (λz=>nomatch z))];exact ec
end
def uK(i:VV):Prop:=∀ov iv,Xe i false ov iv=operate [ov,iv] (WM ov iv)
theorem HK{prog:VY}{w:VZ}{A:V2}{E:VM->VP->Prop}{s:VP}{env:Env}{value slice:VV}{pos:Pos}{T id:String}{Q:VM->VP->Prop}
 (hl:typeLookup (.type T) "__getitem__"=pure (some (.builtin id)))(hs:uK slice)
 (h:VS (VU prog w) A (eval value env) (λo s₁=>VS (VU prog w) A (eval slice env) (λi s₂=>s₂.TypeIs o T/\VS (VU prog w) A (WM o i) Q E s₂) E s₁) E s):
 VS (VU prog w) A (eval (.Subscript value slice pos) env) Q E s:=by
 refine Subscript_ (Wa h (λo s₁ h₁=>Wa h₁ (λi s₂ h₂=>?_) λ_ _ x=>x) λ_ _ x=>x);obtain⟨hT,h₂⟩:=h₂;unfold subscriptTail;refine VN ?_;rw [getitemInPython_of_ne hT.not_modules];refine VN (wpAny_specialOf hT hl ?_);have fin:VS (VU prog w) A (Xe slice false o i) (λr s₃=>VS (VU prog w) A (letTemporaryGo value o r >>=λ_=>pure r) Q E s₃) E s₂:=by
  rw [hs o i];exact wpAny_operating (Wa h₂ (λr s₃ h₃=>VN (wpAny_letTemporaryGo (VQ h₃))) λ_ _ x=>x)
 first
  | exact VQ (VN fin)
  | exact VN (VQ (VN fin))
  | exact VN fin
theorem HL{X:Cx}{pins:List (VO×Obj)}{σ:St}{H:Hp}{s:VP}{a:VO}{y:V}{o:Option V}(I:af X pins σ H s)(g:cB H a y o):s.TypeIs (.ref a) "dict":=by
 rcases g with⟨kvs,k,e,_,_⟩ | ⟨kvs,k,b,e,_,_,_⟩
 ·obtain⟨_,_,vs,_,dd⟩:=kG I.hok e;exact dd.typeIs
 ·obtain⟨_,_,xs,_,dd⟩:=mX I.hok e;exact dd.typeIs
def HM(td ty:TE):TE:=λσ H Q=>td σ H λx H1=>ty σ H1 λy H2=>∃a v,x= .ref a/\cB H2 a y (some v)/\Q v H2
def HN(ty td:TE):TE:=λσ H Q=>ty σ H λy H1=>td σ H1 λx H2=>∃a o,x= .ref a/\cB H2 a y o/\Q (.bl o.isSome) H2
def HP(ty td:TE):TE:=λσ H Q=>ty σ H λy H1=>td σ H1 λx H2=>∃a o,x= .ref a/\cB H2 a y o/\Q (.bl (!o.isSome)) H2
def An(td ty tv:TE):TS:=λD σ H=>tv σ H λv H1=>td σ H1 λx H2=>ty σ H2 λy H3=>∃a H4,x= .ref a/\qG H3 a y v H4/\D.nx σ H4
section
variable {X:Cx} {o i e value:VV} {pos pos' tpos:Pos} {td ty tv:TE}
theorem Ao(hu:X.A.units+1 < Wb)(ho:PE X o td)(hi:PE X i ty)(hs:uK i):PE X (.Subscript o i pos) (HM td ty):=by
 intro pins s σ H Q I h;refine HK PySem.F.slot_dict_getitem.lookup hs (aB (ho pins s σ H _ I h) λu s1 ⟨x,H1,I1,rx,q1⟩=>aB (hi pins s1 σ H1 _ I1 q1) λiv s2 ⟨y,H2,I2,ry,a,v,ex,g,q2⟩=>?_);subst ex;obtain rfl:u=Pc a:=rx;exact⟨HL I2 g,HF hu I2 g ry λw' s3 I3 rw'=>⟨v,H2,I3,rw',q2⟩⟩
theorem HQ(hu:X.A.units+1 < Wb)(hi:PE X i ty)(ho:PE X o td):PC X .In i o (HN ty td):=by
 intro pins s σ H Q I h;refine aB (hi pins s σ H _ I h) λiv s1 ⟨y,H1,I1,ry,q1⟩=>aB (ho pins s1 σ H1 _ I1 q1) λu s2 ⟨x,H2,I2,rx,a,ov,ex,g,q2⟩=>?_;subst ex;obtain rfl:u=Pc a:=rx;exact HG hu I2 g ry λs3 I3=>⟨.bl ov.isSome,H2,I3,rfl,q2⟩
theorem Ap(hu:X.A.units+1 < Wb)(hi:PE X i ty)(ho:PE X o td):PC X .NotIn i o (HP ty td):=by
 intro pins s σ H Q I h;refine aB (hi pins s σ H _ I h) λiv s1 ⟨y,H1,I1,ry,q1⟩=>aB (ho pins s1 σ H1 _ I1 q1) λu s2 ⟨x,H2,I2,rx,a,ov,ex,g,q2⟩=>?_;subst ex;obtain rfl:u=Pc a:=rx;exact HH hu I2 g ry λs3 I3=>⟨.bl (!ov.isSome),H2,I3,rfl,q2⟩
theorem wx(hu:X.A.units+1 < Wb)(ho:PE X o td)(hi:PE X i ty)(hv:PE X value tv)(hs:V6 value (some (.Subscript o i pos')) pos.line X.env=pure false):
 PS X (.Assign [.Subscript o i pos'] value pos) (An td ty tv):=by
 intro pins s σ H D I h;refine wpAny_Assign_Subscript (aB (hv pins s σ H _ I h) λr s1 ⟨v,H1,I1,rv,q1⟩=>aB (ho pins s1 σ H1 _ I1 q1) λu s2 ⟨x,H2,I2,rx,q2⟩=>aB (hi pins s2 σ H2 _ I2 q2) λiv s3 ⟨y,H3,I3,ry,a,H4,ex,g,q3⟩=>?_) hs;subst ex;obtain rfl:u=Pc a:=rx;exact HJ hu I3 g ry rv λs4 I4=>⟨σ,H4,I4,q3⟩
end
theorem Aq{P:VY}{w:VZ}{H:Hp}(h:V0)(hb:Wr < h.objs.size):cb P w H (h.push {cls:= .type "dict",data:= .dict #[]}) h.objs.size (.dK []):=
 ⟨Pe _,beq_eq_false_iff_ne.mpr (Ne.symm (OV hb)),[],.nil,Heap.DictOf.new h⟩
def HR:TE:=λ_ H Q=>∀p,H p=none->Q (.ref p) (ai H p (.dK []))
section
variable {X:Cx} {pos:Pos}
theorem HS:PE X (.Dict [] [] pos) HR:=λpins s σ H Q I h=>
 wpAny_Dict_empty ⟨.ref s.heap.objs.size,_,I.laid (a:=s.heap.objs.size) (o:= .dK []) (t':=s.toks) (λ_ _ q=>Oo _ q) (Oj _) (Aq s.heap I.big),rfl,h _ (I.hok.fresh (Oj _))⟩
end
structure M1 (X:Cx) (o:VV) (m:Str) (apos:Pos) (e:VV) (cpos:Pos):Prop where
 base:Wi o m X.env (eval o X.env)=eval o X.env
 few:((V5 cpos (VT [e] X.env)).all (λx=>!x.1) && (Wv cpos (Wl [] X.env)).all (λx=>x.1.isSome)
  && decide (([e]:List VV).length+([]:List WB).length+(if ([]:List WB).isEmpty then 0 else 1) < 30))=true
 line:(apos.endLine==cpos.line)=true
 trees:V5 cpos (VT [e] X.env)=[(false,eval e X.env)]
structure M2 (X:Cx) (o:VV) (m:Str) (apos:Pos) (e f:VV) (cpos:Pos):Prop where
 base:Wi o m X.env (eval o X.env)=eval o X.env
 few:((V5 cpos (VT [e,f] X.env)).all (λx=>!x.1) && (Wv cpos (Wl [] X.env)).all (λx=>x.1.isSome)
  && decide (([e,f]:List VV).length+([]:List WB).length+(if ([]:List WB).isEmpty then 0 else 1) < 30))=true
 line:(apos.endLine==cpos.line)=true
 trees:V5 cpos (VT [e,f] X.env)=[(false,eval e X.env),(false,eval f X.env)]
def wy(H:Hp)(a:VO):Prop:=(∃kvs,Rd H a (.dK kvs))\/∃kvs,Rd H a (.dT kvs)
theorem Ar{X:Cx}{pins:List (VO×Obj)}{σ:St}{H:Hp}{s:VP}{a:VO}(I:af X pins σ H s)(d:wy H a):
 s.TypeIs (.ref a) "dict"/\(∀b,Pc a= .ref b->∃ob,s.heap.get? b=some ob/\ob.dict=none)/\(a==Wr)=false:=by
 rcases d with⟨kvs,e⟩ | ⟨kvs,e⟩
 ·obtain⟨_,hd,vs,_,dd⟩:=kG I.hok e;refine⟨dd.typeIs,λb q=>?_,hd⟩;cases q;obtain⟨ob,_,_,h1,h2,_⟩:=dd;exact⟨ob,h1,h2.2.1⟩
 ·obtain⟨_,hd,xs,_,dd⟩:=mX I.hok e;refine⟨dd.typeIs,λb q=>?_,hd⟩;cases q;obtain⟨ob,_,_,h1,h2,_⟩:=dd;exact⟨ob,h1,h2.2.1⟩
section
variable {X:Cx} {pins:List (VO×Obj)} {σ:St} {H:Hp} {s:VP} {a:VO} {y d:V} {u r:VM} {o:Option V} {A:V2} {E:VM->VP->Prop}
theorem HU{Q:VM->VP->Prop}(hu:A.units+1 < Wb)(I:af X pins σ H s)(g:cB H a y o)(ry:aE y u)(h:∀w' s',af X pins σ H s'->aE (o.getD .non) w'->Q w' s'):
 VS (VU X.prog X.w) A (call (.builtin "dict.get") [.ref a,u]) Q E s:=by
 rcases g with⟨kvs,k,e,ey,l⟩ | ⟨kvs,k,b,e,ey,eb,l⟩
 ·subst ey;obtain⟨z,hd,vs,rel,dd⟩:=kG I.hok e;refine call_meetsIn QV dd.typeIs RU (TQ _ _) (meets_dict_get (dn X.prog X.w) a (qE ry) hd) ⟨_,dd.mapOf,h _ _ (I.tok _) ?_⟩;rw [l];exact(rel.val k).getD rfl
 ·subst ey;cases (show u=Pc b from ry);obtain⟨z,hd,xs,rel,dd⟩:=mX I.hok e;refine call_meetsIn QV dd.typeIs RU (TQ _ _) (meetsH_dict_get (WY (dn X.prog X.w)) a b hd) ⟨Ws hu,k,xs,qF I.hok eb,dd,h _ _ (I.tok _) ?_⟩;rw [l];exact(rel.val k).getD rfl
theorem HV{Q:VM->VP->Prop}(hu:A.units+1 < Wb)(I:af X pins σ H s)(g:cB H a y o)(ry:aE y u)(rd:aE d r)(h:∀w' s',af X pins σ H s'->aE (o.getD d) w'->Q w' s'):
 VS (VU X.prog X.w) A (call (.builtin "dict.get") [.ref a,u,r]) Q E s:=by
 rcases g with⟨kvs,k,e,ey,l⟩ | ⟨kvs,k,b,e,ey,eb,l⟩
 ·subst ey;obtain⟨z,hd,vs,rel,dd⟩:=kG I.hok e;refine call_meetsIn QV dd.typeIs RU (TR _ _ _) (meets_dict_get_default (dn X.prog X.w) a (qE ry) hd r) ⟨_,dd.mapOf,h _ _ (I.tok _) ?_⟩;rw [l];exact(rel.val k).getD rd
 ·subst ey;cases (show u=Pc b from ry);obtain⟨z,hd,xs,rel,dd⟩:=mX I.hok e;refine call_meetsIn QV dd.typeIs RU (TR _ _ _) (meetsH_dict_get_default (WY (dn X.prog X.w)) a b hd r) ⟨Ws hu,k,xs,qF I.hok eb,dd,h _ _ (I.tok _) ?_⟩;rw [l];exact(rel.val k).getD rd
end
def HW(td ty:TE):TE:=λσ H Q=>td σ H λx H1=>∃a,x= .ref a/\wy H1 a/\ty σ H1 λy H2=>∃o,cB H2 a y o/\Q (o.getD .non) H2
def HX(td ty tx:TE):TE:=λσ H Q=>td σ H λx H1=>∃a,x= .ref a/\wy H1 a/\ty σ H1 λy H2=>tx σ H2 λz H3=>∃o,cB H3 a y o/\Q (o.getD z) H3
section
variable {X:Cx} {o e f:VV} {apos cpos:Pos} {td ty tx:TE}
theorem As(hu:X.A.units+1 < Wb)(ho:PE X o td)(he:PE X e ty)(m:M1 X o "get" apos e cpos):PE X (.Call (.Attribute o "get" apos) [e] [] cpos) (HW td ty):=by
 intro pins s σ H Q I h;refine wpAny_Call_method m.base m.few m.line TU QV Ua (aB (ho pins s σ H _ I h) λu s1 ⟨x,H1,I1,rx,a,ex,d,q1⟩=>?_);subst ex;obtain rfl:u=Pc a:=rx;obtain⟨t1,t2,_⟩:=Ar I1 d;refine⟨t1,t2,?_⟩;rw [m.trees];refine SJ rfl (SW (Sr (aB (he pins s1 σ H1 _ I1 q1) λiv s2 ⟨y,H2,I2,ry,ov,g,q2⟩=>Ts ?_)));exact HU hu I2 g ry λw' s3 I3 rw'=>⟨_,H2,I3,rw',q2⟩
theorem HY(hu:X.A.units+1 < Wb)(ho:PE X o td)(he:PE X e ty)(hf:PE X f tx)(m:M2 X o "get" apos e f cpos):PE X (.Call (.Attribute o "get" apos) [e,f] [] cpos) (HX td ty tx):=by
 intro pins s σ H Q I h;refine wpAny_Call_method m.base m.few m.line TU QV Ua (aB (ho pins s σ H _ I h) λu s1 ⟨x,H1,I1,rx,a,ex,d,q1⟩=>?_);subst ex;obtain rfl:u=Pc a:=rx;obtain⟨t1,t2,_⟩:=Ar I1 d;refine⟨t1,t2,?_⟩;rw [m.trees];refine SJ rfl (SW (Sr (aB (he pins s1 σ H1 _ I1 q1) λiv s2 ⟨y,H2,I2,ry,q2⟩=>
  Sr (aB (hf pins s2 σ H2 _ I2 q2) λfv s3 ⟨z,H3,I3,rz,ov,g,q3⟩=>Ts ?_))))
 exact HV hu I3 g ry rz λw' s4 I4 rw'=>⟨_,H3,I4,rw',q3⟩
end
open PySem PySem.Spec PyProof.Rows PySem.W
section
variable {X:Cx} {H0:Hp} {O0:Ex}
def litsOf:List VV->Option (List VL)
 | []=>some []
 | .Constant (.int i) _ _::r=>(litsOf r).map (.int i::·)
 | .Constant (.str x) _ _::r=>(litsOf r).map (.str x::·)
 | _::_=>none
def i4(ds:List VL):DA:=λ_ Q=>Q ds
theorem uL:∀{es:List VV}{ds:List VL},litsOf es=some ds->PA X es (fV X.K H0 O0 (i4 ds))
 | [],ds,h=>by cases h;exact ao
 | e::r,ds,h=>by
  cases e with
  | Constant c j p=>
   cases c with
   | int i=>
    have h':(litsOf r).map (.int i::·)=some ds:=h;cases q:litsOf r with
    | none=>rw [q] at h';cases h'
    | some ms=>rw [q] at h';cases h';exact aa ah (uL q)
   | str x=>
    have h':(litsOf r).map (.str x::·)=some ds:=h;cases q:litsOf r with
    | none=>rw [q] at h';cases h'
    | some ms=>rw [q] at h';cases h';exact aa aY (uL q)
   | _=>cases h
  | _=>cases h
def litsE:VV->Option (List VL)
 | .List es _=>litsOf es
 | _=>none
theorem sU{e:VV}{ds:List VL}(h:litsE e=some ds):FE X H0 O0 e (iW (i4 ds)):=by
 cases e with
 | List es p=>exact dN (uL h)
 | _=>cases h
theorem wz{e:VV}{ds:List VL}{x:Option VV}{n:Nat}{env:Env}(h:litsE e=some ds):V6 e x n env=pure false:=by
 cases e with
 | List es p=>rfl
 | _=>cases h
end
open PySem PySem.Spec PyProof.Rows PySem.W
structure mY (n:Nat) (x:Str):Prop where
 ok:Om x=true
 le:x.length<=n
theorem sV{x:Str}:Om x=true↔∀c∈x.cps.toList,c < 0x110000:=by
 unfold Om;rw [<-Array.all_toList,QS];simp
theorem HZ(x y:Str):(x++y).cps=x.cps++y.cps:=rfl
theorem Au(x y:Str):(x++y).length=x.length+y.length:=by
 show(x.cps++y.cps).size=_;rw [Array.size_append];rfl
theorem mY.append{a b:Nat}{x y:Str}(h:mY a x)(h':mY b y):mY (a+b) (x++y):=by
 refine⟨sV.mpr λc hc=>?_,by rw [Au];have:=h.le;have:=h'.le;omega⟩;rw [HZ,Array.toList_append] at hc;rcases OL.mp hc with z | z
 ·exact sV.mp h.ok c z
 ·exact sV.mp h'.ok c z
theorem mY.chr{c:Nat}(h:c < 0x110000):mY 1 ⟨#[c]⟩:=⟨sV.mpr λd hd=>by
 have:d=c:=by simpa using hd
 rw [this];exact h,Oj _⟩
def rB:Str:="abcdefghijklmnopqrstuvwxyz"
theorem Ia:rB.cps.toList.length=26:=cp
theorem Ib:∀c∈rB.cps.toList,c < 0x110000:=cp
theorem Av{j:Int}(h0:0<=j)(h1:j < 26):∃c,atI rB.cps.toList j=some c/\rB.cps.toList[j.toNat]?=some c/\c < 0x110000:=by
 obtain⟨k,rfl⟩:=Q9 h0;have hk:k < rB.cps.toList.length:=by rw [Ia];omega
 refine⟨rB.cps.toList[k],gF (by simp [hk]),by simp [hk],Ib _ (Qy hk)⟩
structure bV (n:Nat) (d:VL):Prop where
 can:d.canLay0=true
 dep:d.depth<=n
theorem bV.shp{n:Nat}{d:VL}(h:bV n d)(hn:n<=64):Q1 d=true:=by
 unfold Q1;rw [h.can,decide_eq_true (O6 h.dep hn)];rfl
theorem bV.mono{n m:Nat}{d:VL}(h:bV n d)(hn:n<=m):bV m d:=⟨h.can,O6 h.dep hn⟩
theorem ik{x:Str}(h:Om x=true):bV 1 (.str x):=⟨by simpa [Pj] using h,by simp [Sv]⟩
theorem sW{i:Int}:bV 1 (.int i):=⟨by simp [Pj],by simp [Sv]⟩
theorem Ic{i:Bool}:bV 1 (.bool i):=⟨by simp [Pj],by simp [Sv]⟩
theorem uM{n:Nat}:∀{ds:List VL},(∀d∈ds,bV n d)->Qe ds=true/\Sk ds<=n
 | [],_=>⟨by simp [Qe],by simp [Sk]⟩
 | d::r,h=>by
  obtain⟨a,b⟩:=uM (ds:=r) λe he=>h e (by simp [he]);have c:=h d (by simp);refine⟨by rw [Qe,c.can,a];rfl,?_⟩;rw [Sk];exact Nat.max_le.mpr ⟨c.dep,b⟩
theorem eO{n:Nat}{ds:List VL}(h:∀d∈ds,bV n d):bV (n+1) (.tuple ds):=by
 obtain⟨a,b⟩:=uM h;refine⟨by simpa [Pj] using a,?_⟩;rw [Sv];omega
open PySem PySem.Spec PyProof.Rows
def PU(X:Cx)(e:VV)(te:TE):Prop:=∀(i:Nat)(x:Str)(pos' spos:Pos)(hN:X.N.Nodup)(hxi:X.N[i]?=some x)(hx:gC X.env.scope x)(hsw:V6 e (some (.Name x pos')) spos.line X.env=pure true)
 (hfn:X.fn x=true\/X.env.scope.names.lookup x=some .local),PS X (.Assign [.Name x pos'] e spos) (sA te (jO i))
theorem PU.imp{X:Cx}{e:VV}{t u:TE}(h:PU X e t)(i:∀σ H Q,u σ H Q->t σ H Q):PU X e u:=λi' x p1 p2 hN hxi hx hsw hfn=>(h i' x p1 p2 hN hxi hx hsw hfn).imp λD σ H z=>i σ H _ z
section
variable {X:Cx} {H0:Hp} {O0:Ex}
section
variable {tg iter elt:VV} {ifs:List VV} {scope:Wn} {N':List Str} {k:Nat} {fr:List Nat} {g:TG} {dg:DG} {t:DT} {ta:DA} {tc:DB} {te:DT} {pos p ps:Pos}
theorem uN{wi:TI}{tc:TT}{te:TE}(hc:X.calm=true)(S:bb X.env.scope X.N N' k fr scope)(hi:PI X tg iter wi)
 (hg:∀fp C s H,PG (br X scope N' fp C s H) tg g)(hf:∀fp C s H,dZ (br X scope N' fp C s H) ifs tc)(he:∀fp C s H,PE (br X scope N' fp C s H) elt te)
 (hs:∀x,V3 iter X.env x=pure x:=by intro _;rfl):PU X (.ListComp elt [⟨tg,iter,ifs,0⟩] scope pos) (mP wi g tc te k fr):=
 λ_ _ _ _ hN hxi hx hsw hfn=>G7 hN hxi hx hc S hi hg hf he hsw hs hfn
theorem Aw(hc:X.calm=true)(S:bb X.env.scope X.N N' k fr scope)(hi:DF X H0 O0 iter t)(gd:GD X.K g dg)(hk:ie g k)(hfr:fr.Nodup)
 (hg:∀fp C s H,PG (br X scope N' fp C s H) tg g)(hf:∀fp C s H,dZ (br X scope N' fp C s H) ifs (bK X.K H0 O0 tc))(he:∀fp C s H,PE (br X scope N' fp C s H) elt (up X.K H0 O0 te))
 (hs:∀x,V3 iter X.env x=pure x:=by intro _;rfl):PU X (.ListComp elt [⟨tg,iter,ifs,0⟩] scope pos) (qx X.K H0 O0 (ig t dg tc te k fr)):=
 (uN hc S (tW hi) hg hf he hs).imp λσ H Q uu56=>by obtain⟨O,δ,Qd,w,q,kk⟩:=uu56;exact⟨O,δ,_,w,q,λd v H1 uu57 s1 r1=>by
  obtain⟨xs,e,hz,q1⟩:=uu57;subst e;obtain⟨a,vs,rfl,hq,rr⟩:=r1.lst;refine⟨a,rfl,⟨_,hq⟩,λD hD=>qC (cy.list hq) gd hfr (λv _ H' R h=>hk fr σ v H' R h) (λ_ _ _ z=>z) (λ_ _ _ z=>z) (λD H' hD s' o e=>s' _ _ e (cM e hD)) rr (w.mono s1) (by rw [rr.length];exact hz) q1 (λds us p H' z s' hp r'=>kk ds us p H' z (s1.trans s') hp r') D hD⟩⟩
theorem Ie(hc:X.calm=true){a:VV}(S:bb X.env.scope X.N N' k fr scope)(hgl:Gl X "range")(hm:X.mg "range"=none)(ha:PA X [a] (gI X.K H0 O0 ta))(gd:GD X.K g dg)(hk:ie g k)(hfr:fr.Nodup)
 (hg:∀fp C s H,PG (br X scope N' fp C s H) tg g)(hf:∀fp C s H,dZ (br X scope N' fp C s H) ifs (bK X.K H0 O0 tc))(he:∀fp C s H,PE (br X scope N' fp C s H) elt (up X.K H0 O0 te))
 (hst:VT [a] X.env=[(false,eval a X.env)]:=by rfl)(hs:∀x,V3 (.Call (.Name "range" p) [a] [] ps) X.env x=pure x:=by intro _;rfl):
 PU X (.ListComp elt [⟨tg,(.Call (.Name "range" p) [a] [] ps),ifs,0⟩] scope pos) (qx X.K H0 O0 (iZ ta dg tc te k fr)):=
 (uN hc S (vR hgl hm ha hst) hg hf he hs).imp λσ H Q uu58=>by obtain⟨O,δ,Qd,w,q,kk⟩:=uu58;exact⟨O,δ,_,w,q,λds vs H1 uu59 s1 r1=>by
  obtain⟨j,e,b1,b2,q1⟩:=uu59;subst e;cases r1 with
  | cons r1 r2=>
   cases r2;cases r1.int;have hb:(VW:Int) < 2 ^ 62:=VG
   exact⟨j,rfl,b1,VH,λD hD=>qC (P:=λ_=>True) cy.rng gd hfr (λv _ H' R h=>hk fr σ v H' R h) (λ_ _ _ z=>z) (λ_ _ _ z=>z) (λ_ _ _ _=>trivial) (aj.rng _) (w.mono s1) (by rw [Of,RX];omega) q1 (λds us p H' z s' hp r'=>kk ds us p H' z (s1.trans s') hp r') D hD⟩⟩
end
theorem kH{i:Nat}{x:Str}{e:VV}{t:DA}{pos pos':Pos}(hN:X.N.Nodup)(hi:X.N[i]?=some x)(hx:gC X.env.scope x)(he:PU X e (qx X.K H0 O0 t))(hs:V6 e (some (.Name x pos')) pos.line X.env=pure true:=by rfl)(hf:X.fn x=true\/X.env.scope.names.lookup x=some .local:=by first | exact .inl rfl | exact .inr rfl | assumption):
 PS X (.Assign [.Name x pos'] e pos) (bo X.K H0 O0 (iU i (dL t))):=
 (he _ _ _ _ hN hi hx hs hf).imp λD σ H ⟨O,δ,E,w,q,k1,k2,k3,k4⟩=>⟨O,δ,_,w,q,λds vs p H1 q1 s1 hp r1=>
  k1 O _ _ _ q1 ((w.mono (s1.trans (aw.new hp))).set (.lst (.inl bh) (uA w s1 hp) (r1.mono (aw.new hp)))) (.same (s1.trans (aw.new hp)))⟩
end
open PySem PySem.Spec PyProof.Rows PySem.W
section
variable {X:Cx} {H0:Hp} {O0:Ex}
def wA(K:Oe)(neg:Bool):R2:=λx y H Q=>∃O dx ds dy,Sh K H O x dx/\Sh K H O y dy/\(dy= .list ds\/dy= .tuple ds)/\cx dx/\Qe ds=true/\Q (.bl (if neg then !(ds.any λd=>ON d dx) else ds.any λd=>ON d dx)) H
theorem uO{A:V2}{k:Nat}{xs:List VL}{d:VL}(hd:cx d)(hr:bf k A):A.units+1+min (Sk xs) d.depth < Wb:=by
 have:=SeqAt.depth_of_shaped hd;have h1:min (Sk xs) d.depth<=d.depth:=UW _ _;have:=hr.un;omega
theorem Ax{k:Nat}(hr:bf k X.A):bH X (V8 .In) (wA X.K false):=by
 intro pins s σ H x y v u Q I rx ry h;obtain⟨O,dx,ds,dy,hx,hy,e,sx,sy,q⟩:=h;obtain⟨as,ra⟩:=hU I hx.all (PZ sx) rx;rcases e with e | e <;> subst e
 ·obtain⟨bs,rb⟩:=hU I hy.all (by simpa [Pj] using sy) ry;exact SeqAt.in_list_reads rb ra sy (PZ sx) (uO sx hr) (iN I q rfl)
 ·obtain⟨bs,rb⟩:=hU I hy.all (by simpa [Pj] using sy) ry;exact SeqAt.in_tuple_reads rb ra sy (PZ sx) (uO sx hr) (iN I q rfl)
theorem Ig{k:Nat}(hr:bf k X.A):bH X (V8 .NotIn) (wA X.K true):=by
 intro pins s σ H x y v u Q I rx ry h;obtain⟨O,dx,ds,dy,hx,hy,e,sx,sy,q⟩:=h;obtain⟨as,ra⟩:=hU I hx.all (PZ sx) rx;rcases e with e | e <;> subst e
 ·obtain⟨bs,rb⟩:=hU I hy.all (by simpa [Pj] using sy) ry;exact SeqAt.notIn_list_reads rb ra sy (PZ sx) (uO sx hr) (iN I q rfl)
 ·obtain⟨bs,rb⟩:=hU I hy.all (by simpa [Pj] using sy) ry;exact SeqAt.notIn_tuple_reads rb ra sy (PZ sx) (uO sx hr) (iN I q rfl)
def kI(neg:Bool):VL->VL->(VL->Prop)->Prop:=λx y Q=>∃ds,(y= .list ds\/y= .tuple ds)/\cx x/\Qe ds=true/\Q (.bool (if neg then !(ds.any λd=>ON d x) else ds.any λd=>ON d x))
theorem wB{K:Oe}{neg:Bool}:cu K (wA K neg) (kI neg):=λH O x y dx dy Qd R _ hx hy uu61 k=>by obtain⟨ds,e,a,b,q⟩:=uu61;exact⟨O,dx,ds,dy,hx,hy,e,a,b,k _ _ H q (aw.refl _) (.bl _)⟩
theorem Ih{prog:VY}{w:VZ}{A:V2}{E:VM->VP->Prop}{s:VP}{t sl:VO}{items:Array VM}{vl vu:VM}{lo hi:Option Int}{Q:VM->VP->Prop}(ht:IsTup s.heap t items)(hs:s.heap.IsSliceOf sl vl vu .none)(pl:IsPart vl lo)(pu:IsPart vu hi)
 (hw:HT.sIx items.size 0 lo=0/\HT.sIx items.size items.size hi=items.size)(h:Q (.ref t) s):VS (VU prog w) A (WM (.ref t) (.ref sl)) Q E s:=by
 obtain⟨os,hos,hcs,hds⟩:=id hs;have hTs:s.TypeIs (.ref sl) "slice":=⟨os,hos,hcs⟩;unfold WM
 try with_reducible refine Wf ?_
 first | refine VN (VQ ?_) | skip
 refine VN (wpAny_sequenceKey ht.typeIs VG ?_);refine VN (Wj (name:=Od "__getitem__") ht.typeIs QX
  (Wc QX ht.typeIs PyProof.Rows.entry_tuple_getitem ?_ (PyProof.Rows.args_tuple_getitem _ _)))
 show VS _ _ (Ti (.ref t) >>=_) _ _ s;refine VN (tupleItemsOf_ ht ?_);refine VN (W7 hTs ?_);rw [VJ VG];refine VN (HT.sliceApplied_gen hs pl pu ?_);show VS _ _ (if (((HT.sIx items.size 0 lo:Nat):Int)==0 && (1:Int)==1 && (HT.sIx items.size items.size hi - HT.sIx items.size 0 lo)==items.size)=true then _ else _) _ _ s;rw [VJ (by rw [hw.1,hw.2];simp)];unfold Builtin.Tuple.tupleIsExact;refine VN (VN (W7 ht.typeIs (VQ ?_)));rw [VJ VG];exact VN (W5 (VQ ⟨_,rfl,VQ h⟩))
def Ii(K:Oe):V->Option Int->Option Int->Hp->VK->Prop:=λx lo hi H Q=>∃a xs,x= .ref a/\bz K H a xs/\
 ((HT.sIx xs.length 0 lo=0/\HT.sIx xs.length xs.length hi=xs.length)->Q x H)/\(¬(HT.sIx xs.length 0 lo=0/\HT.sIx xs.length xs.length hi=xs.length)->∀p,H p=none->Q (.ref p) (ai H p (.tup (jQ xs lo hi))))
theorem Ij:uj X (Ii X.K):=by
 intro pins s σ H x v vl vu lo hi sl Q I rx hs pl pu h;obtain⟨a,xs,rfl,hx,q1,q2⟩:=h;by_cases hw:HT.sIx xs.length 0 lo=0/\HT.sIx xs.length xs.length hi=xs.length
 ·cases rx;obtain⟨its,r,ht,hz⟩:=I.tuple hx;have hlen:its.toArray.size=xs.length:=by rw [OI];exact r.length.symm
  refine⟨"tuple",_,QX.lookup,ht.typeIs,?_⟩;exact Ih ht hs pl pu (by rw [hlen];exact hw) ⟨.ref a,H,I,rfl,q1 hw⟩
 ·exact GG pins s σ H _ v vl vu lo hi sl Q I rx hs pl pu ⟨a,xs,rfl,hx,hw,q2 hw⟩
theorem Ik{xs:List VL}{l u:Option Int}(h:HT.sIx xs.length 0 l=0/\HT.sIx xs.length xs.length u=xs.length):cg xs l u=xs:=by
 unfold cg;rw [h.1,h.2];simp
def kJ(t:DT)(tl th:DO):DT:=λδ Q=>t δ λd=>tl δ λl=>th δ λu=>∃xs,d= .tuple xs/\Q (.tuple (cg xs l u))
theorem sX{e:VV}{lo hi:Option VV}{t:DT}{tl th:DO}{pos p2:Pos}(h:DF X H0 O0 e t)(hl:PO X lo (mR X.K H0 O0 tl))(hu:PO X hi (mR X.K H0 O0 th)):DE X H0 O0 (.Subscript e (.Slice lo hi none p2) pos) (kJ t tl th):=
 (v5 Ij h hl hu).imp λσ H Q ⟨O,δ,Qd,w,q,k⟩=>⟨O,δ,_,w,q,λd v H1 q1 s1 r1=>⟨O,δ,_,w.mono s1,q1,λl H2 q2 s2=>⟨O,δ,_,w.mono (s1.trans s2),q2,λu H3 uu63 s3=>by
  obtain⟨xs,e,q3⟩:=uu63;subst e;have r3:=r1.mono (s2.trans s3);have r4:=r3;obtain⟨a,vs,rfl,h1,d1⟩:=r4.tup;refine⟨a,vs,rfl,h1,λhw=>?_,λ_ p hp=>k _ _ _ q3 (s1.trans (s2.trans (s3.trans (aw.new hp)))) (.tup (.inl bh) (uA w (s1.trans (s2.trans s3)) hp) ((d1.cut l u).mono (aw.new hp)))⟩;rw [d1.length] at hw;rw [Ik hw] at q3;cases r3 with
  | dt r3=>exact k _ _ _ q3 (s1.trans (s2.trans s3)) r3⟩⟩⟩
def cU(a b:Str):Bool:=decide (a.cps.toList<=b.cps.toList)
def eQ(l:List Str):List Str:=l.mergeSort cU
theorem Ay(a b c:Str)(h:cU a b=true)(h':cU b c=true):cU a c=true:=
 decide_eq_true (List.le_trans (of_decide_eq_true h) (of_decide_eq_true h'))
theorem Il(a b:Str):(cU a b || cU b a)=true:=by
 rcases List.le_total a.cps.toList b.cps.toList with h | h
 ·unfold cU;rw [decide_eq_true h];rfl
 ·unfold cU;rw [decide_eq_true h,Bool.or_true]
theorem Az{a b:Str}(h:a.cps.toList=b.cps.toList):a=b:=by
 cases a;cases b;congr 1;exact Array.ext' h
theorem wC{a b:Str}(h:cU a b=true)(h':cU b a=true):a=b:=Az (UY (of_decide_eq_true h) (of_decide_eq_true h'))
theorem kK(l:List Str):(eQ l).Perm l:=List.mergeSort_perm l cU
theorem AA(l:List Str):(eQ l).Pairwise λa b=>cU a b=true:=List.pairwise_mergeSort Ay Il l
theorem AB{l m:List Str}(h:m.Perm l)(p:m.Pairwise λa b=>cU a b=true):m=eQ l:=
 List.Perm.eq_of_pairwise (λa b _ _ x y=>wC x y) p (AA l) (h.trans (kK l).symm)
theorem AD:∀(p:Str)(l:List Str),risingS p l=true->(p::l).Pairwise λa b=>cU a b=true
 | p,[],_=>by simp
 | p,x::r,h=>by
  rw [risingS,Pw,P6,ltCps_eq,decide_eq_false_iff_not] at h;have h1:cU p x=true:=decide_eq_true (US.mp h.1);have h2:=AD x r h.2;rw [P8];refine⟨λy hy=>?_,h2⟩;rcases OA.mp hy with z | z
  ·rw [z];exact h1
  ·exact Ay p x y h1 ((P8.mp h2).1 y z)
theorem AE:∀(l:List Str),sortedS l=true->l.Pairwise λa b=>cU a b=true
 | [],_=>.nil
 | x::r,h=>AD x r h
theorem AF:∀{ys:List Str}{us:List VM},aK (ys.map V.str) us->StrsAre us ys:=by
 intro ys
 induction ys with
 | nil=>intro us rv;cases rv;exact .nil
 | cons y ys ih=>
  intro us rv;rw [Ol] at rv;cases rv with
  | cons r1 r2=>obtain⟨t,rfl⟩:=r1;exact .cons y t (ih r2)
theorem wD:∀{ys:List Str}{us:List VM},StrsAre us ys->aK (ys.map V.str) us
 | _,_,.nil=>.nil
 | _,_,.cons y t r=>.cons ⟨t,rfl⟩ (wD r)
theorem Im:eF X (.builtin "sorted") (λxs H Q=>∃p ss,xs=[.ref p]/\bg X.K H p (ss.map V.str)/\ss.length < 64/\∀l,H l=none->Q (.ref l) (ai H l (.lst ((eQ ss).map V.str)))):=by
 intro pins s σ H xs us Q I r h;obtain⟨p,ss,rfl,hq,h64,q⟩:=h;obtain⟨u,rfl,rx⟩:=fD r;cases rx;obtain⟨its,rv,pl,hz⟩:=I.list hq;have hlen:=rv.length;rw [Of] at hlen;refine sorted_strs pl.isList (AF rv) VH λout ss' a1 a2 a3=>?_;obtain⟨e,he⟩:=sortedAll_at s.heap its out;have es:ss'=eQ ss:=AB a2 (AE _ a3);subst es;have hl2:(eQ ss).length=ss.length:=a2.length_eq;refine⟨.ref _,_,I.laid (t':=s.toks) (o:= .lst ((eQ ss).map V.str)) (λb ob q=>sortedAll_old q) (Qk _) ?_,rfl,q _ (I.hok.fresh (Qk _))⟩;refine⟨by rw [Of,hl2];exact O6 (Rj h64) VG,out.toList,e,wD a1,?_⟩;rw [he]
theorem aj.strs{K:Oe}{H:Hp}{O:Ex}:∀{ss:List Str}{vs:List V},aj K H O vs (ss.map Oi)->vs=ss.map V.str
 | [],_,r=>by rw [PD] at r;cases r;rfl
 | b::bs,_,r=>by
  rw [Ol] at r;cases r with
  | cons h r=>cases h;rw [Ol,aj.strs r]
theorem aj.ofStrs{K:Oe}{H:Hp}{O:Ex}:∀(ss:List Str),aj K H O (ss.map V.str) (ss.map Oi)
 | []=>.nil
 | s::r=>.cons (.str s) (aj.ofStrs r)
def kL(t:DA):DA:=λδ Q=>t δ λds=>∃ss:List Str,ds=[.list (ss.map .str)]/\ss.length < 64/\Q ((eQ ss).map .str)
theorem Io{a:VV}{t:DA}{np p:Pos}(hg:Gl X "sorted")(hm:X.mg "sorted"=none)(hv:V9 "sorted"=some (.builtin "sorted"))(ha:PA X [a] (gI X.K H0 O0 t))(he:VT [a] X.env=(false,eval a X.env)::VT [] X.env:=by rfl)(hpl:(V5 p (VT [] X.env)).any (·.1)=false:=by rfl):FE X H0 O0 (.Call (.Name "sorted" np) [a] [] p) (kL t):=
 (dq Im hg hm hv ha (he:=he) (hpl:=hpl)).imp λσ H Q uu64=>by obtain⟨O,δ,Qd,w,q,k⟩:=uu64;exact⟨O,δ,_,w,q,λds vs H1 uu65 s1 r1=>by
  obtain⟨ss,e,h64,q1⟩:=uu65;subst e;cases r1 with
  | cons h r=>
   cases r;obtain⟨a,us,rfl,h1,d1⟩:=h.lst;cases d1.strs;exact⟨a,ss,rfl,h1,h64,λl hl=>k _ _ _ _ q1 s1 hl (aj.ofStrs _)⟩⟩
end
end L2
namespace PySem.SeqAt
open AutoSeq1 (wpAny_loadPart')
open MeetsSeq
theorem AG(l:VO)(es:Array Xh)(n:Nat)(dd:Option VO)(sl:Array (Option VM))(b:Str)(u:Tok):
 Meets (Builtin.«dict.__eq__» ⟨[.ref l,.str b u],[]⟩) (λ_ R s=>s.heap.get? l=some {cls:= .type "dict",dict:=dd,data:= .dict es n,slots:=sl}/\R (.ok (.ret .notImplemented)) s):=
 .of_wp λprog w A R s h=>by obtain⟨hp,g,d,tk,os⟩:=s;obtain⟨hl,h⟩:=h;have f1:=F.sub_str_dict;wp_walk using Wo hl;exact⟨_,rfl,h⟩
theorem AH(b:Str)(u:Tok)(l:VO)(c:VM)(es:Array Xh)(n:Nat)(dd:Option VO)(sl:Array (Option VM)):
 Meets (Builtin.«str.__eq__» ⟨[.str b u,.ref l],[]⟩) (λ_ R s=>s.heap.get? l=some {cls:=c,dict:=dd,data:= .dict es n,slots:=sl}/\R (.ok (.ret .notImplemented)) s):=
 .of_wp λprog w A R s h=>by obtain⟨hp,g,d,tk,os⟩:=s;obtain⟨hl,h⟩:=h;wp_walk using Wo hl,wpAny_load hl;exact⟨_,rfl,h⟩
section
variable {A:V2} {s:VP}
theorem RcAt.dict_str{l:VO}{es:Array Xh}{n:Nat}{o:Obj}(b:Str)(u:Tok)(ho:s.heap.get? l=some o)(hc:o.cls= .type "dict")(hd:o.data= .dict es n)(hu:A.units < Wb):RcAt A s (.ref l) (.str b u) false:=λprog w E Q h=>by
 obtain⟨cls,dd,data,sl⟩:=o;simp only at hc hd;subst hc hd;exact rc_eq_decline_or (k:=false) ⟨_,ho,rfl⟩ (W8 s b u) VG F.sub_str_dict F.slot_dict_eq F.slot_str_eq_refl
  (λ_ hq=>WT F.slot_dict_eq ⟨_,ho,rfl⟩ F.entry_dict_eq (F.args_dict_eq_2 _ _) (AG l es n dd sl b u) ⟨ho,hq⟩)
  (λ_ hq=>WT F.slot_str_eq_refl (W8 s b u) F.entry_str_eq (F.args_str_eq_2 _ _) (AH b u l (.type "dict") es n dd sl) ⟨ho,hq⟩)
  (λ_ hq=>Xf (rfl:isSame (.ref l) (.str b u)=pure false) hq) (.inr hu) h
theorem RcAt.str_dict{l:VO}{es:Array Xh}{n:Nat}{o:Obj}(b:Str)(u:Tok)(ho:s.heap.get? l=some o)(hc:o.cls= .type "dict")(hd:o.data= .dict es n)(hu:A.units < Wb):RcAt A s (.str b u) (.ref l) false:=λprog w E Q h=>by
 obtain⟨cls,dd,data,sl⟩:=o;simp only at hc hd;subst hc hd;exact rc_eq_decline_or (k:=false) (W8 s b u) ⟨_,ho,rfl⟩ VG F.sub_dict_str F.slot_str_eq F.slot_dict_eq_refl
  (λ_ hq=>WT F.slot_str_eq (W8 s b u) F.entry_str_eq (F.args_str_eq_2 _ _) (AH b u l (.type "dict") es n dd sl) ⟨ho,hq⟩)
  (λ_ hq=>WT F.slot_dict_eq_refl ⟨_,ho,rfl⟩ F.entry_dict_eq (F.args_dict_eq_2 _ _) (AG l es n dd sl b u) ⟨ho,hq⟩)
  (λ_ hq=>Xf (rfl:isSame (.str b u) (.ref l)=pure false) hq) (.inr hu) h
theorem EqAt.str_dict{l:VO}{es:Array Xh}{n:Nat}{o:Obj}(b:Str)(u:Tok)(ho:s.heap.get? l=some o)(hc:o.cls= .type "dict")(hd:o.data= .dict es n)(hu:A.units < Wb):EqAt A s (.str b u) (.ref l) false:=λprog w E Q h=>by
 unfold eqBool;refine Wf ?_;refine W9 (λhab=>absurd (eq_of_beq hab) nofun) (λ_=>?_);exact VN (RcAt.str_dict b u ho hc hd hu prog w E _ (Wk h))
end
end PySem.SeqAt
namespace L2
open PySem PySem.Spec PyProof.Rows PySem.W
section
variable {X:Cx} {pins:List (VO×Obj)} {σ:St} {H:Hp} {s:VP}
def cV:VL->Bool
 | .dict [(.none,_)]=>false
 | _=>true
theorem Ip(I:af X pins σ H s){O:Ex}{v:V}{d:VL}{u:VM}(h:Dt X.K H O v d)(ht:cV d=true)(r:aE v u)(y:Str)(t:Tok)(hu:X.A.units < Wb):SeqAt.RcAt X.A s u (.str y t) (ON d (.str y)):=by
 cases h with
 | non=>cases (show u=QY from r);simpa [ON] using SeqAt.RcAt.none_str y t
 | bl b=>cases (show u=RC b from r);simpa [ON] using SeqAt.RcAt.bool_str b y t
 | int i=>obtain⟨k,e⟩:=(show ∃t,u=QU i t from r);cases e;simpa [ON] using SeqAt.RcAt.int_str i k y t
 | str x=>obtain⟨k,e⟩:=(show ∃t,u=RP x t from r);cases e;simpa [ON] using SeqAt.RcAt.str_str x k y t
 | @tup a xs ds h n rr=>
  cases (show u=Pc a from r);obtain⟨its,rv,p,_⟩:=I.tuple (.inl h);simpa [ON] using Uh y t (show s.heap.IsTuple a its.toArray from p) hu
 | @tupK a xs ds h rr=>
  cases (show u=Pc a from r);obtain⟨its,rv,p,_⟩:=I.tuple h.of0;simpa [ON] using Uh y t (show s.heap.IsTuple a its.toArray from p) hu
 | @lst a xs ds h n rr=>
  cases (show u=Pc a from r);obtain⟨its,rv,p,_⟩:=I.list (.inl h);simpa [ON] using SeqAt.RcAt.list_str y t p.isList hu
 | pack h n=>exact absurd ht (by simp [cV])
 | purse h n=>exact absurd ht (by simp [cV])
 | scr h r=>exact absurd ht (by simp [cV])
 | obj h e n r=>exact absurd ht (by simp [cV])
 | @dct0 a h n=>
  cases (show u=Pc a from r);obtain⟨_,_,_,_,o,es,ep,e,c,dd,_⟩:=(show cb X.prog X.w H s.heap a (.dK []) from I.hok a _ h);simpa [ON] using SeqAt.RcAt.dict_str y t e c.1 dd hu
 | @dic a ob kv ks kp ds h e1 e2 n rr=>
  cases (show u=Pc a from r);obtain⟨_,_,_,_,o,es,ep,e,c,dd,_⟩:=(show cb X.prog X.w H s.heap a (.dK kv) from(I.hok a _ h).2);simpa [ON] using SeqAt.RcAt.dict_str y t e c.1 dd hu
theorem Iq(I:af X pins σ H s){A:V2}{O:Ex}{v:V}{d:VL}{u:VM}(h:Dt X.K H O v d)(ht:cV d=true)(r:aE v u)(y:Str)(t:Tok)(hu:A.units < Wb):SeqAt.EqAt A s (.str y t) u (ON (.str y) d):=by
 cases h with
 | non=>cases (show u=QY from r);simpa [ON] using SeqAt.EqAt.str_none y t
 | bl b=>cases (show u=RC b from r);simpa [ON] using SeqAt.EqAt.str_bool y t b
 | int i=>obtain⟨k,e⟩:=(show ∃t,u=QU i t from r);cases e;simpa [ON] using Us y t i k
 | str x=>obtain⟨k,e⟩:=(show ∃t,u=RP x t from r);cases e;simpa [ON] using SeqAt.EqAt.str_str y t x k
 | @tup a xs ds h n rr=>
  cases (show u=Pc a from r);obtain⟨its,rv,p,_⟩:=I.tuple (.inl h);simpa [ON] using Ui y t (show s.heap.IsTuple a its.toArray from p) hu
 | @tupK a xs ds h rr=>
  cases (show u=Pc a from r);obtain⟨its,rv,p,_⟩:=I.tuple h.of0;simpa [ON] using Ui y t (show s.heap.IsTuple a its.toArray from p) hu
 | @lst a xs ds h n rr=>
  cases (show u=Pc a from r);obtain⟨its,rv,p,_⟩:=I.list (.inl h);simpa [ON] using SeqAt.EqAt.str_list y t p.isList hu
 | pack h n=>exact absurd ht (by simp [cV])
 | purse h n=>exact absurd ht (by simp [cV])
 | scr h r=>exact absurd ht (by simp [cV])
 | obj h e n r=>exact absurd ht (by simp [cV])
 | @dct0 a h n=>
  cases (show u=Pc a from r);obtain⟨_,_,_,_,o,es,ep,e,c,dd,_⟩:=(show cb X.prog X.w H s.heap a (.dK []) from I.hok a _ h);simpa [ON] using SeqAt.EqAt.str_dict y t e c.1 dd hu
 | @dic a ob kv ks kp ds h e1 e2 n rr=>
  cases (show u=Pc a from r);obtain⟨_,_,_,_,o,es,ep,e,c,dd,_⟩:=(show cb X.prog X.w H s.heap a (.dK kv) from(I.hok a _ h).2);simpa [ON] using SeqAt.EqAt.str_dict y t e c.1 dd hu
end
section
variable {X:Cx} {H0:Hp} {O0:Ex}
def AI(K:Oe):R2:=λx y H Q=>∃O dx z,Dt K H O x dx/\cV dx=true/\y= .str z/\Q (.bl (ON dx (.str z))) H
theorem cz{k:Nat}(hr:bf k X.A):bH X (V8 .Eq) (AI X.K):=by
 intro pins s σ H x y v u Q I rx ry h;obtain⟨O,dx,z,hx,ht,rfl,q⟩:=h;obtain⟨t,rfl⟩:=ry;have hc:V8 .Eq v (.str z t)=richCompare .Eq v (.str z t):=rfl;rw [hc];exact Ip I hx ht rx z t hr.units0 X.prog X.w X.xe _ (iN I q rfl)
def gh:VL->VL->(VL->Prop)->Prop:=λx y Q=>∃z,y= .str z/\cV x=true/\Q (.bool (ON x (.str z)))
theorem cA{K:Oe}:cu K (AI K) gh:=λH O x y dx dy Qd R _ hx hy uu66 k=>by
 obtain⟨z,e,ht,q⟩:=uu66;subst e;cases hy.str;exact⟨_,dx,z,hx.all,ht,rfl,k _ _ H q (aw.refl _) (.bl _)⟩
theorem Ir(dx:VL){its:List VM}{zs:List Str}(hS:StrsAre its zs):its.any (λy=>ON (.str (strOf y)) dx)=zs.any λz=>ON (.str z) dx:=by
 induction hS with
 | nil=>rfl
 | cons y t r ih=>rw [PQ,PQ,ih];rfl
def AJ(K:Oe):R2:=λx y H Q=>∃(O:Ex)(dx:VL)(zs:List Str)(a:VO),Dt K H O x dx/\cV dx=true/\y= .ref a/\bz K H a (zs.map V.str)/\Q (.bl (zs.any λz=>ON (.str z) dx)) H
theorem qH{k:Nat}(hr:bf k X.A):bH X (V8 .In) (AJ X.K):=by
 intro pins s σ H x y v u Q I rx ry h;obtain⟨O,dx,zs,a,hx,ht,rfl,ha,q⟩:=h;cases ry;obtain⟨its,rv,p,_⟩:=I.tuple ha;have hS:=AF rv;have hl:=Ir dx hS;refine SeqAt.in_tupleAt (λy=>ON (.str (strOf y)) dx) (show s.heap.IsTuple a its.toArray from p) (λy hy=>?_) (by rw [List.any_toArray,hl];exact iN I q rfl);obtain⟨z,t,rfl⟩:=hS.all y (by simpa using hy);exact Iq I hx ht rx z t (by show X.A.units+1 < Wb;have:=hr.un;omega)
def kM:VL->VL->(VL->Prop)->Prop:=λx y Q=>∃zs:List Str,y= .tuple (zs.map .str)/\cV x=true/\Q (.bool (zs.any λz=>ON (.str z) x))
theorem qI{K:Oe}:cu K (AJ K) kM:=λH O x y dx dy Qd R _ hx hy uu67 k=>by
 obtain⟨zs,e,ht,q⟩:=uu67;subst e;obtain⟨a,vs,rfl,hs,r⟩:=hy.tup;cases r.strs;exact⟨_,dx,zs,a,hx.all,ht,rfl,hs,k _ _ H q (aw.refl _) (.bl _)⟩
end
open PySem
theorem mZ{z:Int}{Q:VL->Prop}:HC [wj,.int z] Q↔(0 < z/\z<=1000000/\∀i:Int,0<=i->i < z->Q (.int i)):=by
 constructor
 ·rintro⟨z',e,a,b,c⟩;simp only [Pb,PV,and_true,true_and] at e;subst e;exact⟨a,b,c⟩
 ·rintro⟨a,b,c⟩;exact⟨z,rfl,a,b,c⟩
open PySem PySem.Spec PyProof.Rows PySem.W
theorem AK{g:DG}{te:DT}{δ0:Dl}{xs:List VL}{Q:List VL->Prop}(f:VL->VL)
 (h:∀x∈xs,∀R:VL->Prop,R (f x)->g x δ0 λδ2=>te δ2 R)(q:Q (xs.map f)):gb g gc te δ0 xs Q:=by
 refine⟨λi acc=>acc=(xs.take i).map f,rfl,?_,?_⟩
 ·rintro i x acc hx rfl;have:=h x (OY hx) (λy=>(xs.take i).map f++[y]=(xs.take (i+1)).map f) (by rw [Pk,hx];simp);simpa [gc] using this
 ·rintro acc rfl;rw [O7 (Oj _)];exact q
theorem Iu{g:DG}{tc:DB}{te:DT}{δ0:Dl}{xs:List VL}{Q:List VL->Prop}(f:VL->Option VL)
 (h:∀x∈xs,∀(R:VL->Prop) (S:Prop),(match f x with | some y=>R y | none=>S)->g x δ0 λδ2=>tc δ2 λok=>if ok=true then te δ2 R else S)(q:Q (xs.filterMap f)):gb g tc te δ0 xs Q:=by
 refine⟨λi acc=>acc=(xs.take i).filterMap f,rfl,?_,?_⟩
 ·rintro i x acc hx rfl;refine h x (OY hx) (λy=>(xs.take i).filterMap f++[y]=(xs.take (i+1)).filterMap f) ((xs.take i).filterMap f=(xs.take (i+1)).filterMap f) ?_;rw [Pk,hx];cases e:f x with
  | none=>simp [e]
  | some y=>simp [e]
 ·rintro acc rfl;rw [O7 (Oj _)];exact q
theorem AL{g:DG}{te:DT}{δ0:Dl}{xs:List VL}{p:Bool->Prop}{gg:List Bool->Bool}(f:VL->Bool)
 (h:∀x∈xs,∀R:VL->Prop,R (.bool (f x))->g x δ0 λδ2=>te δ2 R)(q:p (gg (xs.map f))):gb g gc te δ0 xs λds=>∃bs:List Bool,ds=bs.map RT/\p (gg bs):=
 AK (λx=>.bool (f x)) h ⟨xs.map f,by rw [Ov];rfl,q⟩
theorem m3{a:Str}{P:List Str->Prop}:(∃zs,[Oi a]=Pr Oi zs/\P zs)↔P [a]:=by
 refine⟨λ⟨zs,e,h⟩=>?_,λh=>⟨_,rfl,h⟩⟩
 match zs,e with
 | [x],e=>simp at e;rw [e];exact h
theorem m4{a b:Str}{P:List Str->Prop}:(∃zs,[Oi a,Oi b]=Pr Oi zs/\P zs)↔P [a,b]:=by
 refine⟨λ⟨zs,e,h⟩=>?_,λh=>⟨_,rfl,h⟩⟩
 match zs,e with
 | [x,y],e=>simp at e;rw [e.1,e.2];exact h
theorem m6{a b c:Str}{P:List Str->Prop}:(∃zs,[Oi a,Oi b,Oi c]=Pr Oi zs/\P zs)↔P [a,b,c]:=by
 refine⟨λ⟨zs,e,h⟩=>?_,λh=>⟨_,rfl,h⟩⟩
 match zs,e with
 | [x,y,z],e=>simp at e;rw [e.1,e.2.1,e.2.2];exact h
theorem m7{x:Str}:cV (.str x)=true:=rfl
theorem m8{x:Int}:cV (.int x)=true:=rfl
theorem m9{x:Bool}:cV (.bool x)=true:=rfl
theorem nc{x:List VL}:cV (.tuple x)=true:=rfl
theorem nh{x:List VL}:cV (.list x)=true:=rfl
open PySem PySem.Spec PyProof.Rows PySem.W
def units:List Str:=["days","months","years"]
theorem fq{n:Nat}:∀d∈([]:List VL),bV n d:=λd hd=>by simp at hd
theorem bM{n:Nat}{d:VL}{r:List VL}(h:bV n d)(hr:∀e∈r,bV n e):∀e∈d::r,bV n e:=λe he=>by
 rcases OA.mp he with z | z
 ·rw [z];exact h
 ·exact hr e z
theorem ft{n:Nat}{x:Str}(h:Om x=true)(hn:1<=n:=by decide):bV n (.str x):=(ik h).mono hn
theorem AM{n:Nat}{x:Int}(hn:1<=n:=by decide):bV n (.int x):=sW.mono hn
theorem uP{n:Nat}{ms:List Str}(h:∀m∈ms,Om m=true)(hn:1<=n:=by decide):∀d∈ms.map Oi,bV n d:=λd hd=>by
 obtain⟨m,hm,rfl⟩:=Oq.mp hd;exact(ik (h m hm)).mono hn
theorem ni{a:VL}{l:List VL}:cg (a::l) (some 1) none=l:=by
 rw [uI VG (by simp only [Oz];omega)];rfl
theorem nq{a b:VL}{l:List VL}:cg (a::b::l) (some 2) none=l:=by
 rw [uI VG (by simp only [Oz];omega)];rfl
theorem nt{a b c:VL}{l:List VL}:cg (a::b::c::l) (some 3) none=l:=by
 rw [uI VG (by simp only [Oz];omega)];rfl
theorem nv{a b c d:VL}{l:List VL}:cg (a::b::c::d::l) (some 4) none=l:=by
 rw [uI VG (by simp only [Oz];omega)];rfl
theorem ny{a:VL}{l:List VL}:cg (a::l) none (some 1)=[a]:=by
 rw [sS VG (by simp only [Oz];omega)];rfl
theorem nA{a b:VL}{l:List VL}:cg (a::b::l) none (some 2)=[a,b]:=by
 rw [sS VG (by simp only [Oz];omega)];rfl
theorem nB{a b c:VL}{l:List VL}:cg (a::b::c::l) none (some 3)=[a,b,c]:=by
 rw [sS VG (by simp only [Oz];omega)];rfl
theorem nE{a b c d:VL}{l:List VL}:cg (a::b::c::d::l) none (some 4)=[a,b,c,d]:=by
 rw [sS VG (by simp only [Oz];omega)];rfl
theorem nF{a b c:VL}{l:List VL}:cg (a::b::c::l) (some 1) (some 3)=[b,c]:=by
 unfold cg;rw [uH VG (by simp only [Oz];omega),uH VG (by simp only [Oz];omega)];rfl
end L2
namespace PySem
open Builtin
open AutoSeq1 (wpAny_loadPart')
end PySem
namespace L2
open PySem PySem.Spec PyProof.Rows PySem.W
section
variable {X:Cx} {H0:Hp} {O0:Ex}
def kN(t:DT):DT:=λδ Q=>t δ λd=>∃i,d= .int i/\Q (.int (-i))
theorem Iw{e:VV}{t:DT}{pos:Pos}(h:DE X H0 O0 e t):DE X H0 O0 (.UnaryOp .USub e pos) (kN t):=
 (FG FJ h).imp λσ H Q uu71=>by obtain⟨O,δ,Qd,w,q,k⟩:=uu71;exact⟨O,δ,_,w,q,λd v H1 uu72 s1 r1=>by obtain⟨i,e,q1⟩:=uu72;subst e;cases r1;exact⟨i,rfl,k _ _ H1 q1 s1 (.int _)⟩⟩
end
theorem nG{xs:List VL}:cg xs none (some (-1))=xs.dropLast:=by
 unfold cg;rw [ui];have e:HT.sIx xs.length xs.length (some (-1))=xs.length - 1:=by
  simp only [HT.sIx];rw [VJ VG];omega
 rw [e,List.drop_zero,Nat.sub_zero,List.dropLast_eq_take]
section
variable {x:Option VV} {n:Nat} {env:Env}
theorem uQ{a b c d}:V6 (.BinOp a b c d) x n env=pure false:=rfl
theorem qJ{a b c d}:V6 (.Call a b c d) x n env=pure false:=rfl
theorem wF{a b c}:V6 (.Subscript a b c) x n env=pure false:=rfl
theorem Iy{a b c d}:V6 (.IfExp a b c d) x n env=pure false:=rfl
end
open PySem PySem.Spec PyProof.Rows PySem.W
theorem nH:(Od "paper"==Od "happens")=false:=cp
theorem nI:(Od "paper"==Od "rule")=false:=cp
theorem nJ:(Od "paper"==Od "end")=false:=cp
theorem nK:(Od "paper"==Od "hold")=false:=cp
theorem nL:(Od "paper"==Od "lift")=false:=cp
theorem nM:(Od "paper"==Od "leave")=false:=cp
theorem nN:(Od "happens"==Od "paper")=false:=cp
theorem nO:(Od "happens"==Od "rule")=false:=cp
theorem nP:(Od "happens"==Od "end")=false:=cp
theorem nQ:(Od "happens"==Od "hold")=false:=cp
theorem nR:(Od "happens"==Od "lift")=false:=cp
theorem nS:(Od "happens"==Od "leave")=false:=cp
theorem nT:(Od "rule"==Od "paper")=false:=cp
theorem nU:(Od "rule"==Od "happens")=false:=cp
theorem nV:(Od "rule"==Od "end")=false:=cp
theorem nW:(Od "rule"==Od "hold")=false:=cp
theorem nX:(Od "rule"==Od "lift")=false:=cp
theorem nY:(Od "rule"==Od "leave")=false:=cp
theorem nZ:(Od "end"==Od "paper")=false:=cp
theorem n8:(Od "end"==Od "happens")=false:=cp
theorem n9:(Od "end"==Od "rule")=false:=cp
theorem oe:(Od "end"==Od "hold")=false:=cp
theorem oh:(Od "end"==Od "lift")=false:=cp
theorem oi:(Od "end"==Od "leave")=false:=cp
theorem oj:(Od "hold"==Od "paper")=false:=cp
theorem om:(Od "hold"==Od "happens")=false:=cp
theorem oo:(Od "hold"==Od "rule")=false:=cp
theorem oq:(Od "hold"==Od "end")=false:=cp
theorem ot:(Od "hold"==Od "lift")=false:=cp
theorem oz:(Od "hold"==Od "leave")=false:=cp
theorem oA:(Od "lift"==Od "paper")=false:=cp
theorem oB:(Od "lift"==Od "happens")=false:=cp
theorem oC:(Od "lift"==Od "rule")=false:=cp
theorem oE:(Od "lift"==Od "end")=false:=cp
theorem oF:(Od "lift"==Od "hold")=false:=cp
theorem oG:(Od "lift"==Od "leave")=false:=cp
theorem oH:(Od "leave"==Od "paper")=false:=cp
theorem oI:(Od "leave"==Od "happens")=false:=cp
theorem oJ:(Od "leave"==Od "rule")=false:=cp
theorem oK:(Od "leave"==Od "end")=false:=cp
theorem oM:(Od "leave"==Od "hold")=false:=cp
theorem oN:(Od "leave"==Od "lift")=false:=cp
open PySem PySem.Spec PyProof.Rows PySem.W
open PySem PySem.Spec PyProof.Rows PySem.W
section
variable {X:Cx} {H0:Hp} {O0:Ex}
def kO:DS:=λ_ _=>False
theorem qK{st:V1}:PS X st (bo X.K H0 O0 kO):=Fs.imp λD σ H uu73=>by obtain⟨O,δ,E,w,q,_⟩:=uu73;exact q.elim
end
open PySem PySem.Spec PyProof.Rows PySem.W
section
variable {α:Type} {P:α->Prop}
theorem oO{a:VL}{r:Dl}{P:VL->Prop}:(∃d,(some (Sl.v a)::r)[0]?=some (some (Sl.v d))/\P d)=P a:=by simp
theorem oP{x:Option Sl}{r:Dl}{i:Nat}{P:VL->Prop}:(∃d,(x::r)[i+1]?=some (some (Sl.v d))/\P d)=(∃d,r[i]?=some (some (Sl.v d))/\P d):=by simp
theorem oQ{a:VL}{l:Dl}{i:Nat}{P:VL->Prop}:(∃d,(l.set i (some (Sl.v a)))[i]?=some (some (Sl.v d))/\P d)=(i < l.length/\P a):=by
 apply propext;rw [TV];constructor
 ·rintro⟨d,e,p⟩;by_cases h:i < l.length
  ·rw [OT h] at e;cases e;exact⟨h,p⟩
  ·rw [Qm VH] at e;cases e
 ·rintro⟨h,p⟩;exact⟨a,by rw [OT h];rfl,p⟩
theorem oR{x:Option Sl}{l:Dl}{i j:Nat}{P:VL->Prop}(h:i≠j):(∃d,(l.set i x)[j]?=some (some (Sl.v d))/\P d)=(∃d,l[j]?=some (some (Sl.v d))/\P d):=by rw [OG h]
theorem oT{a:List VL}{r:Dl}{P:List VL->Prop}:(∃d,(some (Sl.o a)::r)[0]?=some (some (Sl.o d))/\P d)=P a:=by simp
theorem oU{x:Option Sl}{r:Dl}{i:Nat}{P:List VL->Prop}:(∃d,(x::r)[i+1]?=some (some (Sl.o d))/\P d)=(∃d,r[i]?=some (some (Sl.o d))/\P d):=by simp
theorem oV{a:List VL}{l:Dl}{i:Nat}{P:List VL->Prop}:(∃d,(l.set i (some (Sl.o a)))[i]?=some (some (Sl.o d))/\P d)=(i < l.length/\P a):=by
 apply propext;rw [TV];constructor
 ·rintro⟨d,e,p⟩;by_cases h:i < l.length
  ·rw [OT h] at e;cases e;exact⟨h,p⟩
  ·rw [Qm VH] at e;cases e
 ·rintro⟨h,p⟩;exact⟨a,by rw [OT h];rfl,p⟩
theorem oW{x:Option Sl}{l:Dl}{i j:Nat}{P:List VL->Prop}(h:i≠j):(∃d,(l.set i x)[j]?=some (some (Sl.o d))/\P d)=(∃d,l[j]?=some (some (Sl.o d))/\P d):=by rw [OG h]
theorem oX{a:Bool}{P:Bool->Prop}:(∃b,RT a= .bool b/\P b)=P a:=by simp
theorem oY{a:Int}{P:Int->Prop}:(∃b,OZ a= .int b/\P b)=P a:=by simp
theorem oZ{a:Str}{P:Str->Prop}:(∃b,Oi a= .str b/\P b)=P a:=by simp
theorem o9{a:List VL}{P:List VL->Prop}:(∃b,OW a= .tuple b/\P b)=P a:=by simp
theorem pb{a:List VL}{P:List VL->Prop}:(∃b,QF a= .list b/\P b)=P a:=by simp
theorem pd{a b:Int}{P:Int->Int->Prop}:(∃i j,OZ a= .int i/\OZ b= .int j/\P i j)=P a b:=by simp
theorem pe{a b:Str}{P:Str->Str->Prop}:(∃i j,Oi a= .str i/\Oi b= .str j/\P i j)=P a b:=by simp
theorem pf{a b:List VL}{P:List VL->List VL->Prop}:(∃i j,OW a= .tuple i/\OW b= .tuple j/\P i j)=P a b:=by simp
theorem ph{a b:List VL}{P:List VL->List VL->Prop}:(∃i j,QF a= .list i/\QF b= .list j/\P i j)=P a b:=by simp
theorem pj{a:VL}{r:List VL}{P:VL->List VL->Prop}:(∃x y,a::r=x::y/\P x y)=P a r:=propext ⟨λuu74=>by obtain⟨_,_,e,p⟩:=uu74;cases e;exact p,λp=>⟨_,_,rfl,p⟩⟩
theorem pk{a b:VL}{P:VL->VL->Prop}:(∃x y,[a,b]=[x,y]/\P x y)=P a b:=propext ⟨λuu75=>by obtain⟨_,_,e,p⟩:=uu75;cases e;exact p,λp=>⟨_,_,rfl,p⟩⟩
theorem pq{a:VL}{r:List VL}{P:VL->Prop}:(∃ds i d,OW (a::r)= .tuple ds/\OZ 0= .int i/\atI ds i=some d/\P d)=P a:=by simp [cT]
theorem pz{a b:VL}{r:List VL}{P:VL->Prop}:(∃ds i d,OW (a::b::r)= .tuple ds/\OZ 1= .int i/\atI ds i=some d/\P d)=P b:=by simp [fk]
theorem pA{a b c:VL}{r:List VL}{P:VL->Prop}:(∃ds i d,OW (a::b::c::r)= .tuple ds/\OZ 2= .int i/\atI ds i=some d/\P d)=P c:=by simp [gJ]
theorem pB{a b c e:VL}{r:List VL}{P:VL->Prop}:(∃ds i d,OW (a::b::c::e::r)= .tuple ds/\OZ 3= .int i/\atI ds i=some d/\P d)=P e:=by simp [fo]
theorem pC{a:VL}{r:List VL}{P:VL->Prop}:(∃ds i d,QF (a::r)= .list ds/\OZ 0= .int i/\atI ds i=some d/\P d)=P a:=by simp [cT]
theorem pE{a b:VL}{r:List VL}{P:VL->Prop}:(∃ds i d,QF (a::b::r)= .list ds/\OZ 1= .int i/\atI ds i=some d/\P d)=P b:=by simp [fk]
theorem pF{a b c:VL}{r:List VL}{P:VL->Prop}:(∃ds i d,QF (a::b::c::r)= .list ds/\OZ 2= .int i/\atI ds i=some d/\P d)=P c:=by simp [gJ]
theorem pG{xs:List VL}{k:Int}{P:VL->Prop}:(∃ds i d,OW xs= .tuple ds/\OZ k= .int i/\atI ds i=some d/\P d)=(∃d,atI xs k=some d/\P d):=by simp
theorem pH{xs:List VL}{k:Int}{P:VL->Prop}:(∃ds i d,QF xs= .list ds/\OZ k= .int i/\atI ds i=some d/\P d)=(∃d,atI xs k=some d/\P d):=by simp
end
open PySem PySem.Spec PyProof.Rows PySem.W
theorem pI{w v:Str}{r:List VL}{l:Dl}{Q:Bool->Prop}:dM (cK gh (cK gf (eM 0) (dC (.int 0))) (dC (.str v))) (some (.v (.tuple (.str w::r)))::l) Q=Q (w==v):=by
 simp [dM,cK,gh,gf,eM,dC,cT,cV,cL]
theorem pJ{v:Str}{x:Option Sl}{l:Dl}{k:Nat}{Q:Bool->Prop}:dM (cK gh (cK gf (eM 0) (dC (.int 0))) (dC (.str v))) (l.set (k+1) x) Q=dM (cK gh (cK gf (eM 0) (dC (.int 0))) (dC (.str v))) l Q:=by
 simp only [dM,cK,eM,dC,OG (show k+1≠0 by omega)]
open PySem PySem.Spec PyProof.Rows PySem.W
def sY:ak->VL
 | .inl i=>.int i
 | .inr x=>.str x
def fu(kd:List (ak×VL))(k:ak):Option VL:=(kd.find? λp=>decide (p.1=k)).map (·.2)
def fI(kd:List (ak×VL))(k:ak)(d:VL):List (ak×VL):=if (kd.any λp=>decide (p.1=k))=true then kd.map (λp=>if p.1=k then(p.1,d) else p) else kd++[(k,d)]
section
variable {K:Oe} {H:Hp} {O:Ex}
theorem Dt.key{v:V}{k:ak}(h:Dt K H O v (sY k)):v=kV k:=by
 cases k with
 | inl i=>cases h;rfl
 | inr x=>cases h;rfl
theorem bA.val{kv:List (ak×V)}{kd:List (ak×VL)}(h:bA K H O kv kd)(k:ak):(dE kv k=none/\fu kd k=none)\/∃v d,dE kv k=some v/\fu kd k=some d/\Dt K H O v d:=by
 induction h with
 | nil=>exact .inl ⟨rfl,rfl⟩
 | @cons j v d r s a _ ih=>
  by_cases e:j=k
  ·exact .inr ⟨v,d,sT e,by simp [fu,PL,e],a⟩
  ·rw [rA e,show fu ((j,d)::s) k=fu s k by simp [fu,PL,e]];exact ih
theorem bA.any{kv:List (ak×V)}{kd:List (ak×VL)}(h:bA K H O kv kd)(k:ak):(kv.any λp=>decide (p.1=k))=(kd.any λp=>decide (p.1=k)):=by
 induction h with
 | nil=>rfl
 | cons a _ ih=>simp only [PQ,ih]
theorem bA.length{kv:List (ak×V)}{kd:List (ak×VL)}(h:bA K H O kv kd):kv.length=kd.length:=by
 induction h with
 | nil=>rfl
 | cons a _ ih=>simp only [Oz,ih]
theorem bA.append{kv kv':List (ak×V)}{kd kd':List (ak×VL)}(h:bA K H O kv kd)(h':bA K H O kv' kd'):bA K H O (kv++kv') (kd++kd'):=by
 induction h with
 | nil=>exact h'
 | cons a _ ih=>exact .cons a ih
theorem bA.repl{kv:List (ak×V)}{kd:List (ak×VL)}(h:bA K H O kv kd)(k:ak){v:V}{d:VL}(hv:Dt K H O v d):bA K H O (kv.map λp=>if p.1=k then(p.1,v) else p) (kd.map λp=>if p.1=k then(p.1,d) else p):=by
 induction h with
 | nil=>exact .nil
 | @cons j u e r s a _ ih=>
  simp only [Ol];by_cases z:j=k
  ·rw [VJ z,VJ z];exact .cons hv ih
  ·rw [VI z,VI z];exact .cons a ih
theorem bA.put{kv:List (ak×V)}{kd:List (ak×VL)}(h:bA K H O kv kd)(k:ak){v:V}{d:VL}(hv:Dt K H O v d):bA K H O (putK kv k v) (fI kd k d):=by
 unfold putK fI;rw [h.any k];split
 ·exact h.repl k hv
 ·exact h.append (.cons hv .nil)
end
section
variable {X:Cx} {H0:Hp} {O0:Ex}
abbrev sZ:=Dl->(List (ak×VL)->Prop)->Prop
def Iz(K:Oe)(H0:Hp)(O0:Ex)(t:sZ):TE:=λσ H R=>∃O δ Qd,Wd K H0 O0 H O σ δ/\t δ Qd/\∀kd kv p H',Qd kd->aw H H'->H' p=none->bA K H' O kv kd->R (.ref p) (ai H' p (.dK kv))
abbrev KE(X:Cx)(H0:Hp)(O0:Ex)(e:VV)(t:sZ):Prop:=PE X e (Iz X.K H0 O0 t)
def kP:sZ:=λ_ Q=>Q []
theorem wG{pos:Pos}:KE X H0 O0 (.Dict [] [] pos) kP:=HS.imp λσ H Q uu76=>by obtain⟨O,δ,Qd,w,q,k⟩:=uu76;exact λp hp=>k [] [] p H q (aw.refl _) hp .nil
def kQ(i:Nat)(t:sZ):DS:=λE δ=>t δ λkd=>E.nx (δ.set i (some (.k kd)))
theorem wH{i:Nat}{x:Str}{e:VV}{t:sZ}{pos pos':Pos}(hN:X.N.Nodup)(hi:X.N[i]?=some x)(hx:gC X.env.scope x)(he:KE X H0 O0 e t)(hs:V6 e (some (.Name x pos')) pos.line X.env=pure false:=by rfl)(hf:X.fn x=true\/X.env.scope.names.lookup x=some .local:=by first | exact .inl rfl | exact .inr rfl | assumption):
 PS X (.Assign [.Name x pos'] e pos) (bo X.K H0 O0 (kQ i t)):=
 (tU hN hi hx he hs hf).imp λD σ H ⟨O,δ,E,w,q,k1,k2,k3,k4⟩=>⟨O,δ,_,w,q,λds vs p H1 q1 s1 hp r1=>k1 _ _ _ _ q1 ((w.mono s1).setK hp r1)
  ⟨λb o e _=>(s1.trans (aw.new hp)) b o e,λb e n z=>z.elim n λy=>by
   cases q:H b with
   | none=>exact e q
   | some o=>have:=s1 _ _ q;rw [y,hp] at this;cases this⟩⟩
def kR(i:Nat)(tk tv:DT):DS:=λE δ=>tv δ λd=>∃kd,δ[i]?=some (some (.k kd))/\tk δ λy=>∃k,y=sY k/\kd.length < VW/\E.nx (δ.set i (some (.k (fI kd k d))))
theorem wI{i:Nat}{o e v:VV}{tk tv:DT}{pos pos':Pos}(hu:X.A.units+64 < Wb)(ho:PE X o (cJ i))(he:DE X H0 O0 e tk)(hv:DE X H0 O0 v tv)(hs:V6 v (some (.Subscript o e pos')) pos.line X.env=pure false:=by rfl):
 PS X (.Assign [.Subscript o e pos'] v pos) (bo X.K H0 O0 (kR i tk tv)):=
 (wx VH ho he hv hs).imp λD σ H ⟨O,δ,E,w,q,k1,k2,k3,k4⟩=>⟨O,δ,_,w,q,λd u H1 uu79 s1 r1=>by
  obtain⟨kd,e,qk⟩:=uu79;have w1:=w.mono s1;obtain⟨l,kv,h,a,b,c,r⟩:=w1.ownK e;refine⟨.ref l,h,O,δ,_,w1,qk,λy uy H2 ⟨k,ek,hl,q2⟩ s2 r2=>?_⟩;subst ek;obtain rfl:=r2.key;refine⟨l,_,rfl,qG.k (s2 _ _ c) (by rw [r.length];exact hl),k1 _ _ _ _ q2 ((w1.mono s2).putK e h ((r.mono s2).put k (r1.mono s2))) ⟨λb' o' z n=>?_,λ_ _ n=>n⟩⟩;rw [az (λy=>n (by rw [y];exact a))];exact(s1.trans s2) _ _ z⟩
def kT(i:Nat)(tk:DT):DT:=λδ Q=>∃kd,δ[i]?=some (some (.k kd))/\tk δ λy=>∃k d,y=sY k/\fu kd k=some d/\Q d
theorem bA.got{K:Oe}{H:Hp}{O:Ex}{kv:List (ak×V)}{kd:List (ak×VL)}(h:bA K H O kv kd){k:ak}{d:VL}(e:fu kd k=some d):∃v,dE kv k=some v/\Dt K H O v d:=by
 rcases h.val k with⟨_,z⟩ | ⟨v,d',a,b,c⟩
 ·rw [e] at z;cases z
 ·rw [e] at b;cases b;exact⟨v,a,c⟩
theorem bA.none{K:Oe}{H:Hp}{O:Ex}{kv:List (ak×V)}{kd:List (ak×VL)}(h:bA K H O kv kd){k:ak}:(dE kv k).isSome=(fu kd k).isSome:=by
 rcases h.val k with⟨y,z⟩ | ⟨v,d',a,b,c⟩
 ·rw [y,z];rfl
 ·rw [a,b];rfl
theorem IA{i:Nat}{o e:VV}{tk:DT}{pos:Pos}(hu:X.A.units+64 < Wb)(ho:PE X o (cJ i))(he:DE X H0 O0 e tk)(hs:uK e):DE X H0 O0 (.Subscript o e pos) (kT i tk):=
 (Ao VH ho he hs).imp λσ H Q uu81=>by
  obtain⟨O,δ,Qd,w,⟨kd,e,q⟩,k⟩:=uu81;obtain⟨l,kv,h,a,b,c,r⟩:=w.ownK e;refine⟨.ref l,h,O,δ,_,w,q,λy uy H2 ⟨ky,d,ek,ev,q2⟩ s2 r2=>?_⟩;subst ek;obtain rfl:=r2.key;obtain⟨v,hv,dv⟩:=r.got ev;exact⟨l,v,rfl,by rw [<-hv];exact cB.k (s2 _ _ c),k _ _ _ q2 s2 (dv.mono s2)⟩
def kU(i:Nat)(tk:DT):DT:=λδ Q=>∃kd,δ[i]?=some (some (.k kd))/\tk δ λy=>∃k,y=sY k/\Q ((fu kd k).getD .none)
theorem IB{i:Nat}{o e:VV}{tk:DT}{apos cpos:Pos}(hu:X.A.units+64 < Wb)(ho:PE X o (cJ i))(he:DE X H0 O0 e tk)(m:M1 X o "get" apos e cpos):DE X H0 O0 (.Call (.Attribute o "get" apos) [e] [] cpos) (kU i tk):=
 (As VH ho he m).imp λσ H Q uu83=>by
  obtain⟨O,δ,Qd,w,⟨kd,e,q⟩,k⟩:=uu83;obtain⟨l,kv,h,a,b,c,r⟩:=w.ownK e;refine⟨.ref l,h,l,rfl,.inl ⟨kv,.inl c⟩,O,δ,_,w,q,λy uy H2 ⟨ky,ek,q2⟩ s2 r2=>?_⟩;subst ek;obtain rfl:=r2.key;refine⟨_,cB.k (s2 _ _ c),k _ _ _ q2 s2 ?_⟩;rcases r.val ky with⟨y,z⟩ | ⟨v,d',a',b',c'⟩
  ·rw [y,z];exact .non
  ·rw [a',b'];exact c'.mono s2
end
open PySem PySem.Spec PyProof.Rows PySem.W PySem.Calls
theorem IC{prog:VY}{w:VZ}{A:V2}{E:VM->VP->Prop}{s:VP}{T:String}{r d:VO}{n:Nat}{P:Nat->VM->Prop}{OK:V0->Prop}{ss:List Str}{Q:VM->VP->Prop}
 (K:KdlSrc prog w T r d n P OK)(hh:A.handled=none)(hok:OK s.heap)(hn:n < 64)(hP:∀vs:List VM,vs.length=n->(∀j v,vs[j]?=some v->P j v)->StrsAre vs ss)
 (h:∀(h' h2:V0) (tk:Nat) (out:Array VM) (e:Nat) (ss':List Str),(∀b o,s.heap.get? b=some o->h'.get? b=some o)->(∀b o,h'.get? b=some o->h2.get? b=some o)->h2.get? h'.objs.size=some (V4 "list" out e)->StrsAre out.toList ss'->ss'.Perm ss->sortedS ss'=true->Q (.ref h'.objs.size) {s with heap:=h2,toks:=tk}):
 VS (VU prog w) A (call (.builtin "sorted") [.ref r]) Q E s:=by
 refine Sm kind_sorted plain_sorted entry_sorted (args_sorted1 _) ?_;unfold Builtin.«sorted»;refine VN (m:=checkCount "sorted" 1 1 _) (VQ ?_);refine VN (kdu_collect (A:=A.in1) K hh hok (O6 (Rj hn) VG) λh' tk acc hk hacc=>?_);have hl:acc.toList.length=n:=by rw [OU];exact hacc.1
 refine VN (WK ?_);have hS:=hP acc.toList hl (λj v e=>hacc.2 j v (by rw [<-SU];exact e));have hoL:(h'.push (V4 "list" acc.toList.toArray 0)).get? h'.objs.size=some (V4 "list" acc.toList.toArray 0):=OR _ rfl;refine VN (Wf (Wc Xb ⟨_,hoL,rfl⟩ Xa (list_sort_treeK (s:={s with heap:=h'.push (V4 "list" acc.toList.toArray 0),toks:=tk}) strKind_oneLt hoL hS.keysOf (λv₁ v₂ rest e=>keyKind_strs (by rw [<-e];exact hS)) (by rw [hl];exact hn) λst' a1 a2=>⟨_,rfl,?_⟩) (args_list_sort _)));obtain⟨ss',h1,h2,h3⟩:=sorted_out_str hS a1 a2;obtain⟨e,he⟩:=sortedHeap_at (n:=0) (vs:=acc.toList) (out:=(arrOf st').map (·.2)) hoL;refine VQ ⟨_,rfl,h h' _ tk _ e ss' hk (λb o q=>?_) he h1 h2 h3⟩;have hlt:b < h'.objs.size:=OJ q;rw [sortedHeap_old (OV hlt) (by rw [size_push'];exact Qt hlt),UJ _ _ _ (OV hlt)];exact q
theorem AN{P:VY}{w:VZ}:∀{ss:List Str}{vs:List VM},vs.length=ss.length->(∀(j:Nat)(v:VM),vs[j]?=some v->∃x:Str,ss[j]?=some x/\(dn P w).is (.inr x) v=true)->StrsAre vs ss
 | [],[],_,_=>.nil
 | x::ss,v::vs,hl,h=>by
  obtain⟨y,e,k⟩:=h 0 v rfl;cases e;rcases iJ (k:= .inr x) (v:=v) k with⟨i,t,e,_⟩ | ⟨z,t,e,ev⟩
  ·cases e
  ·cases e;subst ev;exact .cons x t (AN (by simpa using hl) λj v e=>h (j+1) v e)
theorem ID{X:Cx}:eF X (.builtin "sorted") (λxs H Q=>X.calm=true/\∃a kv ss,xs=[.ref a]/\Rd H a (.dK kv)/\kv.map (·.1)=ss.map P7/\ss.length < 64/\∀l,H l=none->Q (.ref l) (ai H l (.lst ((eQ ss).map V.str)))):=by
 intro pins s σ H xs us Q I r h;obtain⟨hc,a,kv,ss,rfl,ha,hk,h64,q⟩:=h;obtain⟨u,rfl,rx⟩:=fD r;cases rx;obtain⟨hz,lo,vs,rel,dd⟩:=kG I.hok ha;obtain⟨ep,da⟩:=dd.dictAt;have hlen:vs.length=ss.length:=by rw [<-rel.length,<-Of (f:=(·.1)),hk,Of]
 refine IC (ss:=ss) (kdl_dict (kvs:=vs) (ep:=ep) lo) (I.ok.hd hc) da VH (λus hl hp=>AN (P:=X.prog) (w:=X.w) VH λj v e=>?_) λh' h2 tk out e ss' k1 k2 at2 s1 s2 s3=>?_
 ·obtain⟨k,x,ek,kk⟩:=hp j v e;have e1:(vs.map (·.1))[j]?=some k:=by rw [OD,ek];rfl
  rw [<-rel.keys,hk,OD] at e1;cases es:ss[j]? with
  | none=>rw [es] at e1;cases e1
  | some y=>rw [es] at e1;cases e1;exact⟨y,rfl,kk⟩
 ·have es:ss'=eQ ss:=AB s2 (AE _ s3);subst es;have hl2:(eQ ss).length=ss.length:=s2.length_eq;have I1:af X pins σ H {s with heap:=h',toks:=tk}:=I.kept (t':=tk) k1;refine⟨.ref _,_,I1.laid (t':=tk) (o:= .lst ((eQ ss).map V.str)) k2 (Oj _) ?_,rfl,q _ (I1.hok.fresh (Oj _))⟩;refine⟨by rw [Of,hl2];exact O6 (Rj h64) VG,out.toList,e,wD s1,?_⟩;rw [at2]
theorem bA.keys{K:Oe}{H:Hp}{O:Ex}{kv:List (ak×V)}{kd:List (ak×VL)}(h:bA K H O kv kd):kv.map (·.1)=kd.map (·.1):=by
 induction h with
 | nil=>rfl
 | cons a _ ih=>simp only [Ol,ih]
section
variable {X:Cx} {H0:Hp} {O0:Ex}
def kW(i:Nat):DA:=λδ Q=>∃kd,δ[i]?=some (some (.k kd))/\∃ss:List Str,kd.map (·.1)=ss.map P7/\ss.length < 64/\Q ((eQ ss).map .str)
theorem IE{i:Nat}{o:VV}{np p:Pos}(hc:X.calm=true)(hg:Gl X "sorted")(hm:X.mg "sorted"=none)(hv:V9 "sorted"=some (.builtin "sorted"))(ho:PE X o (cJ i))(he:VT [o] X.env=(false,eval o X.env)::VT [] X.env:=by rfl)(hpl:(V5 p (VT [] X.env)).any (·.1)=false:=by rfl):
 FE X H0 O0 (.Call (.Name "sorted" np) [o] [] p) (kW i):=
 (dq ID hg hm hv (e7 ho iO he) (he:=he) (hpl:=hpl)).imp λσ H Q uu85=>by
  obtain⟨O,δ,Qd,w,⟨kd,e,ss,ek,h64,q⟩,k⟩:=uu85;obtain⟨l,kv,h,a,b,c,r⟩:=w.ownK e;exact⟨.ref l,h,hc,l,kv,ss,rfl,.inl c,by rw [r.keys];exact ek,h64,λp hp=>k _ _ _ _ q (aw.refl _) hp (aj.ofStrs _)⟩
end
section
theorem pK{a:List (ak×VL)}{r:Dl}{P:List (ak×VL)->Prop}:(∃d,(some (Sl.k a)::r)[0]?=some (some (Sl.k d))/\P d)=P a:=by simp
theorem pL{x:Option Sl}{r:Dl}{i:Nat}{P:List (ak×VL)->Prop}:(∃d,(x::r)[i+1]?=some (some (Sl.k d))/\P d)=(∃d,r[i]?=some (some (Sl.k d))/\P d):=by simp
theorem pM{x:Option Sl}{l:Dl}{i j:Nat}{P:List (ak×VL)->Prop}(h:i≠j):(∃d,(l.set i x)[j]?=some (some (Sl.k d))/\P d)=(∃d,l[j]?=some (some (Sl.k d))/\P d):=by rw [OG h]
theorem pN{x:Str}{P:ak->Prop}:(∃k,Oi x=sY k/\P k)=P (.inr x):=propext ⟨λuu86=>by obtain⟨k,e,p⟩:=uu86;cases k with | inl i=>cases e | inr y=>cases e;exact p,λp=>⟨_,rfl,p⟩⟩
end
def dF:VL->Bool
 | .none=>true
 | _=>false
def kX:VL->VL->(VL->Prop)->Prop:=λx y Q=>y= .none/\Q (.bool (dF x))
def kY:VL->VL->(VL->Prop)->Prop:=λx y Q=>y= .none/\Q (.bool (!dF x))
theorem Sh.isN{K:Oe}{H:Hp}{O:Ex}{x:V}{d:VL}(h:Sh K H O x d):decide (x= .non)=dF d:=by
 cases h with
 | dt h=>cases h <;> simp [dF]
 | _=>simp [dF]
theorem tf{K:Oe}:cu K (λx y H Q=>y= .non/\Q (.bl (decide (x= .non))) H) kX:=λH O x y dx dy Qd R _ hx hy uu87 k=>by
 obtain⟨e,q⟩:=uu87;subst e;refine⟨hy.non,?_⟩;rw [hx.isN];exact k _ _ H q (aw.refl _) (.bl _)
theorem wJ{K:Oe}:cu K (λx y H Q=>y= .non/\Q (.bl (!decide (x= .non))) H) kY:=λH O x y dx dy Qd R _ hx hy uu88 k=>by
 obtain⟨e,q⟩:=uu88;subst e;refine⟨hy.non,?_⟩;rw [hx.isN];exact k _ _ H q (aw.refl _) (.bl _)
def kZ:List VL->(VL->Prop)->Prop:=λds Q=>∃i:Int,ds=[.int i]/\Q (.int (if i < 0 then -i else i))
theorem IF{K:Oe}:mQ K (λxs H Q=>∃i,xs=[.int i]/\Q (.int (if i < 0 then -i else i)) H) kZ:=λH O xs ds Qd R _ hs uu89 k=>by
 obtain⟨i,e,q⟩:=uu89;subst e;cases hs with
 | cons h r=>cases r;cases h.int;exact⟨i,rfl,k _ _ H q (aw.refl _) (.int _)⟩
def lh:VL->VL->(VL->Prop)->Prop:=λx y Q=>∃ds i d,x=gG ds/\y= .int i/\atI ds i=some d/\Q d
theorem IG{K:Oe}:cu K (v9 K) lh:=λH O x y dx dy Qd R _ hx hy uu90 k=>by
 obtain⟨ds,i,d,e1,e2,e3,q⟩:=uu90;subst e1 e2;obtain⟨a,vs,rfl,hs,r⟩:=hx.scr;cases hy.int;obtain⟨v,hv,rv⟩:=r.atI e3;exact⟨a,vs,i,v,rfl,rfl,hs,hv,k d v H q (aw.refl _) rv⟩
section
variable {X:Cx} {H0:Hp} {O0:Ex}
def lq(t:DT)(tl th:DO):DA:=λδ Q=>t δ λd=>tl δ λl=>th δ λu=>∃xs,d=gG xs/\Q (cg xs l u)
theorem IH{e:VV}{lo hi:Option VV}{t:DT}{tl th:DO}{pos p2:Pos}(h:DF X H0 O0 e t)(hl:PO X lo (mR X.K H0 O0 tl))(hu:PO X hi (mR X.K H0 O0 th)):FE X H0 O0 (.Subscript e (.Slice lo hi none p2) pos) (lq t tl th):=
 (v5 zM h hl hu).imp λσ H Q uu91=>by obtain⟨O,δ,Qd,w,q,k⟩:=uu91;exact⟨O,δ,_,w,q,λd v H1 q1 s1 r1=>⟨O,δ,_,w.mono s1,q1,λl H2 q2 s2=>⟨O,δ,_,w.mono (s1.trans s2),q2,λu H3 uu92 s3=>by
  obtain⟨xs,e,q3⟩:=uu92;subst e;obtain⟨a,vs,rfl,h1,d1⟩:=(r1.mono (s2.trans s3)).scr;exact⟨a,vs,rfl,h1,λp hp=>k _ _ _ _ q3 (s1.trans (s2.trans s3)) hp (d1.cut l u)⟩⟩⟩⟩
end
theorem AO{X:Cx}:bH X (Wm .Mult) (λx y H Q=>∃(z:Str)(n:Int),x= .str z/\y= .int n/\MulOk z n/\Q (.str (Txt.mul z n)) H):=by
 intro pins s σ H x y v u Q I rx ry h;obtain⟨z,n,rfl,rfl,hok,q⟩:=h;obtain⟨t,rfl⟩:=rx;obtain⟨t',rfl⟩:=ry;exact SB.mul hok λt' k=>⟨.str _,H,I.tok _,⟨_,rfl⟩,q⟩
def lr:VL->VL->(VL->Prop)->Prop:=λx y Q=>∃(z:Str)(n:Int),x= .str z/\y= .int n/\MulOk z n/\Q (.str (Txt.mul z n))
theorem AQ{K:Oe}:cu K (λx y H Q=>∃(z:Str)(n:Int),x= .str z/\y= .int n/\MulOk z n/\Q (.str (Txt.mul z n)) H) lr:=λH O x y dx dy Qd R _ hx hy uu93 k=>by
 obtain⟨z,n,e1,e2,c,q⟩:=uu93;subst e1 e2;cases hx.str;cases hy.int;exact⟨z,n,rfl,rfl,c,k _ _ H q (aw.refl _) (.str _)⟩
open PySem PySem.Spec PyProof.Rows PySem.W
structure Rw where
 w:Str
 n:Int
 nm:Str
 r:List VL
def Rw.enc(x:Rw):VL:= .tuple (.str x.w:: .int x.n:: .str x.nm::x.r)
def fJ(ws:List Str)(day:Int)(x:Rw):Prop:=x.w∈ws/\x.n<=day
instance {ws:List Str} {day:Int} {x:Rw}:Decidable (fJ ws day x):=by unfold fJ;infer_instance
abbrev Ls:=List (Str×Rw)
def gK(L:Ls):List (ak×VL):=L.map λp=>(.inr p.1,p.2.enc)
def dP(L:Ls)(nm:Str):Option Rw:=(L.find? λp=>decide (p.1=nm)).map (·.2)
def uR(L:Ls)(nm:Str)(x:Rw):Ls:=if (L.any λp=>decide (p.1=nm))=true then L.map (λp=>if p.1=nm then(p.1,x) else p) else L++[(nm,x)]
theorem i5{a b:Str}:((P7 a:ak)=P7 b)↔a=b:=⟨λh=>by cases h;rfl,λh=>by rw [h]⟩
theorem wK(nm:Str):∀L:Ls,fu (gK L) (.inr nm)=(dP L nm).map Rw.enc
 | []=>rfl
 | p::L=>by
  have ih:=wK nm L;unfold fu dP gK at*;by_cases h:p.1=nm
  ·simp [PL,h]
  ·have h':¬((P7 p.1:ak)=P7 nm):=λz=>h (i5.mp z);simp only [Ol,PL,decide_eq_false h,decide_eq_false h'];exact ih
theorem AR(L:Ls)(nm:Str)(x:Rw):fI (gK L) (.inr nm) x.enc=gK (uR L nm x):=by
 have ha:(gK L).any (λp=>decide (p.1=(P7 nm:ak)))=L.any λp=>decide (p.1=nm):=by
  unfold gK;rw [R4];congr 1;funext p;simp only [P2,i5]
 unfold fI uR;rw [ha];split
 ·unfold gK;rw [Ov,Ov];apply Pm;intro p _;simp only [P2,i5];split <;> rfl
 ·unfold gK;simp
structure eT (ws:List Str) (day:Int) (xs:List Rw) (L:Ls):Prop where
 nd:(L.map (·.1)).Nodup
 it:∀p∈L,p.1=p.2.nm/\p.2∈xs/\fJ ws day p.2/\∀y∈xs,fJ ws day y->y.nm=p.1->y.n<=p.2.n
 al:∀y∈xs,fJ ws day y->∃p∈L,p.1=y.nm
 le:L.length<=xs.length
theorem eT.nil(ws:List Str)(day:Int):eT ws day [] []:=⟨List.nodup_nil,(λp h=>by cases h),(λp h=>by cases h),Oj _⟩
theorem uS{L:Ls}{nm:Str}{y:Rw}(h:dP L nm=some y):∃p∈L,p.1=nm/\p.2=y:=by
 unfold dP at h;cases e:L.find? (λp=>decide (p.1=nm)) with
 | none=>rw [e] at h;cases h
 | some p=>
  rw [e] at h;cases h;exact⟨p,Tw e,by simpa using List.find?_some e,rfl⟩
theorem AS{L:Ls}{nm:Str}(h:dP L nm=none):∀p∈L,p.1≠nm:=by
 intro p hp e;unfold dP at h;rw [Option.map_eq_none_iff,Sw] at h;exact h p hp (by simpa using e)
section
variable {ws:List Str} {day:Int} {xs:List Rw} {L:Ls} {x:Rw}
theorem eT.skip(h:eT ws day xs L)(hx:¬fJ ws day x):eT ws day (xs++[x]) L:=by
 refine⟨h.nd,λp hp=>?_,λy hy ho=>?_,by have:=h.le;simp;omega⟩
 ·obtain⟨a,b,c,d⟩:=h.it p hp;refine⟨a,by simp [b],c,λy hy ho e=>?_⟩;rcases OL.mp hy with z | z
  ·exact d y z ho e
  ·rw [OO] at z;subst z;exact absurd ho hx
 ·rcases OL.mp hy with z | z
  ·exact h.al y z ho
  ·rw [OO] at z;subst z;exact absurd ho hx
theorem eT.keep(h:eT ws day xs L){y0:Rw}(hl:dP L x.nm=some y0)(hn:¬y0.n < x.n):eT ws day (xs++[x]) L:=by
 obtain⟨p0,hp0,e0,rfl⟩:=uS hl;have uq:∀p∈L,p.1=x.nm->p=p0:=λp hp e=>by
  have nd:=h.nd;clear h hl hn
  induction L with
  | nil=>cases hp
  | cons q L ih=>
   rw [Ol,Qj] at nd;rcases OA.mp hp with a | a <;> rcases OA.mp hp0 with b | b
   ·rw [a,b]
   ·exact absurd (Oq.mpr ⟨p0,b,by rw [e0,<-e,a]⟩) nd.1
   ·exact absurd (Oq.mpr ⟨p,a,by rw [e,<-e0,b]⟩) nd.1
   ·exact ih b a nd.2
 refine⟨h.nd,λp hp=>?_,λy hy ho=>?_,by have:=h.le;simp;omega⟩
 ·obtain⟨a,b,c,d⟩:=h.it p hp;refine⟨a,by simp [b],c,λy hy ho e=>?_⟩;rcases OL.mp hy with z | z
  ·exact d y z ho e
  ·rw [OO] at z;subst z;rw [uq p hp e.symm];omega
 ·rcases OL.mp hy with z | z
  ·exact h.al y z ho
  ·rw [OO] at z;subst z;exact⟨p0,hp0,e0⟩
theorem eT.put(h:eT ws day xs L)(ho:fJ ws day x)(hl:∀y,dP L x.nm=some y->y.n < x.n):eT ws day (xs++[x]) (uR L x.nm x):=by
 unfold uR;split
 ·rename_i ha;obtain⟨p0,hp0,e0⟩:=Rc.mp ha;have e0:p0.1=x.nm:=of_decide_eq_true e0;have hmx:∀y∈xs,fJ ws day y->y.nm=x.nm->y.n<=x.n:=λy hy ho' e=>by
   cases hk:dP L x.nm with
   | none=>exact absurd e0 (AS hk p0 hp0)
   | some z=>
    obtain⟨p,hp,ep,rfl⟩:=uS hk;have:=(h.it p hp).2.2.2 y hy ho' (by rw [ep];exact e);have:=hl _ hk;omega
  refine⟨?_,λp hp=>?_,λy hy ho'=>?_,by have:=h.le;simp;omega⟩
  ·rw [Ov,show((λp:Str×Rw=>p.1)∘ λp=>if p.1=x.nm then(p.1,x) else p)=λp=>p.1 by funext p;simp only [P2];split <;> rfl];exact h.nd
  ·obtain⟨q,hq,rfl⟩:=Oq.mp hp;by_cases z:q.1=x.nm
   ·rw [VJ z];refine⟨z,by simp,ho,λy hy ho' e=>?_⟩;rcases OL.mp hy with m | m
    ·exact hmx y m ho' (by rw [e];exact z)
    ·rw [OO] at m;subst m;exact Vz _
   ·rw [VI z];obtain⟨a,b,c,d⟩:=h.it q hq;refine⟨a,by simp [b],c,λy hy ho' e=>?_⟩;rcases OL.mp hy with m | m
    ·exact d y m ho' e
    ·rw [OO] at m;subst m;exact absurd e.symm z
  ·rcases OL.mp hy with m | m
   ·obtain⟨p,hp,e⟩:=h.al y m ho';refine⟨_,Oq.mpr ⟨p,hp,rfl⟩,?_⟩;split <;> exact e
   ·rw [OO] at m;subst m;refine⟨_,Oq.mpr ⟨p0,hp0,rfl⟩,?_⟩;rw [VJ e0];exact e0
 ·rename_i ha;have hno:∀p∈L,p.1≠x.nm:=λp hp e=>ha (Rc.mpr ⟨p,hp,decide_eq_true e⟩);refine⟨?_,λp hp=>?_,λy hy ho'=>?_,by have:=h.le;simp;omega⟩
  ·rw [OM];refine Tt.mpr ⟨h.nd,by simp,λa ha' b hb=>?_⟩;simp only [Ol,PD,OO] at hb;obtain⟨p,hp,rfl⟩:=Oq.mp ha';rw [hb];exact hno p hp
  ·rcases OL.mp hp with m | m
   ·obtain⟨a,b,c,d⟩:=h.it p m;refine⟨a,by simp [b],c,λy hy ho' e=>?_⟩;rcases OL.mp hy with z | z
    ·exact d y z ho' e
    ·rw [OO] at z;subst z;exact absurd e.symm (hno p m)
   ·rw [OO] at m;subst m;refine⟨rfl,by simp,ho,λy hy ho' e=>?_⟩;rcases OL.mp hy with z | z
    ·obtain⟨p,hp,e'⟩:=h.al y z ho';exact absurd (e'.trans e) (hno p hp)
    ·rw [OO] at z;subst z;exact Vz _
  ·rcases OL.mp hy with m | m
   ·obtain⟨p,hp,e⟩:=h.al y m ho';exact⟨p,by simp [hp],e⟩
   ·rw [OO] at m;subst m;exact⟨(y.nm,y),by simp,rfl⟩
end
structure eU (ws:List Str) (day:Int) (xs res:List Rw):Prop where
 up:(res.map (·.nm)).Pairwise λa b=>cU a b=true
 nd:(res.map (·.nm)).Nodup
 it:∀x∈res,x∈xs/\fJ ws day x/\∀y∈xs,fJ ws day y->y.nm=x.nm->y.n<=x.n
 al:∀y∈xs,fJ ws day y->∃x∈res,x.nm=y.nm
 le:res.length<=xs.length
theorem wL{L:Ls}{nm:Str}(h:nm∈L.map (·.1)):∃x,dP L nm=some x:=by
 cases e:dP L nm with
 | some x=>exact⟨x,rfl⟩
 | none=>
  obtain⟨p,hp,e'⟩:=Oq.mp h;exact absurd e' (AS e p hp)
def uT(L:Ls):List Rw:=(eQ (L.map (·.1))).filterMap (dP L)
theorem II{ws:List Str}{day:Int}{xs:List Rw}{L:Ls}(h:eT ws day xs L):(uT L).map (·.nm)=eQ (L.map (·.1)):=by
 unfold uT;have key:∀l:List Str,(∀a∈l,a∈L.map (·.1))->(l.filterMap (dP L)).map (·.nm)=l:=by
  intro l
  induction l with
  | nil=>intro _;rfl
  | cons a l ih=>
   intro hl;obtain⟨x,hx⟩:=wL (hl a (by simp));obtain⟨p,hp,e,rfl⟩:=uS hx;rw [Pu,hx];show p.2.nm::_=_;rw [ih λb hb=>hl b (by simp [hb]),<-(h.it p hp).1,e]
 exact key _ λa ha=>(kK _).mem_iff.mp ha
theorem eT.res{ws:List Str}{day:Int}{xs:List Rw}{L:Ls}(h:eT ws day xs L):eU ws day xs (uT L):=by
 have hn:=II h;refine⟨by rw [hn];exact AA _,by rw [hn];exact(kK _).nodup_iff.mpr h.nd,λx hx=>?_,λy hy ho=>?_,by rw [<-Of (f:=λx:Rw=>x.nm),hn,(kK _).length_eq,Of];exact h.le⟩
 ·obtain⟨a,ha,e⟩:=RQ.mp hx;obtain⟨p,hp,e1,rfl⟩:=uS e;obtain⟨b1,b2,b3,b4⟩:=h.it p hp;exact⟨b2,b3,λy hy ho e=>b4 y hy ho (by rw [b1];exact e)⟩
 ·obtain⟨p,hp,e⟩:=h.al y hy ho;have:p.1∈(uT L).map (·.nm):=by rw [hn];exact(kK _).mem_iff.mpr (Oq.mpr ⟨p,hp,rfl⟩)
  obtain⟨x,hx,e'⟩:=Oq.mp this;exact⟨x,hx,e'.trans e⟩
open PySem PySem.Spec PyProof.Rows PySem.W PySem.Calls
theorem IJ(t:Wq)(n:Nat):(t.orStandIn n).led=t.led:=by unfold UA;split <;> rfl
theorem IK(t:Wq)(es:Array (Int×VM))(h:Int)(x:VM):(layNew t es h x).2.1.led=t.led:=by
 unfold layNew;split
 ·exact IJ _ _
 ·rfl
theorem IL(t:Wq)(es:Array (Int×VM))(n:Nat):(WX t es n).2.1.led=t.led:=by
 unfold WX U8 Vg;cases UK (UB n - 1) (es.map (·.1)) with
 | none=>rfl
 | some ow=>simp only [bind,VA,pure];split <;> rfl
abbrev fK(w:VZ):Bool:=w.params.followText "set-order"
open PySem PySem.Spec PyProof.Rows PySem.W PySem.Calls
section
variable {P:VY} {w:VZ} {A:V2} {E:VM->VP->Prop} {s:VP}
theorem IM(a:VM){Q₁:VM->VP->Prop}
 (h:Q₁ (.ref s.heap.objs.size) {s with heap:=s.heap.push {cls:= .type "set",dict:=none,data:= .set #[] 0 (.fresh 0 0 (!fK w))}}):
 WA (VU P w) A (.call (.builtin "set.__new__") ⟨[.type "set",a],[]⟩) (wants Q₁ E) s:=by
 refine codeAny_of_tree ?_;show VS _ A.in1 (checkBuiltinCall "set.__new__" ⟨[.type "set",a],[]⟩ >>=λ_=>again (.builtin "set.__new__" ⟨[.type "set",a],[]⟩)) _ _ s;refine VN (Xf (PySem.F.newCall_set_1 a) (VQ ⟨WV Ub _,WD PySem.F.entry_set_new ?_⟩));rw [RE Ub _];unfold Builtin.«set.__new__» Builtin.Frozenset.newClass;have hsb:=sub_set_self;obtain⟨hp,g,d,tk,os⟩:=s;dsimp only
 wp_walk
 refine Wy (VQ ?_);dsimp only;simp only [newObj];exact VN (wpAny_alloc (VQ (VQ h)))
end
open PySem PySem.Spec PyProof.Rows PySem.W PySem.Calls
theorem i6:Slot "set_iterator" "__next__" "set_iterator.__next__":=
 .of (owner:="set_iterator") (n:="__next__") (by rw [typeLookup_type,builtinLookup_eq_fast];kernel_rfl) cp cp cp
  (by first | exact .inl cp | exact .inr cp) (by rw [isSubtype_type];kernel_rfl)
theorem uU:entryFor table "set_iterator.__next__"=some Builtin.«set_iterator.__next__»:=entryFor_of_tree (by kernel_rfl)
theorem AU:Manifest.owners.lookup (String.ofList ['r','o','t','a','r','e','t','i','_','t','e','s'].reverse)=some Manifest.sig_set_iterator:=by kernel_rfl
theorem uV(a:VM):argsOk "set_iterator.__next__" ⟨[a],[]⟩:=by
 unfold argsOk;rw [signature?_of (id:="set_iterator.__next__") (n:=['_','_','t','x','e','n','_','_']) (o:=['r','o','t','a','r','e','t','i','_','t','e','s']) (by kernel_rfl) AU];kernel_rfl
theorem IP:entryFor table "set.__iter__"=some Builtin.«frozenset.__iter__»:=entryFor_alias (id':="frozenset.__iter__") (by kernel_rfl) rfl cp (by kernel_rfl)
theorem wM{α:Type}:∀{l:List α}{i:Nat}(h:i < l.length),(l[i]::l.eraseIdx i).Perm l
 | a::l,0,h=>.refl _
 | a::l,i+1,h=>by
  have:=wM (l:=l) (i:=i) (by simpa using h);simp only [List.getElem_cons_succ,List.eraseIdx_cons_succ];exact(List.Perm.swap _ _ _).trans (this.cons a)
theorem AV{α:Type}(next:Nat->Nat):∀(f k:Nat)(left:List α)(out:Array α),f=left.length->(pickOrder.go next f k left out).toList.Perm (out.toList++left)
 | 0,k,left,out,e=>by
  rw [S4 e.symm];unfold pickOrder.go;simp
 | f+1,k,left,out,e=>by
  unfold pickOrder.go;have hlt:next k % left.length < left.length:=Nat.mod_lt _ VH;rw [OT hlt];refine(AV next f (k+1) _ _ (by rw [Tn hlt];omega)).trans ?_;rw [UL,SH];exact List.Perm.append_left _ (wM hlt)
theorem IQ{α:Type}(next:Nat->Nat)(xs:Array α):(Xi next xs).toList.Perm xs.toList:=by
 have:=AV next xs.size 0 xs.toList #[] (by simp);simpa [Xi] using this
section
variable {P:VY} {w:VZ} {A:V2} {E:VM->VP->Prop}
theorem AW{α:Type}:∀(n:Nat)(xs:List α)(s:VP)(Q:List α->VP->Prop),n=xs.length->(∀ys d,ys.Perm xs->Q ys {s with drawn:=d})->VS (VU P w) A (drawOrder n xs) Q E s
 | 0,xs,s,Q,e,q=>by
  rw [S4 e.symm] at q⊢;unfold drawOrder;exact VQ (q [] s.drawn (.refl _))
 | n+1,[],s,Q,e,q=>by cases e
 | n+1,x::xs,s,Q,e,q=>by
  unfold drawOrder;refine VN ?_;intro Γ p hΓ;refine⟨by simp,?_⟩;generalize hi:(VU P w).w.draws .order (s.drawn.get .order)% (x::xs).length=i;have hlt:i < (x::xs).length:=by rw [<-hi];exact Nat.mod_lt _ (by simp)
  have key:VS (VU P w) A (match (x::xs)[i]? with | some y=>(do return y::(<-drawOrder n ((x::xs).eraseIdx i))) | none=>unsupported "internal:drawOrder") Q E {s with drawn:=s.drawn.bump .order}:=by
   rw [OT hlt];refine VN (AW n _ _ _ (by rw [Tn hlt];simp at e⊢;omega) λys d hp=>VQ (q _ d ?_));exact(hp.cons _).trans (wM hlt)
  exact key
end
def fL(h:V0)(it:VO)(f:VM)(i:Nat)(a:VO)(n ep:Nat):Prop:=∃o,h.get? it=some o/\o.cls= .type "set_iterator"/\o.data= .fields #[f,.int i 0,.ref a,.int n 0,.int ep 0]
theorem fL.typeIs{s:VP}{it f i a n ep}(x:fL s.heap it f i a n ep):s.TypeIs (.ref it) "set_iterator":=let ⟨o,h,c,_⟩:=x;⟨o,h,c⟩
section
variable {P:VY} {w:VZ} {A:V2} {E:VM->VP->Prop} {s:VP} {a:VO} {o:Obj} {es:Array (Int×VM)} {ep:Nat} {t:Wq}
theorem AX{slot i:Nat}{Q:Option (VM×Nat)->VP->Prop}(hb:fK w=true)(o1:s.heap.get? a=some o)(d1:o.data= .set es ep t)(f1:t.fits es.size=true)
 (h:Q (((Xi (w.params.setOrder a ep) es)[i]?).map λe=>(e.2,slot)) s):VS (VU P w) A (WU a slot i ep) Q E s:=by
 unfold WU setWalk setsByText;refine VN (Wu o1 d1 f1 (VN (VN (Wy (VQ ?_)))));rw [VJ (show(VU P w).w.params.followText "set-order"=true from hb)];rw [VI (by simp)];refine VN (VN (Wu o1 d1 f1 (VN (VN (Wy (VQ ?_))))));rw [VJ (show(VU P w).w.params.followText "set-order"=true from hb)];exact VN (Wy (VQ (VQ h)))
theorem IS{it:VO}{slot slot' i:Nat}{x:VM}{Q:Option VM->VP->Prop}(hit:fL s.heap it (.int slot 0) i a es.size ep)(o1:s.heap.get? a=some o)(d1:o.data= .set es ep t)(f1:t.fits es.size=true)
 (nx:∀E' Q',Q' (some (x,slot')) s->VS (VU P w) A.in1 (WU a slot i ep) Q' E' s)
 (hQ:∀h',fL h' it (.int slot' 0) (i+1) a es.size ep->Q0 it s.heap h'->Q (some x) {s with heap:=h'}):VS (VU P w) A (WI (.ref it)) Q E s:=by
 obtain⟨u,u1,c1,e1⟩:=id hit;unfold WI;refine VN (WW (Wj (name:=Od "__next__") hit.typeIs i6 (Wc i6 hit.typeIs uU ?_ (uV _))));unfold Builtin.«set_iterator.__next__»;refine VN (m:=slotArgs _ _ _) (VQ (VN (Xc u1 e1 ?_)));show VS _ _ (setEntries a >>=_) _ _ s;refine VN (Wz o1 d1 f1 ?_);rw [VI (by simp)];show VS _ _ (WU a ((slot:Int)).toNat ((i:Int)).toNat ((ep:Int)).toNat >>=_) _ _ s;simp only [Q4];refine VN (nx _ _ ?_);show VS _ _ (setField (.ref it) 0 (WG (slot':Int)) >>=_) _ _ s;refine VN (WH u1 e1 (by simp) ?_);have g1:=Qx (Vh (·.setIfInBounds 0 (WG (slot':Int)))) u1 (R5 (Qz e1 _));have k1:=Qz e1 (·.setIfInBounds 0 (WG (slot':Int)));refine VN (WH g1 k1 (by simp) (VQ ⟨x,rfl,VQ (hQ _ ?_ ((PB ..).trans (PB ..)))⟩));refine⟨_,Qx _ g1 (R5 (Qz k1 _)),(Tu ..).trans ((Tu ..).trans c1),?_⟩;rw [Qz k1];simp [WG]
theorem IT{it pl:VO}{i k:Nat}{hk:Int}{x:VM}{ol:Obj}{ps:Array VM}{nl:Nat}{Q:Option VM->VP->Prop}(hit:fL s.heap it (.ref pl) i a es.size ep)(o1:s.heap.get? a=some o)(d1:o.data= .set es ep t)(f1:t.fits es.size=true)
 (l1:s.heap.get? pl=some ol)(l2:ol.data= .seq ps nl)(p1:ps[i]?=some (.int (k:Int) 0))(x1:es[k]?=some (hk,x))
 (hQ:∀h',fL h' it (.ref pl) (i+1) a es.size ep->Q0 it s.heap h'->Q (some x) {s with heap:=h'}):VS (VU P w) A (WI (.ref it)) Q E s:=by
 obtain⟨u,u1,c1,e1⟩:=id hit;unfold WI;refine VN (WW (Wj (name:=Od "__next__") hit.typeIs i6 (Wc i6 hit.typeIs uU ?_ (uV _))));unfold Builtin.«set_iterator.__next__»;refine VN (m:=slotArgs _ _ _) (VQ (VN (Xc u1 e1 ?_)));show VS _ _ (setEntries a >>=_) _ _ s;refine VN (Wz o1 d1 f1 ?_);rw [VI (by simp)];show VS _ _ (seqItems? (.ref pl) >>=_) _ _ s;refine VN (wpAny_seqItems l1 l2 ?_);simp only [Q4,p1];refine VN ?_;unfold setNextDrawn;refine VN (Wu o1 d1 f1 ?_);simp only [Q4];rw [VI (by simp),x1];refine VQ (VN (WH u1 e1 (by simp) (VQ ⟨x,rfl,VQ (hQ _ ?_ (PB ..))⟩)));refine⟨_,Qx _ u1 (R5 (Qz e1 _)),(Tu ..).trans c1,?_⟩;rw [Qz e1];simp [WG]
theorem IU{it:VO}{slot i:Nat}{Q:Option VM->VP->Prop}(hh:A.handled=none)(hit:fL s.heap it (.int slot 0) i a es.size ep)(o1:s.heap.get? a=some o)(d1:o.data= .set es ep t)(f1:t.fits es.size=true)
 (nx:∀E' Q',Q' none s->VS (VU P w) A.in1 (WU a slot i ep) Q' E' s)
 (hQ:∀h',VB it s.heap h'->Q none {s with heap:=h'}):VS (VU P w) A (WI (.ref it)) Q E s:=by
 obtain⟨u,u1,c1,e1⟩:=id hit;unfold WI;refine VN (WW (Wj (name:=Od "__next__") hit.typeIs i6 (Wc i6 hit.typeIs uU ?_ (uV _))));unfold Builtin.«set_iterator.__next__»;refine VN (m:=slotArgs _ _ _) (VQ (VN (Xc u1 e1 ?_)));show VS _ _ (setEntries a >>=_) _ _ s;refine VN (Wz o1 d1 f1 ?_);rw [VI (by simp)];show VS _ _ (WU a ((slot:Int)).toNat ((i:Int)).toNat ((ep:Int)).toNat >>=_) _ _ s;simp only [Q4];refine VN (nx _ _ ?_);show VS _ _ (setField (.ref it) 2 .none >>=_) _ _ s;refine VN (WH u1 e1 (by simp) ?_);refine VN (m:=newExc (.type "StopIteration") []) ?_;simp only [newExc,newTuple];refine VN (V7 ?_ (by size_fits));refine VN (m:=Xd _ _) (Xf (a:=QY) (by first | rfl | (simp only [Xd];rfl)) ?_);refine V7 ?_ (by size_fits);simp only [raiseNew];refine VN (wpAny_handled ?_);rw [show A.in1.handled=none from hh];refine VN (VQ (wpAny_throw ?_));refine VN (Xo (T:="StopIteration") (b:=true) ⟨_,OR _ rfl,rfl⟩ isSubtype_stop ?_);exact VQ (hQ _ (((PB ..).extBut.push _).push _))
theorem IV{it pl:VO}{i:Nat}{ol:Obj}{ps:Array VM}{nl:Nat}{Q:Option VM->VP->Prop}(hh:A.handled=none)(hit:fL s.heap it (.ref pl) i a es.size ep)(o1:s.heap.get? a=some o)(d1:o.data= .set es ep t)(f1:t.fits es.size=true)
 (l1:s.heap.get? pl=some ol)(l2:ol.data= .seq ps nl)(p1:ps[i]?=none)
 (hQ:∀h',VB it s.heap h'->Q none {s with heap:=h'}):VS (VU P w) A (WI (.ref it)) Q E s:=by
 obtain⟨u,u1,c1,e1⟩:=id hit;unfold WI;refine VN (WW (Wj (name:=Od "__next__") hit.typeIs i6 (Wc i6 hit.typeIs uU ?_ (uV _))));unfold Builtin.«set_iterator.__next__»;refine VN (m:=slotArgs _ _ _) (VQ (VN (Xc u1 e1 ?_)));show VS _ _ (setEntries a >>=_) _ _ s;refine VN (Wz o1 d1 f1 ?_);rw [VI (by simp)];show VS _ _ (seqItems? (.ref pl) >>=_) _ _ s;refine VN (wpAny_seqItems l1 l2 ?_);simp only [Q4,p1];show VS _ _ (setField (.ref it) 0 (WG 0) >>=_) _ _ s;refine VN (WH u1 e1 (by simp) ?_);have g1:=Qx (Vh (·.setIfInBounds 0 (WG 0))) u1 (R5 (Qz e1 _));have k1:=Qz e1 (·.setIfInBounds 0 (WG 0));refine VN (WH g1 k1 (by simp) ?_);refine VN (m:=newExc (.type "StopIteration") []) ?_;simp only [newExc,newTuple];refine VN (V7 ?_ (by size_fits));refine VN (m:=Xd _ _) (Xf (a:=QY) (by first | rfl | (simp only [Xd];rfl)) ?_);refine V7 ?_ (by size_fits);simp only [raiseNew];refine VN (wpAny_handled ?_);rw [show A.in1.handled=none from hh];refine VN (VQ (wpAny_throw ?_));refine VN (Xo (T:="StopIteration") (b:=true) ⟨_,OR _ rfl,rfl⟩ isSubtype_stop ?_);exact VQ (hQ _ ((((PB ..).trans (PB ..)).extBut.push _).push _))
end
open PySem PySem.Spec PyProof.Rows PySem.W PySem.Calls
theorem AY:Slot "set_iterator" "__iter__" "set_iterator.__iter__":=
 .of (owner:="set_iterator") (n:="__iter__") (by rw [typeLookup_type,builtinLookup_eq_fast];kernel_rfl) cp cp cp
  (by first | exact .inl cp | exact .inr cp) (by rw [isSubtype_type];kernel_rfl)
theorem IW:entryFor table "set_iterator.__iter__"=some Builtin.«dict_keyiterator.__iter__»:=entryFor_alias (id':="dict_keyiterator.__iter__") (by kernel_rfl) rfl cp (by kernel_rfl)
theorem IX(a:VM):argsOk "set_iterator.__iter__" ⟨[a],[]⟩:=by
 unfold argsOk;rw [signature?_of (id:="set_iterator.__iter__") (n:=['_','_','r','e','t','i','_','_']) (o:=['r','o','t','a','r','e','t','i','_','t','e','s']) (by kernel_rfl) AU];kernel_rfl
theorem fL.at{h h':V0}{it f i a n ep}(x:fL h it f i a n ep)(e:∀o,h.get? it=some o->h'.get? it=some o):fL h' it f i a n ep:=let ⟨o,ho,r⟩:=x;⟨o,e _ ho,r⟩
section
variable {P:VY} {w:VZ} {A:V2} {E:VM->VP->Prop} {s:VP} {a:VO} {o:Obj} {es:Array (Int×VM)} {ep:Nat} {t:Wq}
theorem AZ{it:VO}{f:VM}{i n:Nat}{Q:VM->VP->Prop}(hit:fL s.heap it f i a n ep)(h:Q (.ref it) s):VS (VU P w) A (pyIter (.ref it)) Q E s:=by
 refine wpAny_pyIter_slot hit.typeIs AY (Wc AY hit.typeIs IW ?_ (IX _));exact VN (m:=slotArgs _ _ _) (VQ (VQ ⟨_,rfl,"set_iterator",_,hit.typeIs,i6.lookup,h⟩))
theorem A1(hh:A.handled=none)(it:VO)(hne:a≠it)(d1:o.data= .set es ep t)(f1:t.fits es.size=true)(vs:List VM)(hl:vs.length=es.size)(sl:Nat->Nat)
 (nx:∀(s:VP) (i:Nat) (h:i < vs.length) E' Q',s.heap.get? a=some o->Q' (some (vs[i],sl (i+1))) s->VS (VU P w) A.in1 (WU a (sl i) i ep) Q' E' s)
 (nd:∀(s:VP) E' Q',s.heap.get? a=some o->Q' none s->VS (VU P w) A.in1 (WU a (sl es.size) es.size ep) Q' E' s):
 Walks P w A it [it,a] [it] es.size (λi v=>vs[i]?=some v) (λi h=>fL h it (.int (sl i:Nat) 0) i a es.size ep/\h.get? a=some o) where
 sub:=λb hb=>by rw [OO] at hb;simp [hb]
 frame:=λ_ _ _ st hk=>⟨st.1.at λo e=>hk it (by simp) o e,hk a (by simp) o st.2⟩
 item:=λi s Q E hi st hQ=>by
  have hi':i < vs.length:=VH
  refine IS st.1 st.2 d1 f1 (λE' Q' q=>nx s i hi' E' Q' st.2 q) λh' it' sb=>?_;exact hQ _ h' s.toks (by simp [hi']) ⟨it',by rw [sb.2 a hne];exact st.2⟩ λb u hb e=>sb.extBut b u (λz=>hb (by simp [z])) e
 done:=λs Q E st hQ=>IU hh st.1 st.2 d1 f1 (λE' Q' q=>nd s E' Q' st.2 q) λh' he=>hQ h' s.toks λb u hb e=>he b u (λz=>hb (by simp [z])) e
 self:=λ_ _ _ _ st hQ=>AZ st.1 hQ
theorem IY(hh:A.handled=none)(it pl:VO)(hne:a≠it)(hnp:pl≠it)(d1:o.data= .set es ep t)(f1:t.fits es.size=true)(vs:List VM)(ks:List Nat){ol:Obj}{nl:Nat}(l2:ol.data= .seq (ks.map λ(k:Nat)=>QU (k:Int) 0).toArray nl)
 (hl:ks.length=es.size)(hv:∀i k:Nat,ks[i]?=some k->∃h x,es[k]?=some (h,x)/\vs[i]?=some x):
 Walks P w A it [it,a,pl] [it] es.size (λi v=>vs[i]?=some v) (λi h=>fL h it (.ref pl) i a es.size ep/\h.get? a=some o/\h.get? pl=some ol) where
 sub:=λb hb=>by rw [OO] at hb;simp [hb]
 frame:=λ_ _ _ st hk=>⟨st.1.at λo e=>hk it (by simp) o e,hk a (by simp) o st.2.1,hk pl (by simp) ol st.2.2⟩
 item:=λi s Q E hi st hQ=>by
  have hi':i < ks.length:=VH
  obtain⟨h,x,e1,e2⟩:=hv i ks[i] (by simp [hi']);refine IT st.1 st.2.1 d1 f1 st.2.2 l2 (k:=ks[i]) (by simp [hi']) e1 λh' it' sb=>?_;exact hQ _ h' s.toks e2 ⟨it',by rw [sb.2 a hne];exact st.2.1,by rw [sb.2 pl hnp];exact st.2.2⟩ λb u hb e=>sb.extBut b u (λz=>hb (by simp [z])) e
 done:=λs Q E st hQ=>IV hh st.1 st.2.1 d1 f1 st.2.2 l2 (by simp [hl]) λh' he=>hQ h' s.toks λb u hb e=>he b u (λz=>hb (by simp [z])) e
 self:=λ_ _ _ _ st hQ=>AZ st.1 hQ
end
open PySem PySem.Spec PyProof.Rows PySem.W PySem.Calls
section
variable {P:VY} {w:VZ} {A:V2} {E:VM->VP->Prop} {s:VP} {a:VO}
theorem IZ{Q:Bool->VP->Prop}(hT:s.TypeIs (.ref a) "set")(h:Q false s):VS (VU P w) A (Tb (.ref a)) Q E s:=by
 unfold Tb;refine VN (wpAny_specialOf hT PySem.F.slot_set_len.lookup ?_);generalize hid:("set.__len__":String)=id0
 wp_delta
 rw [show splitId id0=some ("set","__len__") from by subst hid;decide+kernel];subst hid;refine VN (Xo (T:="set") (b:=true) hT (by rw [isSubtype_type];kernel_rfl) ?_);refine W9 (λz=>absurd z VG) (λ_=>?_);refine W9 (λ_=>?_) (λz=>absurd cp z);exact VN (W7 hT (VQ h))
end
open PySem PySem.Spec PyProof.Rows PySem.W PySem.Calls
theorem af.drw{X:Cx}{pins:List (VO×Obj)}{σ:List (Option V)}{H:Hp}{s:VP}{d:Drawn}(I:af X pins σ H s):af X pins σ H {s with drawn:=d}:=⟨I.ok,I.os,I.bare,I.base,I.loc,I.cell,I.free,I.freeC,I.pin,I.hok,I.len⟩
theorem I0:V9 "set"=some (.type "set"):=cp
open PySem PySem.Spec PyProof.Rows PySem.W PySem.Calls
section
variable {X:Cx} {H0:Hp} {O0:Ex}
def lx(i:Nat)(t:DA):DS:=λE δ=>∃ds,δ[i]?=some (some (.o ds))/\t δ λes=>ds.length+es.length<=VW/\E.nx (δ.set i (some (.o (ds++es))))
theorem uW{i:Nat}{o e:VV}{t:DA}{apos cpos pos:Pos}(ho:PE X o (cJ i))(he:FE X H0 O0 e t)(hbase:Wi o "extend" X.env (eval o X.env)=eval o X.env:=by rfl)
 (hfew:((V5 cpos (VT [e] X.env)).all (λx=>!x.1) && (Wv cpos (Wl [] X.env)).all (λx=>x.1.isSome) && decide ([e].length+([]:List WB).length+(if ([]:List WB).isEmpty then 0 else 1) < 30))=true:=by rfl)
 (hline:(apos.endLine==cpos.line)=true:=by rfl)(hst:VT [e] X.env=(false,eval e X.env)::VT [] X.env:=by rfl)(hplain:(V5 cpos (VT [] X.env)).any (·.1)=false:=by rfl)
 (hs:V6 (.Call (.Attribute o "extend" apos) [e] [] cpos) none pos.line X.env=pure false:=by rfl):PS X (.Expr (.Call (.Attribute o "extend" apos) [e] [] cpos) pos) (bo X.K H0 O0 (lx i t)):=
 (tQ (wb SF Sx TL GV ho (e7 he iO hst) hbase hfew hline hst hplain) hs).imp λD σ H uu94=>by
  obtain⟨O,δ,E,w,⟨ds,e,q⟩,k1,k2,k3,k4⟩:=uu94;obtain⟨l,vs,h,a,b,c,r⟩:=w.own e;refine⟨_,h,.inl ⟨rfl,_,bg.of c⟩,O,δ,_,w,q,λes ws p H1 q1 s1 hp r1=>?_⟩;have hl:H1 l=some (.lst vs):=s1 _ _ c;have np:l≠p:=λz=>by rw [z,hp] at hl;cases hl
  have S2:aw H1 (ai H1 p (.lst ws)):=aw.new hp;refine⟨l,p,vs,ws,rfl,rfl,by rw [az np];exact hl,bh,by rw [r.length,r1.length];exact q1.1,?_⟩;exact k1 _ _ _ _ q1.2 (((w.mono s1).mono S2).putO (vs:=vs) e h (((r.mono s1).mono S2).append (r1.mono S2))) ⟨λb' o' z n=>by rw [az (λy=>n (by rw [y];exact a))];exact S2 _ _ (s1 _ _ z),λ_ _ n=>n⟩
end
theorem A2:∀{ns:List Int}{us:List VM},aK (ns.map V.int) us->We us ns
 | [],_,r=>by rw [PD] at r;cases r;exact .nil
 | n::ns,_,r=>by
  rw [Ol] at r;cases r with
  | cons r1 r2=>obtain⟨t,rfl⟩:=r1;exact .cons n t (A2 r2)
theorem aj.intsL{K:Oe}{H:Hp}{O:Ex}:∀{ns:List Int}{vs:List V},aj K H O vs (ns.map OZ)->vs=ns.map V.int
 | [],_,r=>by rw [PD] at r;cases r;rfl
 | b::bs,_,r=>by
  rw [Ol] at r;cases r with
  | cons h r=>cases h;rw [Ol,aj.intsL r]
theorem Wd.frzK{K:Oe}{H0 H:Hp}{O0 O:Ex}{σ:St}{δ:Dl}(w:Wd K H0 O0 H O σ δ){i:Nat}{l:VO}{y0:Sl}(e:δ[i]?=some (some y0))(ho:y0.own)(h:σ[i]?=some (some (.ref l)))(u:HO):
 ∃O',Wd K H0 O0 (ai H l u) O' σ (δ.set i none)/\aN H (ai H l u) O O'/\¬O' l:=by
 obtain⟨l',x1,a,b⟩:=w.adr e ho;rw [h] at x1;cases x1;have l0:H0 l=none:=(w.new l a).resolve_left b;have S:aN H (ai H l u) O (λx=>O x/\x≠l):=⟨λc q z n=>by rw [az (λy=>n (by rw [y];exact a))];exact z,λ_ _ n z=>n z.1⟩;have li:i < δ.length:=(OB.mp e).1;have ne:∀{j:Nat}{y:Sl},(δ.set i none)[j]?=some (some y)->j≠i:=λ{j y} q z=>by
  subst z;rw [OS li] at q;cases q
 refine⟨_,⟨λc q z=>?_,λx z=>⟨w.sub x z,λy=>b (by rw [<-y];exact z)⟩,λx z=>w.new x z.1,λx z=>by rw [az z.2];exact w.trk x z.1,by simp [w.len],λj y q=>?_,λj k y z l' e1 y1 e2 z2 e3 e4=>?_⟩,S,λz=>z.2 rfl⟩
 ·have:c≠l:=λy=>by rw [y,l0] at z;cases z
  rw [az this];exact w.same c q z
 ·by_cases hj:j=i
  ·subst hj;rw [OS li] at q;cases q;exact QG
  ·rw [OG (Ne.symm hj)] at q;refine(w.sl j y q).go S (λb o ho' e' a1 a2 a3=>?_) (λb o u a1 a2 a3=>by have nb:b≠l:=λz=>w.nofrz e ho h o u (by rw [<-z];exact a3);exact⟨⟨a1,nb⟩,by rw [az nb];exact a3⟩) λc o a1 a3=>by rw [az (λz=>b (by rw [<-z];exact a1))];exact a3
   have nb:b≠l:=λz=>by
    subst z
    match y,ho',q with
    | some z,ho',q=>exact hj (w.dis j i z y0 _ q (by cases z <;> first | trivial | cases ho') e ho (fi e') h)
   exact⟨⟨a1,nb⟩,by rw [az nb];exact a3⟩
 ·have n1:=ne e1;have n2:=ne e2;rw [OG (Ne.symm n1)] at e1;rw [OG (Ne.symm n2)] at e2;exact w.dis j k _ _ l' e1 y1 e2 z2 e3 e4
open PySem PySem.Spec PyProof.Rows PySem.W PySem.Calls
section
variable {X:Cx} {H0:Hp} {O0:Ex}
theorem qL{N':List Str}{k:Nat}{fr:List Nat}{scope:Wn}{iter elt tg:VV}{ifs:List VV}{t te:DT}{tc:DB}{g:TG}{dg:DG}{pos:Pos}(hc:X.calm=true)(S:bb X.env.scope X.N N' k fr scope)(hi:DF X H0 O0 iter t)(gd:GD X.K g dg)(hk:ie g k)(hfr:fr.Nodup)
 (hg:∀fp C s H,PG (br X scope N' fp C s H) tg g)(hf:∀fp C s H,dZ (br X scope N' fp C s H) ifs (bK X.K H0 O0 tc))(he:∀fp C s H,PE (br X scope N' fp C s H) elt (up X.K H0 O0 te))
 (hs:∀x,V3 iter X.env x=pure x:=by intro _;rfl):PU X (.ListComp elt [⟨tg,iter,ifs,0⟩] scope pos) (qx X.K H0 O0 (ij t dg tc te k fr)):=
 (uN hc S (vP hi) hg hf he hs).imp λσ H Q uu95=>by obtain⟨O,δ,Qd,w,q,kk⟩:=uu95;exact⟨O,δ,_,w,q,λd v H1 uu96 s1 r1=>by
  obtain⟨xs,e,hz,q1⟩:=uu96;subst e;obtain⟨a,vs,rfl,hq,rr⟩:=r1.tup;refine⟨a,rfl,⟨_,hq⟩,λD hD=>qC (cy.tup hq) gd hfr (λv _ H' R h=>hk fr σ v H' R h) (λ_ _ _ z=>z) (λ_ _ _ z=>z) (λD H' hD s' o e=>s' _ _ e (cM e hD)) rr (w.mono s1) (by rw [rr.length];exact hz) q1 (λds us p H' z s' hp r'=>kk ds us p H' z (s1.trans s') hp r') D hD⟩⟩
end
open PySem PySem.Spec PyProof.Rows PySem.W PySem.Calls
structure rC (n:Nat) (lt:Nat->Nat->Bool) (I:VP->Prop) (cmp:Nat->Nat->(Bool->VP->Prop)->VP->Prop):Prop where
 as:∀i j C s,i < n->j < n->i≠j->I s->(∀s',I s'->C (lt i j) s')->cmp i j C s
structure i7 (n:Nat) (lt:Nat->Nat->Bool):Prop where
 tot:∀i j,i < n->j < n->i≠j->lt i j=!lt j i
 tr:∀i j k,i < n->j < n->k < n->lt i j=true->lt j k=true->lt i k=true
structure bR (n:Nat) (p:Array Nat):Prop where
 perm:p.toList.Perm (Qa n)
theorem bR.size{n:Nat}{p:Array Nat}(h:bR n p):p.size=n:=by rw [<-OU,h.perm.length_eq,RX]
theorem bR.lt{n:Nat}{p:Array Nat}(h:bR n p){k:Nat}(hk:k < n):p.getD k 0 < n:=by
 have hs:=h.size;have e:p.getD k 0=p[k]'VH:=by simp [RF,show k < p.size by omega]
 rw [e];have:=h.perm.mem_iff.mp (Ug.mpr (Array.getElem_mem (show k < p.size by omega)));simpa using this
theorem bR.ne{n:Nat}{p:Array Nat}(h:bR n p){i j:Nat}(hi:i < n)(hj:j < n)(hij:i≠j):p.getD i 0≠p.getD j 0:=by
 have hs:=h.size;have nd:p.toList.Nodup:=h.perm.nodup_iff.mpr List.nodup_range;have ei:p.getD i 0=p.toList[i]'(by simp;omega):=by simp [RF,show i < p.size by omega]
 have ej:p.getD j 0=p.toList[j]'(by simp;omega):=by simp [RF,show j < p.size by omega]
 rw [ei,ej];intro e;exact hij ((SN nd).mp e)
theorem bR.bubble{n:Nat}{p:Array Nat}(h:bR n p)(a d:Nat):bR n (S6 p a d):=⟨(To.mp (bubble_perm p a d)).trans h.perm⟩
theorem bR.rev{n:Nat}{p:Array Nat}(h:bR n p)(i j:Nat):bR n (kas_rev p i j):=⟨(To.mp (mirror_perm p i j _)).trans h.perm⟩
theorem wN(n:Nat):bR n (UC (Qa n)):=⟨by simp⟩
def Up(lt:Nat->Nat->Bool)(p:Array Nat)(k:Nat):Prop:=∀i j,i < j->j < k->lt (p.getD i 0) (p.getD j 0)=true
section
variable {n:Nat} {lt:Nat->Nat->Bool} {I:VP->Prop} {cmp:Nat->Nat->(Bool->VP->Prop)->VP->Prop}
theorem Up.snoc(T:i7 n lt){p:Array Nat}(hp:bR n p){k:Nat}(hk:k < n)(h:Up lt p k)(h0:0 < k)(hl:lt (p.getD (k - 1) 0) (p.getD k 0)=true):Up lt p (k+1):=by
 intro i j hij hj;rcases QL j k with z | z
 ·exact h i j hij z
 ·have:j=k:=VH
  subst this;rcases QL i (j - 1) with w | w
  ·exact T.tr _ _ _ (hp.lt VH) (hp.lt VH) (hp.lt hk) (h i (j - 1) w VH) hl
  ·have:i=j - 1:=VH
   subst this;exact hl
theorem wO(A:rC n lt I cmp)(T:i7 n lt){p:Array Nat}(hp:bR n p){Q:Nat->VP->Prop}:∀(f m:Nat)(s:VP),1<=m->m+f=n->Up lt p m->I s->
 (∀k s',I s'->m<=k->k<=n->Up lt p k->(k < n->lt (p.getD k 0) (p.getD (k - 1) 0)=true)->Q k s')->(kas_asc p f m).kasWp cmp Q s
 | 0,m,s,h1,hf,hu,hI,q=>q m s hI (Oj _) VH hu (λz=>by omega)
 | f+1,m,s,h1,hf,hu,hI,q=>by
  have hm:m < n:=VH
  refine A.as _ _ _ s (hp.lt hm) (hp.lt VH) (hp.ne hm VH VH) hI λs' hI'=>?_;cases hc:lt (p.getD m 0) (p.getD (m - 1) 0) with
  | true=>
   dsimp only;rw [VJ rfl];exact q m s' hI' (Oj _) VH hu (λ_=>hc)
  | false=>
   dsimp only;rw [VI (by simp)];have hl:lt (p.getD (m - 1) 0) (p.getD m 0)=true:=by rw [T.tot _ _ (hp.lt VH) (hp.lt hm) (hp.ne VH hm VH),hc];rfl
   exact wO A T hp f (m+1) s' VH VH (hu.snoc T hp hm VH hl) hI' λk s2 a b c d e=>q k s2 a VH c d e
def Dn(lt:Nat->Nat->Bool)(p:Array Nat)(k:Nat):Prop:=∀i j,i < j->j < k->lt (p.getD j 0) (p.getD i 0)=true
theorem Dn.snoc(T:i7 n lt){p:Array Nat}(hp:bR n p){k:Nat}(hk:k < n)(h:Dn lt p k)(h0:0 < k)(hl:lt (p.getD k 0) (p.getD (k - 1) 0)=true):Dn lt p (k+1):=by
 intro i j hij hj;rcases QL j k with z | z
 ·exact h i j hij z
 ·have:j=k:=VH
  subst this;rcases QL i (j - 1) with w | w
  ·exact T.tr _ _ _ (hp.lt hk) (hp.lt VH) (hp.lt VH) hl (h i (j - 1) w VH)
  ·have:i=j - 1:=VH
   subst this;exact hl
theorem A3(A:rC n lt I cmp)(T:i7 n lt){p:Array Nat}(hp:bR n p){Q:Array Nat×Nat×Nat->VP->Prop}:∀(f m:Nat)(s:VP),1<=m->m+f=n->Dn lt p m->I s->
 (∀k s',I s'->m<=k->k<=n->Dn lt p k->Q (p,k,0) s')->(kas_desc f p m 0).kasWp cmp Q s
 | 0,m,s,h1,hf,hu,hI,q=>q m s hI (Oj _) VH hu
 | f+1,m,s,h1,hf,hu,hI,q=>by
  have hm:m < n:=VH
  refine A.as _ _ _ s (hp.lt hm) (hp.lt VH) (hp.ne hm VH VH) hI λs' hI'=>?_;cases hc:lt (p.getD m 0) (p.getD (m - 1) 0) with
  | true=>
   dsimp only;rw [VJ rfl,VI (by simp)];exact A3 A T hp f (m+1) s' VH VH (hu.snoc T hp hm VH hc) hI' λk s2 a b c d=>q k s2 a VH c d
  | false=>
   dsimp only;rw [VI (by simp)];refine A.as _ _ _ s' (hp.lt VH) (hp.lt hm) (hp.ne VH hm VH) hI' λs2 hI2=>?_;have hl:lt (p.getD (m - 1) 0) (p.getD m 0)=true:=by rw [T.tot _ _ (hp.lt VH) (hp.lt hm) (hp.ne VH hm VH),hc];rfl
   rw [hl];dsimp only;rw [VJ rfl];exact q m s2 hI2 (Oj _) VH hu
theorem A4{p:Array Nat}{j k:Nat}(hj:j<=p.size):(kas_rev p 0 j).getD k 0=if k < j then p.getD (j - 1 - k) 0 else p.getD k 0:=by
 have:=getElem?_mirror_all (xs:=p) (i:=0) (j:=j) hj k;unfold kas_rev;rw [Qc,this];by_cases h:k < j
 ·simp [h,Qc]
 ·simp [h,Qc]
theorem Dn.rev{p:Array Nat}(hp:bR n p){k:Nat}(hk:k<=n)(h:Dn lt p k):Up lt (kas_rev p 0 k) k:=by
 intro i j hij hj;have hs:=hp.size;rw [A4 VH,A4 VH,VJ VH,VJ hj];exact h _ _ VH VH
theorem Ja(A:rC n lt I cmp)(T:i7 n lt)(h2:2<=n){p:Array Nat}(hp:bR n p){Q:Nat×Array Nat->VP->Prop}{s:VP}(hI:I s)
 (q:∀k p' s',I s'->1<=k->k<=n->bR n p'->Up lt p' k->Q (k,p') s'):(kas_count n p).kasWp cmp Q s:=by
 unfold kas_count;rw [Sn];refine wO A T hp (n - 1) 1 s (Oj _) VH (λi j a b=>by omega) hI λm s1 hI1 m1 m2 hu hs=>?_;by_cases hm:m=n
 ·subst hm;rw [VJ (by simp)];exact q m p s1 hI1 m1 (Oj _) hp hu
 ·rw [VI (by simpa using hm)];by_cases hm1:m > 1
  ·rw [VJ hm1];refine A.as _ _ _ s1 (hp.lt VH) (hp.lt VH) (hp.ne VH VH VH) hI1 λs2 hI2=>?_;rw [hu 0 (m - 1) VH VH];dsimp only;rw [VJ rfl];exact q m p s2 hI2 m1 VH hp hu
  ·rw [VI hm1];have:m=1:=VH
   subst this;have h10:=hs VH;unfold kas_descPart;rw [Sn];refine A3 A T hp (n - (1+1)) (1+1) s1 VH VH (λi j a b=>?_) hI1 λk s2 hI2 k1 k2 hd=>?_
   ·have:i=0:=VH
    have:j=1:=VH
    subst_vars
    exact h10
   ·rw [VI (by simp)];unfold kas_tail3;rw [Sn];have hp':=hp.rev 0 k;refine wO A T hp' (n - k) k s2 VH VH (hd.rev hp k2) hI2 λm s3 hI3 a b c d=>?_;exact q m _ s3 hI3 VH b hp' c
theorem wQ(A:rC n lt I cmp)(T:i7 n lt){p:Array Nat}(hp:bR n p){k:Nat}(hk:k < n)(hu:Up lt p k){Q:Nat->VP->Prop}:∀(f l r:Nat)(s:VP),r - l<=f->l<=r->r<=k->I s->
 (∀i,i < l->lt (p.getD i 0) (p.getD k 0)=true)->(∀i,r<=i->i < k->lt (p.getD k 0) (p.getD i 0)=true)->
 (∀l s',I s'->l<=k->(∀i,i < l->lt (p.getD i 0) (p.getD k 0)=true)->(∀i,l<=i->i < k->lt (p.getD k 0) (p.getD i 0)=true)->Q l s')->(kas_place p k f l r).kasWp cmp Q s
 | 0,l,r,s,hf,hlr,hrk,hI,h1,h2,q=>q l s hI VH h1 (λi a b=>h2 i VH b)
 | f+1,l,r,s,hf,hlr,hrk,hI,h1,h2,q=>by
  unfold kas_place;by_cases hge:l >= r
  ·rw [VJ hge];exact q l s hI VH h1 (λi a b=>h2 i VH b)
  ·rw [VI hge];have hm:(l+r)/ 2 < k:=VH
   refine A.as _ _ _ s (hp.lt hk) (hp.lt VH) (hp.ne hk VH VH) hI λs' hI'=>?_;cases hc:lt (p.getD k 0) (p.getD ((l+r)/ 2) 0) with
   | true=>
    dsimp only;rw [VJ rfl];refine wQ A T hp hk hu f l ((l+r)/ 2) s' VH VH VH hI' h1 (λi a b=>?_) q;rcases QL ((l+r)/ 2) i with z | z
    ·exact T.tr _ _ _ (hp.lt hk) (hp.lt VH) (hp.lt VH) hc (hu _ _ z b)
    ·have:i=(l+r)/ 2:=VH
     rw [this];exact hc
   | false=>
    dsimp only;rw [VI (by simp)];have hl:lt (p.getD ((l+r)/ 2) 0) (p.getD k 0)=true:=by rw [T.tot _ _ (hp.lt VH) (hp.lt hk) (hp.ne VH hk VH),hc];rfl
    refine wQ A T hp hk hu f ((l+r)/ 2+1) r s' VH VH hrk hI' (λi a=>?_) h2 q;rcases QL i ((l+r)/ 2) with z | z
    ·exact T.tr _ _ _ (hp.lt VH) (hp.lt VH) (hp.lt hk) (hu _ _ z hm) hl
    ·have:i=(l+r)/ 2:=VH
     rw [this];exact hl
theorem A5{p:Array Nat}{k d i:Nat}(hk:k < p.size)(hd:d<=k):(S6 p k d).getD i 0=if i=k - d then p.getD k 0 else if k - d < i/\i<=k then p.getD (i - 1) 0 else p.getD i 0:=by
 rw [Qc,getElem?_bubble hk d hd i];by_cases h1:i=k - d
 ·rw [VJ h1,VJ h1,Qc]
 ·rw [VI h1,VI h1];by_cases h2:k - d < i/\i<=k
  ·rw [VJ h2,VJ h2,Qc]
  ·rw [VI h2,VI h2,Qc]
theorem Up.ins(T:i7 n lt){p:Array Nat}(hp:bR n p){k l:Nat}(hk:k < n)(hu:Up lt p k)(hl:l<=k)(h1:∀i,i < l->lt (p.getD i 0) (p.getD k 0)=true)(h2:∀i,l<=i->i < k->lt (p.getD k 0) (p.getD i 0)=true):Up lt (S6 p k (k - l)) (k+1):=by
 have hs:=hp.size;intro i j hij hj;rw [A5 VH VH,A5 VH VH];have e:k - (k - l)=l:=VH
 rw [e];by_cases hi:i=l
 ·rw [VJ hi,VI VH,VJ VH];exact h2 _ VH VH
 ·rw [VI hi];by_cases hi2:l < i/\i<=k
  ·rw [VJ hi2,VI VH,VJ VH];exact hu _ _ VH VH
  ·rw [VI hi2];by_cases hj1:j=l
   ·rw [VJ hj1];exact h1 _ VH
   ·rw [VI hj1];by_cases hj2:l < j/\j<=k
    ·rw [VJ hj2];exact hu _ _ VH VH
    ·rw [VI hj2];exact hu _ _ hij VH
theorem A6(A:rC n lt I cmp)(T:i7 n lt){Q:Array Nat->VP->Prop}:∀(f:Nat)(p:Array Nat)(k:Nat)(s:VP),k+f=n->bR n p->Up lt p k->I s->(∀p' s',I s'->bR n p'->Up lt p' n->Q p' s')->(kas_bin f p k).kasWp cmp Q s
 | 0,p,k,s,hf,hp,hu,hI,q=>q p s hI hp (by rw [show n=k by omega];exact hu)
 | f+1,p,k,s,hf,hp,hu,hI,q=>by
  unfold kas_bin;rw [Sn];have hk:k < n:=VH
  refine wQ A T hp hk hu k 0 k s VH VH (Oj _) hI (λi z=>by omega) (λi a b=>by omega) λl s' hI' hl h1 h2=>?_;exact A6 A T f _ (k+1) s' VH (hp.bubble _ _) (hu.ins T hp hk hl h1 h2) hI' q
theorem Jb(A:rC n lt I cmp)(T:i7 n lt)(h2:2<=n){Q:Array Nat->VP->Prop}{s:VP}(hI:I s)(q:∀p s',I s'->bR n p->Up lt p n->Q p s'):(kas_sort n).kasWp cmp Q s:=by
 unfold kas_sort;rw [Sn];refine Ja A T h2 (wN n) hI λk p s1 hI1 k1 k2 hp hu=>?_;dsimp only;by_cases hk:k < n
 ·rw [VJ hk,show max k 1=k by omega];exact A6 A T (n - k) p k s1 VH hp hu hI1 q
 ·rw [VI hk];exact q p s1 hI1 hp (by rw [show n=k by omega];exact hu)
end
open PySem PySem.Spec PyProof.Rows PySem.W PySem.Calls
def aT(p q:Int×Str):Bool:=decide (p.1 < q.1) || (decide (p.1=q.1) && decide (p.2.cps.toList < q.2.cps.toList))
def iq(h:V0)(v:VM)(p:Int×Str):Prop:=∃a o n t u,v= .ref a/\h.get? a=some o/\o.cls= .type "tuple"/\o.data= .seq #[.int p.1 t,.str p.2 u] n
section
variable {P:VY} {w:VZ} {A:V2} {E:VM->VP->Prop} {s:VP}
theorem Jc{v u:VM}{p q:Int×Str}{Q:Bool->VP->Prop}(hv:iq s.heap v p)(hu:iq s.heap u q)(h:Q (aT p q) s):VS (VU P w) A (keyLt' (tuples' true) v u) Q E s:=by
 obtain⟨a,oa,na,t1,t2,rfl,ha,_,da⟩:=hv;obtain⟨b,ob,nb,t3,t4,rfl,hb,_,db⟩:=hu;refine kat_lt ha da hb db (kat_cons ((WQ P w).eqBool (intKind_is _ _ _ _) (intKind_is _ _ _ _) (kat_go (λe1=>?_) λe1=>?_)))
 ·have e1:p.1=q.1:=by simpa using e1
  refine kat_yes (kat_cons ((PySem.strKind P w).eqBool (strKind_is _ _ _ _) (strKind_is _ _ _ _) (kat_go (λe2=>?_) λe2=>?_)))
  ·have e2:p.2=q.2:=by simpa using e2
   refine kat_yes (kat_nil ?_);have:aT p q=false:=by unfold aT;rw [e1,e2];simp
   rw [this] at h;simpa using h
  ·have e2:p.2≠q.2:=by simpa using e2
   refine kat_no (kat_one _ _ ?_);have:aT p q=decide (p.2.cps.toList < q.2.cps.toList):=by unfold aT;simp [e1]
   rw [this] at h;exact lt_str h
 ·have e1:p.1≠q.1:=by simpa using e1
  refine kat_no ?_;show VS _ _ (oneLt' true _ _) _ _ _;refine oneLt_int ?_;have:aT p q=decide (p.1 < q.1):=by unfold aT;simp [e1]
  rw [this] at h;exact h
theorem A7{n:Nat}{kp:Nat->Int×Str}(hd:∀i j,i < n->j < n->kp i=kp j->i=j):i7 n λi j=>aT (kp i) (kp j):=by
 have tl:∀a b:Str,a≠b->(decide (a.cps.toList < b.cps.toList))=!decide (b.cps.toList < a.cps.toList):=λa b h=>by
  by_cases z:a.cps.toList < b.cps.toList
  ·rw [decide_eq_true z,decide_eq_false (List.lt_asymm z)];rfl
  ·have z2:b.cps.toList<=a.cps.toList:=US.mp z;have:b.cps.toList < a.cps.toList:=by
    rcases Classical.em (b.cps.toList < a.cps.toList) with y | y
    ·exact y
    ·exact absurd (Az (UY (US.mp y) z2)) h
   rw [decide_eq_false z,decide_eq_true this];rfl
 refine⟨λi j hi hj hij=>?_,λi j k hi hj hk h1 h2=>?_⟩
 ·have hne:kp i≠kp j:=λe=>hij (hd i j hi hj e);unfold aT;by_cases e:(kp i).1=(kp j).1
  ·have e2:(kp i).2≠(kp j).2:=λz=>hne (Vm e z);simp only [e,Int.lt_irrefl,decide_false,Qq,decide_true,P9];exact tl _ _ e2
  ·have e':(kp j).1≠(kp i).1:=λz=>e z.symm;simp only [e,e',decide_false,R1,QE];by_cases z:(kp i).1 < (kp j).1
   ·rw [decide_eq_true z,decide_eq_false VH];rfl
   ·rw [decide_eq_false z,decide_eq_true VH];rfl
 ·unfold aT at h1 h2⊢;simp only [So,Pw,decide_eq_true_eq] at h1 h2⊢;rcases h1 with h1 | ⟨h1,h1'⟩ <;> rcases h2 with h2 | ⟨h2,h2'⟩
  ·left;omega
  ·left;omega
  ·left;omega
  ·right;exact⟨h1.trans h2,Vi h1' h2'⟩
theorem A8{ks:List VM}{kp:Nat->Int×Str}(hk:∀i v,ks[i]?=some v->iq s.heap v (kp i))(h2:2<=ks.length){Q:SortKind->VP->Prop}(h:Q (tuples' true) s):VS (VU P w) A (keyKind' ks.toArray) Q E s:=by
 have key:∀(ks:List VM)(kp:Nat->Int×Str),(∀i v,ks[i]?=some v->iq s.heap v (kp i))->∃fs:List VM,KatTups s.heap ks fs/\fs.length=ks.length/\∀v∈fs,∃n t,v=QU n t:=by
  intro ks
  induction ks with
  | nil=>intro kp _;exact⟨[],KatTups.nil,rfl,by simp⟩
  | cons v ks ih=>
   intro kp hk;obtain⟨fs,a,b,c⟩:=ih (λi=>kp (i+1)) λi v e=>hk (i+1) v (by simpa using e);obtain⟨ad,o,n,t,u,rfl,h1,h2,h3⟩:=hk 0 v rfl;refine⟨.int (kp 0).1 t::fs,KatTups.cons h1 h2 h3 rfl a,by simp [b],λx hx=>?_⟩;rcases OA.mp hx with rfl | hx
   ·exact⟨_,_,rfl⟩
   ·exact c x hx
 obtain⟨fs,a,b,c⟩:=key ks kp hk;refine kat_kind (T:= .type "int") a VH (λv hv=>?_) VG h;obtain⟨n,t,rfl⟩:=c v hv;exact .now
theorem A9{n:Nat}{ks:List VM}{kp:Nat->Int×Str}(hn:ks.length=n)(h2:2<=n)(hk:∀i v,ks[i]?=some v->iq s.heap v (kp i))(hd:∀i j,i < n->j < n->kp i=kp j->i=j){G:Array Nat->VP->Prop}
 (q:∀p,bR n p->Up (λi j=>aT (kp i) (kp j)) p n->G p s):(kas_sort n).kasWp (kas_ask P w A (tuples' true) ks) G s:=by
 refine Jb (lt:=λi j=>aT (kp i) (kp j)) (I:=λs'=>s'=s) ⟨λi j C s' hi hj hij e c=>?_⟩ (A7 hd) h2 rfl λp s' e hp hu=>by subst e;exact q p hp hu
 subst e;have ei:ks[i]?=some (ks.getD i .none):=by simp [show i < ks.length by omega]
 have ej:ks[j]?=some (ks.getD j .none):=by simp [show j < ks.length by omega]
 exact Jc (hk i _ ei) (hk j _ ej) (c _ rfl)
def Ba(kS D:VO)(s:VP)(out:List VM)(C:VP->Prop):Prop:=∀h' c,h'.get? D=some (V4 "list" out.toArray c)->(∀b u,b≠kS->b≠D->s.heap.get? b=some u->h'.get? b=some u)->C {s with heap:=h'}
theorem Bb{st:SortSt}{kS D:VO}{ks out:List VM}{e e1:Nat}{C:UD->VP->Prop}(hk:s.heap.get? kS=some (V4 "list" ks.toArray e))(hD:s.heap.get? D=some (V4 "list" #[] e1))(hne:kS≠D)(hf:failedOf st=none)
 (ho:(arrOf st).map (·.2)=out.toArray)(h64:out.length < 64)(hk64:ks.length < 64)(q:Ba kS D s out (C (.done (.ret .none)))):VS (VU P w) A (ksk_tail D false e1 (.ref kS) st) C E s:=by
 have hsl:VW=16777216:=Wh;unfold ksk_tail;rw [ho];refine VN (WL hk rfl (VN (wpAny_letGo ?_)) (by rw [OI];omega) (Pe _));have u1:=PB s.heap kS (PY λ_=>(#[]:Array VM));have hD1:(s.heap.update kS (PY λ_=>(#[]:Array VM))).get? D=some (V4 "list" #[] e1):=(u1.2 D (Ne.symm hne)).trans hD;refine VN (seqEpoch_at (s:={s with heap:=s.heap.update kS (PY λ_=>(#[]:Array VM))}) hD1 rfl ?_);rw [VI (by simp)];refine VN (WL (s:={s with heap:=s.heap.update kS (PY λ_=>(#[]:Array VM))}) hD1 rfl ?_ (Pe _) (by show out.toArray.size<=_;rw [OI];omega));have u2:=PB (s.heap.update kS (PY λ_=>(#[]:Array VM))) D (PY λ_=>out.toArray);rw [hf];simp only [bne_self_eq_false,PR,if_false];exact VQ (q _ _ (WO hD1 λ_=>out.toArray) λb u n1 n2 z=>(u2.2 b n2).trans ((u1.2 b n1).trans z))
theorem Jd{kS D:VO}{vs ks:List VM}{n e e1:Nat}{kp:Nat->Int×Str}{C:UD->VP->Prop}(hv:vs.length=n)(hn:ks.length=n)(h64:n < 64)(hks:s.heap.get? kS=some (V4 "list" ks.toArray e))(hD:s.heap.get? D=some (V4 "list" #[] e1))(hne:kS≠D)
 (hk:∀i v,ks[i]?=some v->iq s.heap v (kp i))(hd:∀i j,i < n->j < n->kp i=kp j->i=j)
 (q:∀p,bR n p->Up (λi j=>aT (kp i) (kp j)) p n->Ba kS D s (p.toList.map λi=>vs.getD i .none) (C (.done (.ret .none)))):VS (VU P w) A (ksk_end D false vs.toArray e1 (.ref kS) ks.toArray) C E s:=by
 unfold ksk_end;have hz:vs.toArray.size=n:=by rw [OI];exact hv
 by_cases h2:n < 2
 ·simp only [PR,if_false,hz,h2,if_true];refine VN (VQ (VN (VQ ?_)));refine Bb hks hD hne rfl (out:=vs) ?_ VH VH ?_
  ·show(ks.toArray.zip vs.toArray).map (·.2)=vs.toArray;apply UZ.mp;simp only [U0,U1];rw [U2 VH]
  ·have:=q _ (wN n) (λi j a b=>by omega);have e:((UC (Qa n)).toList.map λi=>vs.getD i QY)=vs:=by
    apply RK (by simp [hv]);intro i a b;simp at a b⊢;rw [OT b];rfl
   rw [e] at this;exact this
 ·simp only [PR,if_false,hz,h2];refine VN (A8 hk VH ?_);have hl:ks.length=vs.length:=VH
  refine VN (Wa (kat_run (κ:=tuples' true) (E:=λ_ _=>False) (Q:=λst' s'=>s'=s/\∃p,bR n p/\Up (λi j=>aT (kp i) (kp j)) p n/\arrOf st'=p.map (kas_item (ks.toArray.zip vs.toArray))/\failedOf st'=none) (G:=λp s'=>s'=s/\bR n p/\Up (λi j=>aT (kp i) (kp j)) p n) hl VH VH
   (λp st' s' a b c d=>⟨d.1,p,d.2.1,d.2.2,b,c⟩) ?_) (λr s' hr=>?_) λ_ _ x=>x.elim)
  ·rw [hv];exact A9 hn VH hk hd λp a b=>⟨rfl,a,b⟩
  ·obtain⟨rfl,p,p1,p2,p3,p4⟩:=hr;refine Bb hks hD hne p4 (kat_snds hl p3) ?_ VH (q p p1 p2);rw [Of,OU,p1.size];exact h64
end
open PySem PySem.Spec PyProof.Rows PySem.W PySem.Calls
section
variable {X:Cx} {pins:List (VO×Obj)} {σ:St} {H:Hp} {s:VP}
theorem af.track{o:HO}{D:VO}{ch:List VO}{t':Nat}{h':V0}(I:af X pins σ H s)(hD:D∈ch)(f:∀b∈ch,g7 X pins H b)(k:∀b u,b ∉ ch->s.heap.get? b=some u->h'.get? b=some u)(new:cb X.prog X.w (ai H D o) h' D o):af X pins σ (ai H D o) {s with heap:=h',toks:=t'}:=by
 have nC:∀b u,H b=some u->b ∉ ch:=λb u e z=>by rw [(f b z).1] at e;cases e
 have nD:∀b u,H b=some u->b≠D:=λb u e z=>nC b u e (by rw [z];exact hD);refine I.step (g':=s.gens) (d':=s.drawn) (ch:=ch) (λb hb=>?_) (λb o _ _ hc e _=>k b o hc e) (λb o _ _ hc e _=>⟨o.slots,k b o hc e⟩) (λb o hc _ n=>by rw [az (λz=>hc (by rw [z];exact hD))];exact n)
  (λb o hc e=>⟨o,k b o hc e⟩) (λb xs e=>by rw [az (nD _ _ e)];exact e) (λb u xs e=>by rw [az (nD _ _ e)];exact e) (λb ps e=>⟨#[],by rw [az (nD _ _ e),e];simp⟩) (λm hm=>hm.at' λo e=>k _ o (λz=>(f _ z).2.1 rfl) e) (λb u e=>?_) I.bare
 ·obtain⟨f0,f1,f2,f3,f4,f5⟩:=f b hb;exact⟨f3,f1,f4,f5⟩
 ·by_cases hb:b=D
  ·subst hb;rw [bh] at e;cases e;exact new
  ·rw [az hb] at e;refine(I.hok b u e).stay (λc v hc q=>k c v (λz=>?_) q) (λc q=>by rw [az (nD _ _ q)];exact q) (λc xs q=>by rw [az (nD _ _ q)];exact q);rcases hc with r | r
   ·subst r;exact nC _ _ e z
   ·exact nC _ _ r z
theorem Je{k:Nat}{f:VO}{fd:VX}{ps:List Str}{sp:Sp}{v:V}{u:VM}{Q:VK}(Fk:aF X.prog X.w X.K X.mg X.base CX0 k f fd ps sp)(hr:bf k X.A.in1.in1)(hb:aJ X.K fd ps [])(I:af X pins σ H s)(r:aE v u)(h:sp [v] H Q E0):
 VS (VU X.prog X.w) X.A.in1.in1 (call (.ref f) [u]) (EP X pins σ Q) (λ_ _=>False) s:=by
 have r2:aK [v] [u]:= .cons r .nil;have hl:([u]++[]).length=ps.length:=by
  have:=Fk.len _ _ _ _ h;simpa using this
 have hb2:=hb s [u] I.kIn hl;rw [Pg] at hb2;refine wpAny_call (Ww (Fk.run X.A.in1.in1 X.stack s H ⟨[u],[]⟩ [u] [v] Q E0 hr I.env0.in1.in1 hb2 r2 h) λr s' hq=>?_);cases r with
 | error e=>exact hq.elim
 | ok fl=>
  cases fl with
  | ret u=>exact I.after hq
  | next=>exact Qp hq
  | brk=>exact Qp hq
  | cont=>exact Qp hq
def pO(X:Cx)(pins:List (VO×Obj))(b:VO):Prop:=b≠X.env.locals/\b ∉ X.fs/\(b∈X.ex\/X.s₀.heap.objs.size<=b)/\(∀x c,X.env.cells.lookup x=some c->c≠b)/\∀p∈X.pn++pins,p.1≠b
theorem af.out(I:af X pins σ H s){b:VO}(hb:s.heap.objs.size<=b):pO X pins b:=(I.fpOk (H':=H) hb (I.hok.fresh hb)).2
structure pP (X:Cx) (pins:List (VO×Obj)) (σ:St) (H:Hp) (O:Ex) (kS D:VO) (e1:Nat) (kds:List VL) (ks:List VM) (s:VP):Prop where
 ex:∃H' kvs e,af X (pins++[(kS,V4 "list" ks.toArray e),(D,V4 "list" #[] e1)]) σ H' s/\aw H H'/\aj X.K H' O kvs kds/\aK kvs ks
theorem pP.push{O:Ex}{kS D:VO}{e1:Nat}{kds:List VL}{ks:List VM}{H':Hp}{kvs:List V}{e:Nat}{h':V0}{kv:V}{kd:VL}{k:VM}(oS:pO X pins kS)(oD:pO X pins D)(hne:kS≠D)
 (I:af X (pins++[(kS,V4 "list" ks.toArray e),(D,V4 "list" #[] e1)]) σ H' s)(hs:aw H H')(hk:aj X.K H' O kvs kds)(hv:aK kvs ks)(k1:Dt X.K H' O kv kd)(k2:aE kv k)
 (hu:∃e',h'.get? kS=some (V4 "list" (ks++[k]).toArray e'))(kept:∀b u,b≠kS->s.heap.get? b=some u->h'.get? b=some u):pP X pins σ H O kS D e1 (kds++[kd]) (ks++[k]) {s with heap:=h'}:=by
 obtain⟨e',hu⟩:=hu;have pS:=I.pin (kS,V4 "list" ks.toArray e) (by simp);have pD:=I.pin (D,V4 "list" #[] e1) (by simp);have I1:af X pins σ H' s:=I.pins_of λp hp=>I.pin p (by simp only [OL] at hp⊢;exact .inr (.inl hp));have I2:af X pins σ H' {s with heap:=h'}:=I1.turned (t':=s.toks) (it:=kS) kept pS.2.1 oS.1 oS.2.2.1 oS.2.2.2.1 oS.2.2.2.2;refine⟨H',kvs++[kv],e',I2.pins_of λp hp=>?_,hs,hk.append (.cons k1 .nil),hv.append (.cons k2 .nil)⟩;rcases OL.mp hp with z | z
 ·exact I2.pin p (Pq _ z)
 ·simp only [OA,O5,or_false] at z;rcases z with rfl | rfl
  ·exact⟨hu,pS.2.1,oS.1,oS.2.1,λv z=>by cases z⟩
  ·exact⟨kept _ _ (Ne.symm hne) pD.1,pD.2.1,oD.1,oD.2.1,λv z=>by cases z⟩
theorem Bc{k:Nat}{f:VO}{fd:VX}{ps:List Str}{F:List VL->(VL->Prop)->Prop}{O:Ex}{kS D:VO}{e1:Nat}{kd:VL->VL}(Fk:aF X.prog X.w X.K X.mg X.base CX0 k f fd ps (ba X.K F))(hr:bf k X.A.in1.in1)(hb:aJ X.K fd ps [])(trk:∀l,O l->H l≠none)
 (oS:pO X pins kS)(oD:pO X pins D)(hne:kS≠D){body:VM->PUnit->Sem (ForInStep PUnit)}{E:VM->VP->Prop}
 (hbo:∀(x:VM) (s:VP) (Q':VP->Prop),VS (VU X.prog X.w) X.A.in1.in1 (call (.ref f) [x]) (λk s'=>VS (VU X.prog X.w) X.A.in1.in1 (TX (.ref kS) (·.push k)) (λ_ s''=>Q' s'') (λ_ _=>False) s') (λ_ _=>False) s->VS (VU X.prog X.w) X.A.in1.in1 (body x ⟨⟩) (λr s'=>r= .yield ⟨⟩/\Q' s') E s):
 ∀(r:List VM)(xr:List V)(dr:List VL)(kds:List VL)(ks:List VM)(s:VP)(Q:VP->Prop),aK xr r->aj X.K H O xr dr->(∀d∈dr,∀R:VL->Prop,R (kd d)->F [d] R)->pP X pins σ H O kS D e1 kds ks s->ks.length+r.length < 64->
  (∀ks' s',pP X pins σ H O kS D e1 (kds++dr.map kd) ks' s'->ks'.length=ks.length+r.length->Q s')->VS (VU X.prog X.w) X.A.in1.in1 (forIn r PUnit.unit body) (λ_ s'=>Q s') E s
 | [],xr,dr,kds,ks,s,Q,hv,hd,hF,M,hl,q=>by
  cases hv;cases hd;rw [List.forIn_nil];exact VQ (q ks s (by rw [PD,Pg];exact M) (by simp))
 | x::r,xr,dr,kds,ks,s,Q,hv,hd,hF,M,hl,q=>by
  cases hv with
  | @cons v _ xr _ h1 h2=>
   cases hd with
   | @cons _ d _ dr g1 g2=>
    rw [U4];rw [Oz] at hl;obtain⟨H',kvs,e,I,hs,hk,hvk⟩:=M.ex;refine VN (Wa (hbo x s (λs'=>∃k,pP X pins σ H O kS D e1 (kds++[kd d]) (ks++[k]) s') (Wa (Je (Q:=λv2 H2=>aw H' H2/\Dt X.K H2 O v2 (kd d)) Fk hr hb I h1 ⟨O,[d],λy=>y=kd d,λl z e=>trk l z (by
     cases q:H l with
     | none=>rfl
     | some u=>rw [hs _ _ q] at e;cases e),.cons (g1.mono hs) .nil,hF d (by simp) _ rfl,λy v2 H2 e s2 r2=>by subst e;exact⟨s2,r2⟩⟩) (λkk s' hq=>?_) λ_ _ z=>z)) (λr' s' hq=>?_) λ_ _ z=>z)
    ·obtain⟨kv,H2,I2,rk,s2,dk⟩:=hq;have pS:=I2.pin (kS,V4 "list" ks.toArray e) (by simp);refine WL pS.1 rfl ⟨kk,?_⟩ (by rw [OI];have:VW=16777216:=Wh;omega) (by rw [Array.size_push,OI];have:VW=16777216:=Wh;omega);have u1:=PB s'.heap kS (PY (·.push kk));have gk:=WO pS.1 (·.push kk);rw [show ks.toArray.push kk=(ks++[kk]).toArray by simp] at gk;exact pP.push oS oD hne I2 (hs.trans s2) (hk.mono s2) hvk dk rk ⟨_,gk⟩ λb u n z=>(u1.2 b n).trans z
    ·obtain⟨rfl,kk,M'⟩:=hq;refine Bc Fk hr hb trk oS oD hne hbo r xr dr (kds++[kd d]) (ks++[kk]) s' Q h2 g2 (λy hy=>hF y (by simp [hy])) M' (by simp;omega) λks' s2 M2 l2=>q ks' s2 ?_ (by rw [l2];simp;omega);rw [Ol,<-List.singleton_append,<-SH];exact M2
def cw(p:Int×Str):VL:= .tuple [.int p.1,.str p.2]
theorem wR{h:V}{u:VM}{O:Ex}{p:Int×Str}(I:af X pins σ H s)(d:Dt X.K H O h (cw p))(r:aE h u):iq s.heap u p:=by
 obtain⟨a,xs,rfl,hq,hd⟩:=(Sh.dt d).tup;cases r;obtain⟨its,rv,⟨o,e,c,n,dd⟩,_⟩:=I.tuple hq;cases hd with
 | cons g1 g2=>
  cases g2 with
  | cons g2 g3=>
   cases g3;cases g1;cases g2;cases rv with
   | cons r1 r2=>
    cases r2 with
    | cons r2 r3=>
     cases r3;obtain⟨t,rfl⟩:=r1;obtain⟨u,rfl⟩:=r2;exact⟨a,o,n,t,u,rfl,e,c,dd⟩
theorem ti{K:Oe}{H:Hp}{O:Ex}:∀{xs:List V}{ds:List VL}{i:Nat}{d:VL},aj K H O xs ds->ds[i]?=some d->∃x,xs[i]?=some x/\Dt K H O x d
 | _,_,0,d,.cons h r,e=>by simp at e;subst e;exact⟨_,rfl,h⟩
 | _,_,i+1,d,.cons h r,e=>by simp only [Po] at e⊢;exact ti r e
theorem uX{xs:List V}{us:List VM}:∀{i:Nat}{u:VM},aK xs us->us[i]?=some u->∃x,xs[i]?=some x/\aE x u:=by
 intro i u h e;have hl:=h.length;have hi:i < us.length:=(OB.mp e).1;obtain⟨u',e',r⟩:=h.get (show xs[i]?=some (xs[i]'VH) by simp);rw [e] at e';cases e';exact⟨_,by simp,r⟩
theorem Jf{O:Ex}{kS D:VO}{e1:Nat}{kps:List (Int×Str)}{ks:List VM}(M:pP X pins σ H O kS D e1 (kps.map cw) ks s):(∀i v,ks[i]?=some v->iq s.heap v (kps.getD i (0,Od "")))/\ks.length=kps.length:=by
 obtain⟨H',kvs,e,I,hs,hk,hv⟩:=M.ex;have hl:ks.length=kps.length:=by rw [<-hv.length,hk.length,Of]
 refine⟨λi v ei=>?_,hl⟩;have hi:i < kps.length:=by rw [<-hl];exact(OB.mp ei).1
 obtain⟨x,ex,rx⟩:=uX hv ei;obtain⟨y,ey,dy⟩:=ti (i:=i) (d:=cw kps[i]) hk (by rw [OD,OT hi];rfl);rw [ex] at ey;cases ey;have:kps.getD i (0,Od "")=kps[i]:=by simp [hi]
 rw [this];exact wR I dy rx
theorem Jg{k:Nat}{f:VO}{fd:VX}{ps:List Str}{F:List VL->(VL->Prop)->Prop}{O:Ex}{D:VO}{n0:Nat}{kf:VL->Int×Str}{vs:List VM}{xs:List V}{ds:List VL}{Q:V->Hp->Prop}{C:UD->VP->Prop}{E:VM->VP->Prop}
 (Fk:aF X.prog X.w X.K X.mg X.base CX0 k f fd ps (ba X.K F))(hr:bf k X.A.in1.in1)(hb:aJ X.K fd ps [])(trk:∀l,O l->H l≠none)(I:af X pins σ H s)(oD:pO X pins D)(hHD:H D=none)(hD:s.heap.get? D=some (V4 "list" vs.toArray n0))
 (hv:aK xs vs)(hd:aj X.K H O xs ds)(hF:∀d∈ds,∀R:VL->Prop,R (cw (kf d))->F [d] R)(h64:ds.length < 64)(nd:(ds.map kf).Nodup)
 (q:∀(H':Hp) (xs':List V) (ds':List VL),aw H H'->H' D=none->aj X.K H' O xs' ds'->ds'.Perm ds->ds'.Pairwise (λa b=>aT (kf a) (kf b)=true)->Q (.ref D) (ai H' D (.lst xs')))
 (fin:∀s',EP X pins σ Q (.ref D) s'->C (.done (.ret .none)) s'):VS (VU X.prog X.w) X.A.in1.in1 (ksk_tree D (.ref f) false) C E s:=by
 have hsl:VW=16777216:=Wh;have lv:vs.length=ds.length:=by rw [<-hv.length,hd.length]
 have lD:D < s.heap.objs.size:=OJ hD;unfold ksk_tree;refine VN (listItems_at hD rfl (VN (WL hD rfl ?_ (by rw [OI];omega) (Pe _))));have u1:=PB s.heap D (PY λ_=>(#[]:Array VM));have g1:=WO hD λ_=>(#[]:Array VM);have I1:af X pins σ H {s with heap:=s.heap.update D (PY λ_=>(#[]:Array VM))}:=I.turned (t':=s.toks) (it:=D) (λb u n z=>(u1.2 b n).trans z) hHD oD.1 oD.2.2.1 oD.2.2.2.1 oD.2.2.2.2;generalize s.heap.update D (PY λ_=>(#[]:Array VM))=h1 at*;generalize (if (#[]:Array VM).size==vs.toArray.size then n0 else n0+1)=e1 at*;refine VN (seqEpoch_at (s:={s with heap:=h1}) g1 rfl ?_);refine VN (wpAny_newTuple ?_ (by show vs.length<=_;omega));have I2:af X pins σ H {s with heap:=h1.push {cls:= .type "tuple",data:= .seq vs.toArray}}:=I1.kept (t':=s.toks) λb u z=>Oo _ z;have g2:(h1.push {cls:= .type "tuple",data:= .seq vs.toArray}).get? D=some (V4 "list" #[] e1):=Oo _ g1;show VS _ _ _ _ _ {s with heap:=h1.push {cls:= .type "tuple",data:= .seq vs.toArray}};generalize h1.push {cls:= .type "tuple",data:= .seq vs.toArray}=h2 at*;refine VN (WK (s:={s with heap:=h2}) ?_ (Pe _));have oS:pO X pins h2.objs.size:=I2.out (Oj _);have hne:h2.objs.size≠D:=R0 (OJ g2);have I3:af X pins σ H {s with heap:=h2.push (V4 "list" #[] 0)}:=I2.kept (t':=s.toks) λb u z=>Oo _ z;have hS0:H h2.objs.size=none:=I2.hok.fresh (Oj _);have M0:pP X pins σ H O h2.objs.size D e1 [] [] {s with heap:=h2.push (V4 "list" #[] 0)}:=by
  refine⟨H,[],0,I3.pins_of λp hp=>?_,aw.refl _,.nil,.nil⟩;rcases OL.mp hp with z | z
  ·exact I3.pin p (Pq _ z)
  ·simp only [OA,O5,or_false] at z;rcases z with rfl | rfl
   ·exact⟨OR _ rfl,hS0,oS.1,oS.2.1,λv z=>by cases z⟩
   ·exact⟨Oo _ g2,hHD,oD.1,oD.2.1,λv z=>by cases z⟩
 refine Wf ?_;unfold ksk_rest;refine VN (W5 ?_);rw [List.forIn_toArray];refine VN (Bc (kd:=λd=>cw (kf d)) (E:=E) Fk hr hb trk oS oD hne (λx s' Q' hx=>?_) vs xs ds [] [] _ _ hv hd hF M0 (by simp;omega) λks s' M hkl=>?_)
 ·refine VN (WW (Wa hx (λkk s2 hk=>?_) λ_ _ z=>z.elim));exact VN (Wa hk (λ_ s3 z=>VQ ⟨rfl,z⟩) λ_ _ z=>z.elim)
 ·rw [PM,<-Function.comp_def,<-Ov] at M;obtain⟨hk,hkn⟩:=Jf M;rw [Of] at hkn;obtain⟨H',kvs,e,I4,hs,_,_⟩:=M.ex;have pS:=I4.pin (h2.objs.size,V4 "list" ks.toArray e) (by simp);have pD:=I4.pin (D,V4 "list" #[] e1) (by simp);have I5:af X pins σ H' s':=I4.pins_of λp hp=>I4.pin p (by simp only [OL] at hp⊢;exact .inr (.inl hp));refine VN (listItems_at pS.1 rfl ?_);refine Jd (n:=ds.length) (kp:=λi=>(ds.map kf).getD i (0,Od "")) lv hkn h64 pS.1 pD.1 hne hk (λi j hi hj ee=>?_) λp pp pu h' c gD kept=>?_
  ·have e1':(ds.map kf).getD i (0,Od "")=(ds.map kf)[i]'(by simpa using hi):=by simp [hi]
   have e2':(ds.map kf).getD j (0,Od "")=(ds.map kf)[j]'(by simpa using hj):=by simp [hj]
   rw [e1',e2'] at ee;exact(SN nd).mp ee
  ·refine fin _ ⟨.ref D,ai H' D (.lst (p.toList.map λi=>xs.getD i .non)),?_,rfl,q H' _ (p.toList.map λi=>ds.getD i .none) hs pD.2.1 ?_ ?_ ?_⟩
   ·refine I5.track (t':=s'.toks) (ch:=[h2.objs.size,D]) (by simp) (λb hb=>?_) (λb u hb z=>kept b u (λy=>hb (by simp [y])) (λy=>hb (by simp [y])) z) ⟨?_,_,c,?_,gD⟩
    ·simp only [OA,O5,or_false] at hb;rcases hb with rfl | rfl
     ·exact⟨pS.2.1,oS⟩
     ·exact⟨pD.2.1,oD⟩
    ·rw [Of,OU,pp.size];omega
    ·have:∀l:List Nat,(∀i∈l,i < ds.length)->aK (l.map λi=>xs.getD i .non) (l.map λi=>vs.getD i .none):=by
      intro l
      induction l with
      | nil=>intro _;exact .nil
      | cons a l ih=>
       intro hl;have ha:=hl a (by simp);refine .cons ?_ (ih λi hi=>hl i (by simp [hi]));obtain⟨x,ex,rx⟩:=uX hv (show vs[a]?=some (vs[a]'VH) by simp);have e1':xs.getD a .non=x:=by simp [ex]
       have e2':vs.getD a .none=vs[a]'VH:=by simp [show a < vs.length by omega]
       show aE (xs.getD a .non) (vs.getD a .none);rw [e1',e2'];exact rx
     exact this _ λi hi=>by simpa using pp.perm.mem_iff.mp hi
   ·have:∀l:List Nat,(∀i∈l,i < ds.length)->aj X.K H' O (l.map λi=>xs.getD i .non) (l.map λi=>ds.getD i .none):=by
     intro l
     induction l with
     | nil=>intro _;exact .nil
     | cons a l ih=>
      intro hl;have ha:=hl a (by simp);refine .cons ?_ (ih λi hi=>hl i (by simp [hi]));obtain⟨x,ex,dx⟩:=ti (i:=a) (d:=ds[a]) hd (by simp [ha]);have e1':xs.getD a .non=x:=by simp [ex]
      have e2':ds.getD a .none=ds[a]:=by simp [ha]
      show Dt X.K H' O (xs.getD a .non) (ds.getD a .none);rw [e1',e2'];exact dx.mono hs
    exact this _ λi hi=>by simpa using pp.perm.mem_iff.mp hi
   ·have h1:=pp.perm.map λi=>ds.getD i .none;have e:(Qa ds.length).map (λi=>ds.getD i RV)=ds:=by
     apply RK (by simp);intro i a b;simp at a b⊢;rw [OT b];rfl
    rw [e] at h1;exact h1
   ·rw [Px,Sq];intro i j hi hj hij;have:=pu i j hij (by rw [OU,pp.size] at hj;exact hj);have ei:p.getD i 0=p.toList[i]:=by simp [RF,show i < p.size by simpa using hi]
    have ej:p.getD j 0=p.toList[j]:=by simp [RF,show j < p.size by simpa using hj]
    rw [ei,ej] at this;have li:p.toList[i] < ds.length:=by simpa using pp.perm.mem_iff.mp (Qy hi)
    have lj:p.toList[j] < ds.length:=by simpa using pp.perm.mem_iff.mp (Qy hj)
    have ff:∀a,a < ds.length->(ds.map kf).getD a (0,Od "")=kf (ds.getD a .none):=λa ha=>by simp [ha]
    dsimp only at this;rw [ff _ li,ff _ lj] at this;exact this
theorem Jh{k:Nat}{f l:VO}{fd:VX}{ps:List Str}{F:List VL->(VL->Prop)->Prop}{O:Ex}{kf:VL->Int×Str}{xs:List V}{ds:List VL}{Q:VK}
 (hc:X.calm=true)(Fk:aF X.prog X.w X.K X.mg X.base CX0 k f fd ps (ba X.K F))(hr:bf k X.A.in1.in1)(hb:aJ X.K fd ps [])(trk:∀l,O l->H l≠none)(I:af X pins σ H s)(hq:bg X.K H l xs)
 (hd:aj X.K H O xs ds)(hF:∀d∈ds,∀R:VL->Prop,R (cw (kf d))->F [d] R)(h64:ds.length < 64)(nd:(ds.map kf).Nodup)
 (q:∀(H':Hp) (p:VO) (xs':List V) (ds':List VL),aw H H'->H' p=none->aj X.K H' O xs' ds'->ds'.Perm ds->ds'.Pairwise (λa b=>aT (kf a) (kf b)=true)->Q (.ref p) (ai H' p (.lst xs'))):
 VS (VU X.prog X.w) X.A (call (.builtin "sorted") [.ref l] [(Od "key",.ref f)]) (EP X pins σ Q) X.xe s:=by
 have hsl:VW=16777216:=Wh;obtain⟨vs,hv,pl,hz⟩:=I.list hq;have lv:vs.length=ds.length:=by rw [<-hv.length,hd.length]
 refine call_function_entry_kw kind_sorted plain_sorted entry_sorted (ksk_s1 _ _) ?_;unfold Builtin.«sorted»;refine VN (m:=checkCount "sorted" 1 1 _) (VQ ?_);refine VN (collect_list pl.isList ?_ VH);have I1:af X pins σ H {s with heap:=(s.heap.push (V4 "list" #[] 0)).update s.heap.objs.size (PY (·++vs.toArray))}:=by
  refine I.kept (t':=s.toks) λb u z=>?_;have hlt:b < s.heap.objs.size:=OJ z;exact(Ul _ _ _ _ (OV hlt)).trans (Oo _ z)
 generalize (s.heap.push (V4 "list" #[] 0)).update s.heap.objs.size (PY (·++vs.toArray))=h1 at*;refine VN (WK (s:={s with heap:=h1}) ?_ VH);have I2:af X pins σ H {s with heap:=h1.push (V4 "list" vs.toArray 0)}:=I1.kept (t':=s.toks) λb u z=>Oo _ z;have gD:(h1.push (V4 "list" vs.toArray 0)).get? h1.objs.size=some (V4 "list" vs.toArray 0):=OR _ rfl;refine VN (Wf (wpAny_call_entry_kw Xb ⟨_,gD,rfl⟩ Xa ?_ (ksk_l1 _ _)));rw [ksk_t1];refine Jg (kf:=kf) Fk hr hb trk I2 (I1.out (Oj _)) (I1.hok.fresh (Oj _)) gD hv hd hF h64 nd (Q:=Q) (λH' xs' ds' a b c d e=>q H' _ xs' ds' a b c d e) λs' hs'=>?_;exact⟨_,rfl,VQ ⟨_,rfl,hs'⟩⟩
end
open PySem PySem.Spec PyProof.Rows PySem.W PySem.Calls
section
variable {P:VY} {w:VZ} {A:V2} {E:VM->VP->Prop} {s:VP}
theorem Ji{D:VO}{vs:List VM}{n n0:Nat}{kp:Nat->Int×Str}{C:UD->VP->Prop}(hv:vs.length=n)(h64:n < 64)(hD:s.heap.get? D=some (V4 "list" vs.toArray n0))(hk:∀i v,vs[i]?=some v->iq s.heap v (kp i)/\v≠ .ref D)(hd:∀i j,i < n->j < n->kp i=kp j->i=j)
 (q:∀p,bR n p->Up (λi j=>aT (kp i) (kp j)) p n->∀h' c,h'.get? D=some (V4 "list" (p.toList.map λi=>vs.getD i .none).toArray c)->(∀b u,b≠D->s.heap.get? b=some u->h'.get? b=some u)->C (.done (.ret .none)) {s with heap:=h'}):
 VS (VU P w) A (Builtin.«list.sort» ⟨[.ref D],[]⟩) C E s:=by
 have hsl:VW=16777216:=Wh;rw [list_sort_plain];refine VN (listItems_at hD rfl (VN (WL hD rfl ?_ (by rw [OI];omega) (Pe _))));have u1:=PB s.heap D (PY λ_=>(#[]:Array VM));have g1:=WO hD λ_=>(#[]:Array VM);have k1:∀b u,b≠D->s.heap.get? b=some u->(s.heap.update D (PY λ_=>(#[]:Array VM))).get? b=some u:=λb u n z=>(u1.2 b n).trans z;generalize s.heap.update D (PY λ_=>(#[]:Array VM))=h1 at*;generalize (if (#[]:Array VM).size==vs.toArray.size then n0 else n0+1)=e1 at*;refine VN (seqEpoch_at (s:={s with heap:=h1}) g1 rfl ?_);refine VN (wpAny_newTuple ?_ (by show vs.length<=_;omega));refine VN (WK ?_ (Pe _));have g2:((h1.push {cls:= .type "tuple",data:= .seq vs.toArray}).push {cls:= .type "list",data:= .seq ([]:List VM).toArray}).get? D=some (V4 "list" #[] e1):=Oo _ (Oo _ g1);have k2:∀b u,b≠D->s.heap.get? b=some u->((h1.push {cls:= .type "tuple",data:= .seq vs.toArray}).push {cls:= .type "list",data:= .seq ([]:List VM).toArray}).get? b=some u:=λb u n z=>Oo _ (Oo _ (k1 b u n z));show VS _ _ _ _ _ {s with heap:=(h1.push {cls:= .type "tuple",data:= .seq vs.toArray}).push {cls:= .type "list",data:= .seq ([]:List VM).toArray}};generalize (h1.push {cls:= .type "tuple",data:= .seq vs.toArray}).push {cls:= .type "list",data:= .seq ([]:List VM).toArray}=h2 at*;refine Wf ?_;have hz:vs.toArray.size=n:=by rw [OI];exact hv
 have last:∀(st:SortSt)(p:Array Nat),bR n p->Up (λi j=>aT (kp i) (kp j)) p n->failedOf st=none->(arrOf st).map (·.2)=(p.toList.map λi=>vs.getD i .none).toArray->
  VS (VU P w) A (do
   let touched:=(<-seqEpoch D) !=e1
   TX (.ref D) λ_=>(arrOf st).map (·.2)
   if let some e:=failedOf st then rule "list.sort.comparison-raised";throw e
   if touched then rule "list.sort.modified";raiseError "ValueError" "list modified during sort"
   ret .none) C E {s with heap:=h2}:=by
  intro st p p1 p2 hf ho;rw [ho,hf];refine VN (seqEpoch_at (s:={s with heap:=h2}) g2 rfl ?_);refine VN (WL (s:={s with heap:=h2}) g2 rfl ?_ (Pe _) (by rw [OI,Of,OU,p1.size];omega));simp only [bne_self_eq_false,PR,if_false];have u3:=PB h2 D (PY λ_=>(p.toList.map λi=>vs.getD i QY).toArray);exact VQ (q p p1 p2 _ _ (WO g2 λ_=>(p.toList.map λi=>vs.getD i QY).toArray) λb u n z=>(u3.2 b n).trans (k2 b u n z))
 by_cases h2':n < 2
 ·simp only [hz,h2',if_true];refine VN (VQ (VN (VQ ?_)));refine last _ (UC (Qa n)) (wN n) (λi j a b=>by omega) rfl ?_;show(vs.toArray.zip vs.toArray).map (·.2)=_;apply UZ.mp;simp only [U0,U1];rw [U2 VH];apply RK (by simp [hv]);intro i a b;simp at a b⊢;rw [OT a];rfl
 ·simp only [hz,h2',if_false];have hk2:∀i v,vs[i]?=some v->iq h2 v (kp i):=λi v e=>by
   obtain⟨⟨a,o,m,t,u,rfl,x1,x2,x3⟩,ne⟩:=hk i v e;exact⟨a,o,m,t,u,rfl,k2 a o (λz=>ne (by rw [z])) x1,x2,x3⟩
  refine VN (A8 (s:={s with heap:=h2}) hk2 VH ?_);refine VN (Wa (kat_run (κ:=tuples' true) (ks:=vs) (s:={s with heap:=h2}) (E:=λ_ _=>False) (Q:=λst' s'=>s'={s with heap:=h2}/\∃p,bR n p/\Up (λi j=>aT (kp i) (kp j)) p n/\arrOf st'=p.map (kas_item (vs.toArray.zip vs.toArray))/\failedOf st'=none) (G:=λp s'=>s'={s with heap:=h2}/\bR n p/\Up (λi j=>aT (kp i) (kp j)) p n) rfl VH VH
   (λp st' s' a b c d=>⟨d.1,p,d.2.1,d.2.2,b,c⟩) ?_) (λr s' hr=>?_) λ_ _ x=>x.elim)
  ·rw [hv];exact A9 (s:={s with heap:=h2}) hv VH hk2 hd λp a b=>⟨rfl,a,b⟩
  ·obtain⟨rfl,p,p1,p2,p3,p4⟩:=hr;exact last _ p p1 p2 p4 (kat_snds rfl p3)
end
theorem Jj{X:Cx}:eF X (.builtin "sorted") (λxs H Q=>∃(p:VO)(us:List V)(O:Ex)(ps:List (Int×Str)),xs=[.ref p]/\bg X.K H p us/\aj X.K H O us (ps.map cw)/\ps.length < 64/\ps.Nodup/\∀(l:VO)(us':List V)(ps':List (Int×Str)),H l=none->aj X.K H O us' (ps'.map cw)->ps'.Perm ps->ps'.Pairwise (λa b=>aT a b=true)->Q (.ref l) (ai H l (.lst us'))):=by
 intro pins s σ H xs ws Q I r h;obtain⟨l,us,O,ps,rfl,hq,hd,h64,nd,q⟩:=h;obtain⟨u,rfl,rx⟩:=fD r;cases rx;have hsl:VW=16777216:=Wh;obtain⟨vs,hv,pl,hz⟩:=I.list hq;have lv:vs.length=ps.length:=by rw [<-hv.length,hd.length,Of]
 refine Sm kind_sorted plain_sorted entry_sorted (args_sorted1 _) ?_;unfold Builtin.«sorted»;refine VN (m:=checkCount "sorted" 1 1 _) (VQ ?_);refine VN (collect_list pl.isList ?_ VH);have I1:af X pins σ H {s with heap:=(s.heap.push (V4 "list" #[] 0)).update s.heap.objs.size (PY (·++vs.toArray))}:=by
  refine I.kept (t':=s.toks) λb u z=>?_;have hlt:b < s.heap.objs.size:=OJ z;exact(Ul _ _ _ _ (OV hlt)).trans (Oo _ z)
 generalize (s.heap.push (V4 "list" #[] 0)).update s.heap.objs.size (PY (·++vs.toArray))=h1 at*;refine VN (WK (s:={s with heap:=h1}) ?_ VH);have I2:af X pins σ H {s with heap:=h1.push (V4 "list" vs.toArray 0)}:=I1.kept (t':=s.toks) λb u z=>Oo _ z;have gD:(h1.push (V4 "list" vs.toArray 0)).get? h1.objs.size=some (V4 "list" vs.toArray 0):=OR _ rfl;have hH:H h1.objs.size=none:=I1.hok.fresh (Oj _);have oD:pO X pins h1.objs.size:=I1.out (Oj _);have isp:∀i v,vs[i]?=some v->iq (h1.push (V4 "list" vs.toArray 0)) v (ps.getD i (0,Od ""))/\v≠ .ref h1.objs.size:=λi v ei=>by
  have hi:i < ps.length:=by rw [<-lv];exact(OB.mp ei).1
  obtain⟨x,ex,rx⟩:=uX hv ei;obtain⟨y,ey,dy⟩:=ti (i:=i) (d:=cw ps[i]) hd (by rw [OD,OT hi];rfl);rw [ex] at ey;cases ey;have e:ps.getD i (0,Od "")=ps[i]:=by simp [hi]
  rw [e];have a:=wR I1 dy rx;refine⟨wR I2 dy rx,λz=>?_⟩;obtain⟨ad,o,m,t,u,e1,e2,_⟩:=a;rw [e1] at z;cases z;exact absurd (OJ e2) (QO _)
 refine VN (Wf (Wc Xb ⟨_,gD,rfl⟩ Xa ?_ (args_list_sort _)));refine Ji (s:={s with heap:=h1.push (V4 "list" vs.toArray 0)}) (n:=ps.length) (kp:=λi=>ps.getD i (0,Od "")) lv h64 gD isp (λi j hi hj ee=>?_) λp pp pu h' c g kept=>?_
 ·have e1':ps.getD i (0,Od "")=ps[i]:=by simp [hi]
  have e2':ps.getD j (0,Od "")=ps[j]:=by simp [hj]
  rw [e1',e2'] at ee;exact(SN nd).mp ee
 ·have lt:∀i∈p.toList,i < ps.length:=λi hi=>by simpa using pp.perm.mem_iff.mp hi
  have dm:aj X.K H O (p.toList.map λi=>us.getD i .non) ((p.toList.map λi=>ps.getD i (0,Od "")).map cw):=by
   have:∀l:List Nat,(∀i∈l,i < ps.length)->aj X.K H O (l.map λi=>us.getD i .non) ((l.map λi=>ps.getD i (0,Od "")).map cw):=by
    intro l
    induction l with
    | nil=>intro _;exact .nil
    | cons a l ih=>
     intro hl;have ha:=hl a (by simp);refine .cons ?_ (ih λi hi=>hl i (by simp [hi]));obtain⟨x,ex,dx⟩:=ti (i:=a) (d:=cw ps[a]) hd (by rw [OD,OT ha];rfl);have e1':us.getD a .non=x:=by simp [ex]
     have e2':ps.getD a (0,Od "")=ps[a]:=by simp [ha]
     show Dt X.K H O (us.getD a .non) (cw (ps.getD a (0,Od "")));rw [e1',e2'];exact dx
   exact this _ lt
  have vm:aK (p.toList.map λi=>us.getD i .non) (p.toList.map λi=>vs.getD i .none):=by
   have:∀l:List Nat,(∀i∈l,i < ps.length)->aK (l.map λi=>us.getD i .non) (l.map λi=>vs.getD i .none):=by
    intro l
    induction l with
    | nil=>intro _;exact .nil
    | cons a l ih=>
     intro hl;have ha:=hl a (by simp);refine .cons ?_ (ih λi hi=>hl i (by simp [hi]));obtain⟨x,ex,rx⟩:=uX hv (show vs[a]?=some (vs[a]'VH) by simp);have e1':us.getD a .non=x:=by simp [ex]
     have e2':vs.getD a .none=vs[a]'VH:=by simp [show a < vs.length by omega]
     show aE (us.getD a .non) (vs.getD a .none);rw [e1',e2'];exact rx
   exact this _ lt
  refine⟨_,rfl,VQ ⟨_,rfl,.ref h1.objs.size,ai H h1.objs.size (.lst (p.toList.map λi=>us.getD i .non)),?_,rfl,q _ _ (p.toList.map λi=>ps.getD i (0,Od "")) hH dm ?_ ?_⟩⟩
  ·refine I2.track (t':=s.toks) (ch:=[h1.objs.size]) (by simp) (λb hb=>?_) (λb u hb z=>kept b u (λy=>hb (by simp [y])) z) ⟨?_,_,c,vm,g⟩
   ·rw [OO] at hb;subst hb;exact⟨hH,oD⟩
   ·rw [Of,OU,pp.size];omega
  ·have h1:=pp.perm.map λi=>ps.getD i (0,Od "");have e:(Qa ps.length).map (λi=>ps.getD i (0,Od ""))=ps:=by
    apply RK (by simp);intro i a b;simp at a b⊢;rw [OT b];rfl
   rw [e] at h1;exact h1
  ·rw [Px,Sq];intro i j hi hj hij;have:=pu i j hij (by rw [OU,pp.size] at hj;exact hj);have ei:p.getD i 0=p.toList[i]:=by simp [RF,show i < p.size by simpa using hi]
   have ej:p.getD j 0=p.toList[j]:=by simp [RF,show j < p.size by simpa using hj]
   rw [ei,ej] at this;exact this
section
variable {X:Cx} {H0:Hp} {O0:Ex}
def lz(t:DA):DA:=λδ Q=>t δ λds=>∃ps:List (Int×Str),ds=[.list (ps.map cw)]/\ps.length < 64/\ps.Nodup/\∀ps':List (Int×Str),ps'.Perm ps->ps'.Pairwise (λa b=>aT a b=true)->Q (ps'.map cw)
theorem Jk{a:VV}{t:DA}{np p:Pos}(hg:Gl X "sorted")(hm:X.mg "sorted"=none)(hv:V9 "sorted"=some (.builtin "sorted"))(ha:PA X [a] (gI X.K H0 O0 t))(he:VT [a] X.env=(false,eval a X.env)::VT [] X.env:=by rfl)(hpl:(V5 p (VT [] X.env)).any (·.1)=false:=by rfl):
 FE X H0 O0 (.Call (.Name "sorted" np) [a] [] p) (lz t):=
 (dq Jj hg hm hv ha (he:=he) (hpl:=hpl)).imp λσ H Q uu0=>by obtain⟨O,δ,Qd,w,q,k⟩:=uu0;exact⟨O,δ,_,w,q,λds vs H1 uu1 s1 r1=>by
  obtain⟨ps,e,h64,nd,q1⟩:=uu1;subst e;cases r1 with
  | cons h r=>
   cases r;obtain⟨a,us,rfl,h1,d1⟩:=h.lst;exact⟨a,us,O,ps,rfl,h1,d1,h64,nd,λl us' ps' hl hd hp hs=>k _ _ _ _ (q1 ps' hp hs) s1 hl hd⟩⟩
def lA(F:List VL->(VL->Prop)->Prop)(kf:VL->Int×Str)(t:DA):DA:=λδ Q=>t δ λds0=>∃ds,ds0=[.list ds]/\(∀d∈ds,∀R:VL->Prop,R (cw (kf d))->F [d] R)/\ds.length < 64/\(ds.map kf).Nodup/\∀ds',ds'.Perm ds->ds'.Pairwise (λa b=>aT (kf a) (kf b)=true)->Q ds'
theorem Bd{a:VV}{t:DA}{np p gp kp:Pos}{g:Str}{k:Nat}{f:VO}{fd:VX}{ps:List Str}{F:List VL->(VL->Prop)->Prop}(kf:VL->Int×Str)(hc:X.calm=true)(Fk:aF X.prog X.w X.K X.mg X.base CX0 k f fd ps (ba X.K F))(hr:bf k X.A.in1.in1)(hb:aJ X.K fd ps [])
 (hgg:Gl X g)(hgm:X.mg g=some (.ref f))(hg:Gl X "sorted")(hm:X.mg "sorted"=none)(hv:V9 "sorted"=some (.builtin "sorted"))(ha:PA X [a] (gI X.K H0 O0 t))(hdb:(g==("__debug__":Str))=false:=by decide)
 (he:V5 p (VT [a] X.env)=(false,eval a X.env)::V5 p (VT [] X.env):=by rfl)(hplain:(V5 p (VT [a] X.env)).any (·.1)=false:=by rfl):
 FE X H0 O0 (.Call (.Name "sorted" np) [a] [⟨some "key",.Name g gp,kp⟩] p) (lA F kf t):=by
 intro pins s σ H Q I h;obtain⟨O,δ,Qd,w,q,kk⟩:=h;refine WC (qW I hg hm hv ?_);refine callWith_kw (aB (ha p pins s σ H (λvs H1=>∃ds0,aw H H1/\rg X.K H1 O vs ds0/\∃ds,ds0=[.list ds]/\(∀d∈ds,∀R:VL->Prop,R (cw (kf d))->F [d] R)/\ds.length < 64/\(ds.map kf).Nodup/\∀ds',ds'.Perm ds->ds'.Pairwise (λa b=>aT (kf a) (kf b)=true)->Qd ds') I ⟨O,δ,_,w,q,λds0 vs H1 q1 s1 r1=>⟨ds0,s1,r1,q1⟩⟩) λus s1 hus=>?_) he hplain rfl rfl;obtain⟨vs,H1,I1,rv,ds0,s1',r1,ds,e,hF,h64,nd,q1⟩:=hus;subst e;refine kws_cons (vK I1 hgg hgm (kws_nil ?_) hdb);cases r1 with
 | cons h r=>
  cases r;obtain⟨ad,xs,rfl,hq,hd⟩:=h.lst;obtain⟨u,rfl,rx⟩:=fD rv;cases rx;exact Jh (kf:=kf) hc Fk hr hb (w.mono s1').trk I1 hq hd hF h64 nd λH' l xs' ds' a b c d e=>kk _ _ _ _ (q1 ds' d e) (s1'.trans a) b c
end
open PySem PySem.Spec PyProof.Rows PySem.W PySem.Calls
section
open PySem.SeqAt
open PySem.AutoSeq1 (wpAny_loadPart')
open PySem.MeetsSeq PySem.MeetsSeq2 PySem.MeetsSeq3
theorem Jl(l b:VO)(n n2:Nat)(dd dd2:Option VO)(sl sl2:Array (Option VM))(p q:Int×Str)(t1 t2 t3 t4:Tok):
 Meets (Builtin.«tuple.__lt__» ⟨[.ref l,.ref b],[]⟩)
  (λ_ R s=>s.heap.get? l=some {cls:= .type "tuple",dict:=dd,data:= .seq #[.int p.1 t1,.str p.2 t2] n,slots:=sl}/\s.heap.get? b=some {cls:= .type "tuple",dict:=dd2,data:= .seq #[.int q.1 t3,.str q.2 t4] n2,slots:=sl2}/\
   R (.ok (.ret (.bool (aT p q)))) s):=
 .of_wp λprog w A R s h=>by
  obtain⟨hp,g,d,tk,os⟩:=s;obtain⟨hl,hb,h⟩:=h;have f2:=AutoSeq1.sub_tuple_tuple
  wp_walk using Wo hl,Wo hb,wpAny_forIn_list _ (λrest b s'=>b.1=none/\s'=⟨hp,g,d,tk,os⟩/\(rest=[(QU p.1 t1,QU q.1 t3),(RP p.2 t2,RP q.2 t4)]\/(rest=[(RP p.2 t2,RP q.2 t4)]/\p.1=q.1)\/(rest=[]/\p.1=q.1/\p.2=q.2))) _
  case turn=>
   rintro⟨y,x⟩ rest b s' ⟨hb',rfl,h3⟩;rcases h3 with h3 | ⟨h3,e1⟩ | ⟨h3,_⟩
   ·injection h3 with hyx hrest
    injection hyx with hy hx
    subst hy hx;obtain⟨e,he,hiff⟩:=HT.eqAt_int A.in1 ⟨hp,g,d,tk,os⟩ p.1 t1 q.1 t3;refine VN (he prog w _ _ ?_);cases e with
    | true=>
     wp_walk
     exact⟨rfl,rfl,.inr (.inl ⟨hrest,hiff.mp rfl⟩)⟩
    | false=>
     have ne:p.1≠q.1:=λz=>absurd (hiff.mpr z) OF;have hri:=HT.rcLt_int A.in1 ⟨hp,g,d,tk,os⟩ p.1 t1 q.1 t3 prog w;have hv:aT p q=decide (p.1 < q.1):=by unfold aT;simp [ne]
     rw [hv] at h
     wp_walk using hri
     exact⟨_,rfl,by simpa using h⟩
   ·injection h3 with hyx hrest
    injection hyx with hy hx
    subst hy hx;have he:=EqAt.str_str (A:=A.in1) (s:=⟨hp,g,d,tk,os⟩) p.2 t2 q.2 t4;refine VN (he prog w _ _ ?_);cases e:(p.2==q.2) with
    | true=>
     wp_walk
     exact⟨rfl,rfl,.inr (.inr ⟨hrest,e1,eq_of_beq e⟩)⟩
    | false=>
     have hri:∀(E:VM->VP->Prop)(Q:VM->VP->Prop),Q (.bool (decide (p.2.cps.toList < q.2.cps.toList))) ⟨hp,g,d,tk,os⟩->VS (VU prog w) A.in1 (richCompare .Lt (.str p.2 t2) (.str q.2 t4)) Q E ⟨hp,g,d,tk,os⟩:=λE Q z=>(lt_str z:VS (VU prog w) A.in1 (V8 .Lt (.str p.2 t2) (.str q.2 t4)) Q E _);have hv:aT p q=decide (p.2.cps.toList < q.2.cps.toList):=by unfold aT;simp [e1]
     rw [hv] at h
     wp_walk using hri
     exact⟨_,rfl,by simpa using h⟩
   ·cases h3
  case fin=>
   rintro⟨b1,b2⟩ s' ⟨hb',rfl,h3⟩;simp only at hb';subst hb';rcases h3 with h3 | ⟨h3,e1⟩ | ⟨h3,e1,e2⟩
   ·cases h3
   ·cases h3
   ·have hv:aT p q=false:=by unfold aT;rw [e1,e2];simp
    rw [hv] at h
    wp_walk
    exact⟨_,rfl,by simpa [Builtin.Tuple.tupleCompareSizes] using h⟩
  case h=>
   exact⟨rfl,rfl,.inl rfl⟩
end
def Be(K:Oe):R2:=λx y H Q=>∃a b p q,x= .ref a/\y= .ref b/\bz K H a [.int p.1,.str p.2]/\bz K H b [.int q.1,.str q.2]/\Q (.bl (aT p q)) H
theorem Jm{X:Cx}(hu:X.A.units < Wb):bH X (V8 .Lt) (Be X.K):=by
 intro pins s σ H x y v u Q I rx ry h;obtain⟨a,b,p,q,rfl,rfl,ha,hb,z⟩:=h;cases rx;cases ry;obtain⟨its,r1,⟨⟨c1,d1,da1,s1⟩,o1,k1,n1,e1⟩,_⟩:=I.tuple ha;obtain⟨its2,r2,⟨⟨c2,d2,da2,s2⟩,o2,k2,n2,e2⟩,_⟩:=I.tuple hb;simp only at k1 e1 k2 e2;subst k1 e1 k2 e2;cases r1 with
 | cons x1 r1=>
  cases r1 with
  | cons x2 r1=>
   cases r1;obtain⟨t1,rfl⟩:=x1;obtain⟨t2,rfl⟩:=x2;cases r2 with
   | cons y1 r2=>
    cases r2 with
    | cons y2 r2=>
     cases r2;obtain⟨t3,rfl⟩:=y1;obtain⟨t4,rfl⟩:=y2;exact richCompare_meets_room (op:= .Lt) ⟨_,o1,rfl⟩ ⟨_,o2,rfl⟩ PySem.F.slot_tuple_lt PySem.F.entry_tuple_lt (PySem.F.args_tuple_lt_2 _ _) (Jl a b n1 n2 d1 d2 s1 s2 p q t1 t2 t3 t4) ⟨o1,o2,(λx=>nomatch x),.bl (aT p q),H,I,rfl,z⟩ hu
def lB:VL->VL->(VL->Prop)->Prop:=λx y Q=>∃p q:Int×Str,x=cw p/\y=cw q/\Q (.bool (aT p q))
theorem Jn{K:Oe}:cu K (Be K) lB:=λH O x y dx dy Qd R _ hx hy uu2 k=>by
 obtain⟨p,q,e1,e2,z⟩:=uu2;subst e1 e2;obtain⟨a,xs,rfl,h1,g1⟩:=hx.tup;obtain⟨b,ys,rfl,h2,g2⟩:=hy.tup;cases g1 with
 | cons x1 g1=>
  cases g1 with
  | cons x2 g1=>
   cases g1;cases x1;cases x2;cases g2 with
   | cons y1 g2=>
    cases g2 with
    | cons y2 g2=>
     cases g2;cases y1;cases y2;exact⟨a,b,p,q,rfl,rfl,h1,h2,k _ _ H z (aw.refl _) (.bl _)⟩
open PySem PySem.Spec PyProof.Rows PySem.W PySem.Calls
section
variable {X:Cx} {H0:Hp} {O0:Ex}
def Jo(tc:DB)(tb:DS):DS:=λE δ=>∃W:Nat->Dl->Prop,(∃m,W m δ)/\∀m δ,W m δ->tc δ λb=>if b=true then tb {E with nx:=λδ'=>∃m',m' < m/\W m' δ',ct:=λδ'=>∃m',m' < m/\W m' δ',bk:=E.nx} δ else E.nx δ
theorem Jp{c:VV}{body:List V1}{tc:DB}{tb:DS}{pos:Pos}(hp:W2 (VU X.prog X.w) X.A X.env X.xe)(hc:PT X c (bK X.K H0 O0 tc))(hb:bQ X body (bo X.K H0 O0 tb)):PS X (.While c body [] pos) (bo X.K H0 O0 (Jo tc tb)):=
 (Fx hp hc hb).imp λD σ H uu3=>by
  obtain⟨O,δ,E,w,⟨W,⟨m0,w0⟩,st⟩,k1,k2,k3,k4⟩:=uu3;refine⟨λm σ' H'=>∃O' δ',Wd X.K H0 O0 H' O' σ' δ'/\aN H H' O O'/\W m δ',⟨m0,O,δ,w,aN.refl _ _,w0⟩,λm σ1 H1 ⟨O1,δ1,w1,S1,q1⟩=>⟨O1,δ1,_,w1,st m δ1 q1,λb H2 q2 s2=>?_⟩⟩;cases b with
  | false=>
   rw [VI (by simp)] at q2⊢;exact k1 O1 δ1 σ1 H2 q2 (w1.mono s2) (S1.trans (.same s2))
  | true=>
   rw [VJ rfl] at q2⊢;refine⟨λσ' H'=>∃O' δ' m',m' < m/\Wd X.K H0 O0 H' O' σ' δ'/\aN H H' O O'/\W m' δ',λσ' H' uu5=>by obtain⟨O',δ',m',lt,w',S',q'⟩:=uu5;exact⟨m',lt,O',δ',w',S',q'⟩,O1,δ1,_,w1.mono s2,q2,?_,k2,?_,?_⟩
   ·rintro O' δ' σ' H' ⟨m',lt,q'⟩ w' S';exact⟨O',δ',m',lt,w',S1.trans ((aN.same s2).trans S'),q'⟩
   ·intro O' δ' σ' H' q' w' S';exact k1 O' δ' σ' H' q' w' (S1.trans ((aN.same s2).trans S'))
   ·rintro O' δ' σ' H' ⟨m',lt,q'⟩ w' S';exact⟨O',δ',m',lt,w',S1.trans ((aN.same s2).trans S'),q'⟩
theorem bA.vals{K:Oe}{H:Hp}{O:Ex}{kv:List (ak×V)}{kd:List (ak×VL)}(h:bA K H O kv kd):aj K H O (kv.map (·.2)) (kd.map (·.2)):=by
 induction h with
 | nil=>exact .nil
 | cons a _ ih=>exact .cons a ih
abbrev fM(ks:List Str)(ds:List VL):VL:=z4 (ks.map .str) ds
def lC(i:Nat)(t:DS):DS:=λE δ=>∃kd,δ[i]?=some (some (.k kd))/\∃ks:List Str,kd.map (·.1)=ks.map P7/\t E (δ.set i (some (.v (fM ks (kd.map (·.2))))))
theorem cB.z{H:Hp}{a:VO}{ob:Obj}{kvs:List (ak×V)}{k:ak}(e:H a=some (.frz ob (.dK kvs))):cB H a (kV k) (dE kvs k):= .inl ⟨kvs,k,.inr ⟨ob,e⟩,rfl,rfl⟩
theorem af.fast{X:Cx}{pins:List (VO×Obj)}{σ:St}{H:Hp}{s:VP}(I:af X pins σ H s){a:VO}{kv:List (ak×V)}(ha:H a=some (.dK kv)):∃o,af X pins σ (ai H a (.frz o (.dK kv))) s:=by
 obtain⟨z,hd,vs,rel,o,es,ep,g,r1,r2,r3⟩:=I.hok a _ ha;exact⟨o,I.write (x:=a) (e:=a) (o:= .frz o (.dK kv)) (h':=s.heap) (t':=s.toks) (by rw [ha];exact QG) (.inl rfl) (λ_ _ _ q=>q) ⟨o,g⟩ ⟨g,z,hd,vs,rel,o,es,ep,g,r1,r2,r3⟩⟩
theorem Jq{st:V1}{t:TS}(h:PS X st t)(i:Nat):PS X st (λD σ H=>∃a kv,σ[i]?=some (some (.ref a))/\H a=some (.dK kv)/\∀o,t D σ (ai H a (.frz o (.dK kv)))):=by
 intro pins s σ H D I q;obtain⟨a,kv,_,ha,q⟩:=q;obtain⟨o,I2⟩:=I.fast ha;exact h pins s σ _ D I2 (q o)
theorem Wd.tell{K:Oe}{H0 H:Hp}{O0 O:Ex}{σ:St}{δ:Dl}(w:Wd K H0 O0 H O σ δ){i:Nat}{v:V}{d:VL}(h:σ[i]?=some (some v))(hd:Dt K H O v d):Wd K H0 O0 H O σ (δ.set i (some (.v d))):=by
 have li:i < δ.length:=by rw [<-w.len];exact(OB.mp h).1
 have ne:∀{j:Nat}{y:Sl},(δ.set i (some (.v d)))[j]?=some (some y)->y.own->j≠i:=λ{j y} q hy z=>by
  subst z;rw [OS li] at q;cases q;exact hy
 refine⟨w.same,w.sub,w.new,w.trk,by simp [w.len],λj y q=>?_,λj k y z l' e1 y1 e2 z2 e3 e4=>?_⟩
 ·by_cases hj:j=i
  ·subst hj;rw [OS li] at q;cases q;exact⟨v,by rw [h];rfl,hd⟩
  ·rw [OG (Ne.symm hj)] at q;exact w.sl j y q
 ·have n1:=ne e1 y1;have n2:=ne e2 z2;rw [OG (Ne.symm n1)] at e1;rw [OG (Ne.symm n2)] at e2;exact w.dis j k _ _ l' e1 y1 e2 z2 e3 e4
theorem Bf(i:Nat){st:V1}{t:DS}(h:PS X st (bo X.K H0 O0 t)):PS X st (bo X.K H0 O0 (lC i t)):=
 (Jq h i).imp λD σ H uu6=>by
  obtain⟨O,δ,E,w,⟨kd,e,ks,ek,q⟩,k1,k2,k3,k4⟩:=uu6;obtain⟨l,kv,h,a,b,c,r⟩:=w.ownK e;refine⟨l,kv,h,c,λo=>?_⟩;obtain⟨O',w',S,n⟩:=w.frzK (y0:= .k kd) e trivial h (.frz o (.dK kv));have w2:=w'.tell (d:=fM ks (kd.map (·.2))) h (.dic bh (by rw [r.keys];exact ek) rfl n (r.vals.step S));rw [List.set_set] at w2;exact⟨O',_,E,w2,q,λO2 δ2 σ2 H2 z2 w2 S2=>k1 O2 δ2 σ2 H2 z2 w2 (S.trans S2),k2,λO2 δ2 σ2 H2 z2 w2 S2=>k3 O2 δ2 σ2 H2 z2 w2 (S.trans S2),λO2 δ2 σ2 H2 z2 w2 S2=>k4 O2 δ2 σ2 H2 z2 w2 (S.trans S2)⟩
theorem rD:∀{a b:List Str},a.map Oi=b.map Oi->a=b
 | [],[],_=>rfl
 | [],_::_,h=>by cases h
 | _::_,[],h=>by cases h
 | x::a,y::b,h=>by
  simp only [Ol,Pb,P4] at h;rw [h.1,rD h.2]
def aZ:List Str->List VL->Str->Option VL
 | k::ks,d::ds,z=>if k=z then some d else aZ ks ds z
 | _,_,_=>none
theorem tj{K:Oe}{H:Hp}{O:Ex}{z:Str}{d:VL}:∀{kv:List (ak×V)}{ks:List Str}{ds:List VL},kv.map (·.1)=ks.map P7->aj K H O (kv.map (·.2)) ds->aZ ks ds z=some d->∃v,dE kv (.inr z)=some v/\Dt K H O v d
 | [],[],ds,_,_,e=>by unfold aZ at e;cases e
 | [],_::_,ds,h,_,_=>by cases h
 | _::_,[],ds,h,_,_=>by cases h
 | p::kv,k::ks,ds,h,hd,e=>by
  rw [Ol] at hd;cases hd with
  | cons h1 h2=>
   simp only [Ol,Pb] at h;obtain⟨p1,p2⟩:=p;obtain⟨rfl,h⟩:=h;unfold aZ at e;by_cases hk:k=z
   ·rw [VJ hk] at e;cases e;exact⟨p2,sT (by rw [hk]),h1⟩
   ·rw [VI hk] at e;obtain⟨v,a,b⟩:=tj h h2 e;exact⟨v,by rw [rA (λq=>hk (i5.mp q))];exact a,b⟩
def lE(to tk:DT):DT:=λδ Q=>to δ λx=>∃ks ds,x=fM ks ds/\tk δ λy=>∃z,y= .str z/\∃d,aZ ks ds z=some d/\Q d
theorem Bg{o e:VV}{to tk:DT}{pos:Pos}(hu:X.A.units+64 < Wb)(ho:DE X H0 O0 o to)(he:DE X H0 O0 e tk)(hs:uK e):DE X H0 O0 (.Subscript o e pos) (lE to tk):=
 (Ao VH ho he hs).imp λσ H Q uu7=>by
  obtain⟨O,δ,Qd,w,q,k⟩:=uu7;refine⟨O,δ,_,w,q,λx vx H1 ⟨ks,ds,ex,q1⟩ s1 r1=>?_⟩;subst ex;refine⟨O,δ,_,w.mono s1,q1,λy vy H2 ⟨z,ey,d,ed,q2⟩ s2 r2=>?_⟩;subst ey;cases r2;cases r1 with
  | @dic a ob kv ks' kp ds h e1 e2 n rr=>
   have ek:ks'=ks:=by
    have:ks'.map Oi=ks.map Oi:=e2.symm;exact rD this
   subst ek;obtain⟨v,hv,dv⟩:=tj e1 rr ed;exact⟨a,v,rfl,by rw [<-hv];exact cB.z (k:= .inr z) (s2 _ _ h),k _ _ _ q2 (s1.trans s2) (dv.mono s2)⟩
end
open PySem PySem.Spec PyProof.Rows PySem.W PySem.Calls
section
variable {X:Cx} {H0:Hp} {O0:Ex}
theorem aj.ofInts{K:Oe}{H:Hp}{O:Ex}:∀(ns:List Int),aj K H O (ns.map V.int) (ns.map OZ)
 | []=>.nil
 | n::ns=>.cons (.int n) (aj.ofInts ns)
def lF(t:DT)(g:DG)(tc:DB)(te:DT)(k:Nat)(fr:List Nat):DA:=λδ Q=>ig t g tc te k fr δ Q\/ij t g tc te k fr δ Q
theorem Jr{N':List Str}{k:Nat}{fr:List Nat}{scope:Wn}{iter elt tg:VV}{ifs:List VV}{t te:DT}{tc:DB}{g:TG}{dg:DG}{pos:Pos}(hc:X.calm=true)(S:bb X.env.scope X.N N' k fr scope)(hi:DF X H0 O0 iter t)(gd:GD X.K g dg)(hk:ie g k)(hfr:fr.Nodup)
 (hg:∀fp C s H,PG (br X scope N' fp C s H) tg g)(hf:∀fp C s H,dZ (br X scope N' fp C s H) ifs (bK X.K H0 O0 tc))(he:∀fp C s H,PE (br X scope N' fp C s H) elt (up X.K H0 O0 te))
 (hs:∀x,V3 iter X.env x=pure x:=by intro _;rfl):FE X H0 O0 (.ListComp elt [⟨tg,iter,ifs,0⟩] scope pos) (lF t dg tc te k fr):=by
 intro pins s σ H Q I h;obtain⟨O,δ,Qd,w,q,kk⟩:=h;rcases q with q | q
 ·exact d8 hc S hi gd hk hfr hg hf he hs pins s σ H Q I ⟨O,δ,Qd,w,q,kk⟩
 ·exact kc hc S hi gd hk hfr hg hf he hs pins s σ H Q I ⟨O,δ,Qd,w,q,kk⟩
end
theorem Js{fr:List Nat}{σ:St}{v u:Option V}:mO (bt 2 fr σ) (((bt 2 fr σ).set 0 v).set 1 u):=by
 refine⟨by simp,λi w h=>?_⟩
 match i with
 | 0=>simp [bt,OX] at h
 | 1=>simp [bt,OX] at h
 | i+2=>simpa [bt,OX] using h
theorem uY{K:Oe}{n:Nat}:ie (tT K n (su (jO 0) (su (jO 1) tS))) 2:=λfr σ v H' R uu10=>by obtain⟨a,xs,e,h1,h2,x,r,e1,y,r2,e2,e3,h⟩:=uu10;exact⟨a,xs,e,h1,h2,x,r,e1,y,r2,e2,e3,Js,h⟩
def Bh(K:Oe):R2:=λx y H Q=>∃a b xs ys,x= .ref a/\y= .ref b/\bz K H a xs/\bz K H b ys/\xs.length+ys.length<=VW/\(xs=[]->Q (.ref b) H)/\(xs≠[]->v7 K x y H Q)
theorem Jt{X:Cx}:bH X (Wm .Add) (Bh X.K):=by
 intro pins s σ H x y v u Q I rx ry h;obtain⟨a,b,xs,ys,rfl,rfl,ha,hb,hz,q0,q1⟩:=h;by_cases hx:xs=[]
 ·subst hx;cases rx;cases ry;obtain⟨its,r1,⟨⟨c1,d1,da1,s1⟩,o1,k1,n1,e1⟩,_⟩:=I.tuple ha;obtain⟨its2,r2,⟨⟨c2,d2,da2,s2⟩,o2,k2,n2,e2⟩,_⟩:=I.tuple hb;simp only at k1 e1 k2 e2;subst k1 e1 k2 e2;cases r1;exact concat_meets ⟨_,o1,rfl⟩ ⟨_,o2,rfl⟩ Xm seq_tuple_add SI SE (Su _ _)
   (tuple_addW0 a b _ its2.toArray n1 n2 d1 d2 s1 s2 (by simp)) ⟨o1,o2,.ref b,H,I,rfl,q0 rfl⟩
 ·exact GH pins s σ H _ _ v u Q I rx ry (q1 hx)
def lG:VL->VL->(VL->Prop)->Prop:=λx y Q=>∃xs ys,x= .tuple xs/\y= .tuple ys/\xs.length+ys.length<=VW/\Q (.tuple (xs++ys))
theorem Ju{K:Oe}:cu K (Bh K) lG:=λH O x y dx dy Qd R tr hx hy uu11 k=>by
 obtain⟨xs,ys,e1,e2,hz,q⟩:=uu11;subst e1 e2;have hx0:=hx;have hy0:=hy;obtain⟨a,vs,rfl,h1,d1⟩:=hx.tup;obtain⟨b,us,rfl,h2,d2⟩:=hy.tup;refine⟨a,b,vs,us,rfl,rfl,h1,h2,by rw [d1.length,d2.length];exact hz,λz=>?_,λz=>?_⟩
 ·subst z;cases d1;rw [PM] at q;cases hy0 with
  | dt hy0=>exact k _ _ H q (aw.refl _) hy0
 ·exact HA H O _ _ _ _ Qd R tr hx0 hy0 ⟨xs,ys,rfl,rfl,λe=>z (by subst e;cases d1;rfl),hz,q⟩ k
open PySem PySem.Spec PyProof.Rows PySem.W PySem.Calls
def cW(f:Str)(d:VL):List (Str×VL)->List (Str×VL)
 | []=>[(f,d)]
 | (g,x)::r=>if g=f then(g,d)::r else(g,x)::cW f d r
theorem hV.put{K:Oe}{H:Hp}{O:Ex}{f:Str}{v:V}{d:VL}(hv:Dt K H O v d):∀{fs:List (Str×V)}{fd:List (Str×VL)},hV K H O fs fd->hV K H O (cN f v fs) (cW f d fd)
 | [],[],_=>⟨rfl,.cons hv .nil⟩
 | [],_::_,h=>by cases h.1
 | _::_,[],h=>by cases h.1
 | (g,x)::fs,(g',y)::fd,⟨h1,h2⟩=>by
  simp only [Ol,Pb] at h1;obtain⟨rfl,h1⟩:=h1;simp only [Ol] at h2;cases h2 with
  | cons a r=>
   unfold cN cW;by_cases e:g=f
   ·rw [VJ e,VJ e];exact⟨by simp only [Ol,h1],.cons hv r⟩
   ·rw [VI e,VI e];obtain⟨q1,q2⟩:=hV.put hv (fs:=fs) (fd:=fd) ⟨h1,r⟩;exact⟨by simp only [Ol,q1],.cons a q2⟩
section
variable {X:Cx} {H0:Hp} {O0:Ex}
def lH(C:VO)(i:Nat)(f:Str)(t:DT):DS:=λE δ=>t δ λd=>∃l fd,δ[i]?=some (some (.i l C fd))/\fd.length < 1000/\E.nx (δ.set i (some (.i l C (cW f d fd))))
theorem fx{C:VO}{i:Nat}{f:Str}{o e:VV}{t:DT}{pos pos':Pos}(hc:cO X.K C)(hn:bX X.K C f)(ho:PE X o (cJ i))(he:DE X H0 O0 e t)(hs:V6 e (some (.Attribute o f pos')) pos.line X.env=pure false:=by rfl):
 PS X (.Assign [.Attribute o f pos'] e pos) (bo X.K H0 O0 (lH C i f t)):=
 (vY ho he hs).imp λD σ H ⟨O,δ,E,w,q,k1,k2,k3,k4⟩=>⟨O,δ,_,w,q,λd u H1 uu13 s1 r1=>by
  obtain⟨l,fd,e,hl,q1⟩:=uu13;have w1:=w.mono s1;obtain⟨dx,fs,h,a,b,c,r⟩:=w1.ownI e;have lf:fs.length=fd.length:=by have:=congrArg T5 r.1;simpa using this
  refine⟨.ref l,h,l,C,dx,fs,rfl,c,hc,hn,by rw [lf];exact hl,k1 _ _ _ _ q1 (w1.putY (y0:= .i l C fd) (y1:= .i l C (cW f d fd)) trivial trivial e h λS a b=>⟨dx,_,rfl,a,b,bh,?_⟩) ⟨λb' o' z n=>?_,λ_ _ n=>n⟩⟩
  ·obtain⟨z1,z2⟩:=r.put (f:=f) r1;exact⟨z1,z2.step S⟩
  ·rw [az (λy=>n (by rw [y];exact a))];exact s1 _ _ z⟩
abbrev Bi(C:VO)(fd:List (Str×VL)):VL:=fh C (fd.map λp=>.str p.1) (fd.map (·.2))
def uZ(K:Oe)(C:VO)(F:List VL->(VL->Prop)->Prop):Sp:=λvs H Q _=>∃x dx vs' H1 O ds Qd,vs= .ref x::vs'/\H=ai (ai H1 dx (.own x)) x (.ins C dx [])/\H1 x=none/\H1 dx=none/\dx≠x/\(∀l,O l->H1 l≠none)/\aj K H1 O vs' ds/\F ds Qd/\
 ∀d H',Qd d->aw H1 H'->Dt K H' O (.ref x) d->Q .non H'
theorem wU{K:Oe}{C:VO}{F:List VL->(VL->Prop)->Prop}{t:DA}{E:XK}:∀σ H Q,up K H0 O0 (fY F t) σ H Q->zz C (uZ K C F) [] E (fV K H0 O0 t) σ H Q:=
 λσ H Q uu14=>by obtain⟨O,δ,Qd,w,q,k⟩:=uu14;exact⟨O,δ,_,w,q,λds vs H1 q1 s1 r1 x dx hx hdx ne=>⟨x,dx,vs,H1,O,ds,Qd,by rw [Pg],rfl,hx,hdx,ne,(w.mono s1).trk,r1,q1,λd H2 q2 s2 r2=>⟨rfl,k d _ H2 q2 (s1.trans s2) r2⟩⟩⟩
def u5(N:List Str)(l C:VO)(ds:List VL):Dl:=some (.i l C [])::(d9 N (.none::ds)).tail
theorem Jv{K:Oe}{H1:Hp}{O:Ex}{N:List Str}{vs:List V}{ds:List VL}{x dx C:VO}(tr:∀l,O l->H1 l≠none)(r:aj K H1 O vs ds)(hx:H1 x=none)(hdx:H1 dx=none)(ne:dx≠x):
 Wd K H1 O (ai (ai H1 dx (.own x)) x (.ins C dx [])) (λl=>O l\/l=x) (start N (.ref x::vs)) (u5 N x C ds):=by
 have w0:=Ae (N:=N) tr (.cons .non r);have w1:=w0.mono (aw.new (o:=HO.own x) hdx);have hx1:(ai H1 dx (.own x)) x=none:=by rw [az (Ne.symm ne)];exact hx
 have:=w1.setY (i:=0) (p:=x) (ho:= .ins C dx []) (y0:= .i x C []) trivial hx1 λO' S a b=>⟨dx,[],rfl,a,b,bh,rfl,.nil⟩;exact this
end
section
variable {P:VY} {w:VZ} {K:Oe} {mg:Str->Option VM} {base:V0}
theorem aP.okI{x qual:Str}{st:V1}{f C:VO}{fd:VX}{N ps:List Str}{k:Nat}{F:List VL->(VL->Prop)->Prop}(Fu:aP K x qual st f fd)(S:aV N ps (ag st))(len:∀ds Q,F ds Q->ds.length+1=ps.length)
 (hbody:∀(cdv:VM) (A:V2) (outer:List Env) (s:VP) (H H1:Hp) (O:Ex) (ds:List VL) (Q:VL->Prop) (E:XK) (l:VO),bf k (A.deeper (WJ qual (ag st) s.heap.objs.size f cdv))->F ds Q->
  ∃t,bQ (hJ CX0 P w K mg base N qual (ag st) f cdv A outer s H E).nox (au st) (bo K H1 O t)/\t {nx:=λδ=>∃fd,δ[0]?=some (some (.i l C fd))/\Q (Bi C fd),rt:=λ_=>False} (u5 N l C ds)):aF P w K mg base CX0 (k+1) f fd ps (uZ K C F):=by
 refine Fu.ok S (λvs H Q E h=>?_) (λcdv A outer s H vs Q E hr h=>?_)
 ·obtain⟨x,dx,vs',H1,O,ds,Qd,rfl,_,_,_,_,_,r,q,_⟩:=h;rw [Oz,r.length];exact len _ _ q
 ·obtain⟨x,dx,vs',H1,O,ds,Qd,rfl,rfl,hx,hdx,ne,tr,r,q,k⟩:=h;obtain⟨t,ht,q'⟩:=hbody cdv A outer s _ H1 O ds Qd E x hr q;refine⟨_,ht,_,_,_,Jv tr r hx hdx ne,q',λO' δ' σ' H' z w' S'=>?_,λd v H' z s' r'=>z.elim,λ_ _ _ _ z=>z.elim,λ_ _ _ _ z=>z.elim⟩;obtain⟨fd,e,z⟩:=z;obtain⟨dx',fs,h,a,b,c,r1,r2⟩:=w'.ownI e;refine k _ _ z w'.same (.obj c ?_ b (r2.step ⟨λ_ _ y _=>y,λb' _ n z=>n (w'.sub b' z)⟩));rw [show(fd.map λp:Str×VL=>Oi p.1)=(fd.map (·.1)).map Oi by rw [Ov];rfl,<-r1,Ov];rfl
end
theorem Dt.objI{K:Oe}{H:Hp}{O:Ex}{v:V}{C:VO}{kp ds:List VL}(h:Dt K H O v (fh C kp ds)):∃a dx fs,v= .ref a/\H a=some (.ins C dx fs)/\kp=fs.map (λp=>Oi p.1)/\aj K H O (fs.map (·.2)) ds:=by
 generalize e:fh C kp ds=x at h;cases h with
 | @obj a C' dx fs kp' ds' h1 h2 n r=>
  simp only [fh,UM,Pb,SK,P0,PV,Ql,and_true,true_and] at e;obtain⟨e1,e2,e3⟩:=e;have e1:C=C':=by exact_mod_cast e1
  subst e1 e2 e3;exact⟨a,dx,fs,rfl,h1,h2,r⟩
 | _=>first | cases e | simp [fh] at e
section
variable {X:Cx} {H0:Hp} {O0:Ex}
theorem Bj{K:Oe}{H:Hp}{O:Ex}{f:Str}{d:VL}:∀{fs:List (Str×V)}{ks:List Str}{ds:List VL},fs.map (λp=>Oi p.1)=ks.map Oi->aj K H O (fs.map (·.2)) ds->aZ ks ds f=some d->∃v,fs.lookup f=some v/\Dt K H O v d
 | [],[],ds,_,_,e=>by unfold aZ at e;cases e
 | [],_::_,ds,h,_,_=>by cases h
 | _::_,[],ds,h,_,_=>by cases h
 | (g,x)::fs,k::ks,ds,h,hd,e=>by
  rw [Ol] at hd;cases hd with
  | cons h1 h2=>
   simp only [Ol,Pb,P4] at h;obtain⟨rfl,h⟩:=h;unfold aZ at e;rw [Pd];by_cases hk:g=f
   ·rw [VJ hk] at e;cases e;subst hk;exact⟨x,by simp,h1⟩
   ·rw [VI hk] at e;have:(f==g)=false:=by simpa using Ne.symm hk
    rw [this];exact Bj h h2 e
def lI(C:VO)(f:Str)(t:DT):DT:=λδ Q=>t δ λx=>∃ks ds d,x=fh C (ks.map .str) ds/\aZ ks ds f=some d/\Q d
theorem bZ{C:VO}{f:Str}{e:VV}{t:DT}{pos:Pos}(hc:cO X.K C)(hn:bX X.K C f)(he:DE X H0 O0 e t)(hb:Wi e f X.env (eval e X.env)=eval e X.env:=by rfl):DE X H0 O0 (.Attribute e f pos) (lI C f t):=
 (t9 he hb).imp λσ H Q uu15=>by obtain⟨O,δ,Qd,w,q,k⟩:=uu15;exact⟨O,δ,_,w,q,λx v H1 uu16 s1 r1=>by
  obtain⟨ks,ds,d,ex,ed,q1⟩:=uu16;subst ex;obtain⟨a,dx,fs,rfl,h1,h2,r⟩:=r1.objI;obtain⟨v,hv,dv⟩:=Bj h2.symm r ed;exact⟨a,C,dx,fs,v,rfl,h1,hc,hn,hv,k _ _ _ q1 s1 dv⟩⟩
end
open PySem PySem.Spec PyProof.Rows PySem.W PySem.Calls
def fN(xs:Array Nat):Prop:=xs.toList.Pairwise (· < ·)
theorem fN.lt{xs:Array Nat}(h:fN xs){i k:Nat}(hik:i < k)(hk:k < xs.size):xs[i]'VH < xs[k]:=by
 have:=Sq.mp h i k (by simpa using(by omega:i < xs.size)) (by simpa using hk) hik;simpa using this
theorem Jw{xs:Array Nat}(h:fN xs){j:Nat}:∀(f lo hi:Nat),hi - lo<=f->lo<=hi->hi<=xs.size->(∀k(hk:k < xs.size),k < lo->xs[k] < j)->(∀k(hk:k < xs.size),hi<=k->j<=xs[k])->
 lo<=RY xs j f lo hi/\RY xs j f lo hi<=hi/\(∀k(hk:k < xs.size),k < RY xs j f lo hi->xs[k] < j)/\(∀k(hk:k < xs.size),RY xs j f lo hi<=k->j<=xs[k]):=by
 intro f
 induction f with
 | zero=>
  intro lo hi a b c d e;obtain rfl:lo=hi:=VH
  exact⟨Oj _,Oj _,d,e⟩
 | succ f ih=>
  intro lo hi a b c d e;unfold RY;by_cases hl:lo < hi
  ·rw [VJ hl];simp only;have hm:(lo+hi)/ 2 < xs.size:=VH
   have eg:xs.getD ((lo+hi)/ 2) j=xs[(lo+hi)/ 2]:=by simp [RF,hm]
   rw [eg];split
   ·rename_i hx;have d':∀k(hk:k < xs.size),k < (lo+hi)/ 2+1->xs[k] < j:=λk hk hlt=>by
     rcases QL k ((lo+hi)/ 2) with z | z
     ·exact Vo (h.lt z hm) hx
     ·obtain rfl:k=(lo+hi)/ 2:=VH
      exact hx
    obtain⟨p,q,r,s⟩:=ih ((lo+hi)/ 2+1) hi VH VH c d' e;exact⟨VH,q,r,s⟩
   ·rename_i hx;have e':∀k(hk:k < xs.size),(lo+hi)/ 2<=k->j<=xs[k]:=λk hk hge=>by
     rcases QL ((lo+hi)/ 2) k with z | z
     ·exact O6 (QR hx) (Rj (h.lt z hk))
     ·obtain rfl:k=(lo+hi)/ 2:=VH
      exact QR hx
    obtain⟨p,q,r,s⟩:=ih lo ((lo+hi)/ 2) VH VH VH d e';exact⟨p,VH,r,s⟩
  ·rw [VI hl];obtain rfl:lo=hi:=VH
   exact⟨Oj _,Oj _,d,e⟩
theorem wV{xs:Array Nat}(h:fN xs)(j:Nat):Qg xs j<=xs.size/\(∀k(hk:k < xs.size),k < Qg xs j->xs[k] < j)/\(∀k(hk:k < xs.size),Qg xs j<=k->j<=xs[k]):=by
 unfold Qg;obtain⟨_,b,c,d⟩:=Jw h (j:=j) xs.size 0 xs.size VH (Pe _) (Oj _) (λk hk z=>absurd z VH) (λk hk z=>absurd hk VH);exact⟨b,c,d⟩
theorem Jx{xs:Array Nat}(h:fN xs){i:Nat}(hi:i < xs.size):Qg xs (xs[i]+1)=i+1:=by
 obtain⟨a,b,c⟩:=wV h (xs[i]+1);apply Nat.le_antisymm
 ·refine QR λz=>?_;have:=b (i+1) VH z;have:=h.lt (show i < i+1 by omega) (show i+1 < xs.size by omega);omega
 ·refine QR λz=>?_;have:=c i hi VH;omega
theorem Jy{xs:Array Nat}(h:fN xs):Qg xs 0=0:=by
 obtain⟨a,b,c⟩:=wV h 0;refine Nat.eq_zero_of_not_pos λz=>?_;exact absurd (b 0 VH z) VH
theorem fN.ins{xs:Array Nat}(h:fN xs){j:Nat}(hj:xs[Qg xs j]?≠some j):fN (SetTable.insertAt xs (Qg xs j) j):=by
 obtain⟨a,b,c⟩:=wV h j;have h0:xs.toList.Pairwise (· < ·):=h;unfold fN;rw [SetTable.toList_insertAt];generalize Qg xs j=p at*;rw [<-SV p xs.toList,S0] at h0;rw [S0];have lt1:∀x∈xs.toList.take p,x < j:=λx hx=>by
  obtain⟨k,hk,rfl⟩:=Sb hx;rw [PF] at hk;rw [List.getElem_take];have:=b k (by simp at hk;omega) VH;simpa using this
 have lt2:∀x∈xs.toList.drop p,j < x:=λx hx=>by
  obtain⟨k,hk,rfl⟩:=Sb hx;rw [R8] at hk;rw [List.getElem_drop];have hs:p+k < xs.size:=by simp at hk;omega
  have h1:=c (p+k) hs VH;have h2:xs[p+k]≠j:=λe=>by
   rcases UE k with z | z
   ·subst z;exact hj (by rw [RG (show p < xs.size from hs)];exact congrArg some e)
   ·have:=c p VH (Oj _);have:=h.lt (show p < p+k by omega) hs;omega
  have:j < xs[p+k]:=VH
  simpa using this
 refine⟨h0.1,P8.mpr ⟨lt2,h0.2.1⟩,λx hx y hy=>?_⟩;rcases OA.mp hy with e | hy
 ·rw [e];exact lt1 x hx
 ·exact h0.2.2 x hx y hy
theorem Jz{t:Wq}{ha:Nat->Int}{h:Int}(hd:t.dummies=#[]):∀(f:Nat)(p:SetTable.Probe){j:Nat}{d:Option Nat},p.dummy=none->UN t ha h f p=some (.empty j d)->d=none/\t.place[Qg t.place j]?≠some j:=by
 intro f
 induction f with
 | zero=>intro p j d _ e;cases e
 | succ f ih=>
  intro p j d hp e;unfold UN at e;have nd:∀k,SetTable.has t.dummies k=false:=λk=>by rw [hd];rfl
  have adv:(t.advance p).dummy=none:=by unfold SetTable.advance;split <;> exact hp
  cases hs:t.slot p.j with
  | empty=>
   rw [hs] at e;simp only [PX,SetTable.Met.empty.injEq] at e;obtain⟨rfl,rfl⟩:=e;refine⟨hp,λz=>?_⟩;unfold Vj at hs;simp only [z,beq_self_eq_true,if_true] at hs;cases hs
  | dummy=>
   unfold Vj at hs;simp only [nd] at hs;split at hs
   ·cases hs
   ·simp at hs
  | live i=>
   rw [hs] at e;simp only at e;split at e
   ·cases e
   ·exact ih _ adv e
structure dQ (t:Wq):Prop where
 ris:fN t.place
 dum:t.dummies=#[]
theorem dQ.fresh{f m:Nat}{l:Bool}:dQ (.fresh f m l):=⟨.nil,rfl⟩
theorem JA(n:Nat):fN (Array.range n):=by
 unfold fN;rw [Array.toList_range];exact T7
theorem dQ.standIn{t:Wq}{n:Nat}:dQ (t.standIn n):=⟨JA n,rfl⟩
theorem dQ.orStandIn{t:Wq}{n:Nat}(h:dQ t):dQ (t.orStandIn n):=by
 unfold UA;split
 ·exact h
 ·exact .standIn
theorem dQ.layNew{t:Wq}(h:dQ t)(es:Array (Int×VM))(hs:Int)(x:VM):dQ (layNew t es hs x).2.1:=by
 unfold PySem.layNew;cases hf:t.freeSlot hs with
 | none=>exact .standIn
 | some q=>
  obtain⟨slot,wd⟩:=q;simp only;refine dQ.orStandIn ?_;unfold SetTable.freeSlot at hf;split at hf
  ·rename_i j d hp;simp only [PX,SK] at hf;obtain⟨e1,e2⟩:=hf;obtain⟨rfl,nj⟩:=Jz h.dum _ _ (by rfl) hp;simp at e1;subst e1;unfold SetTable.put;refine⟨h.ris.ins nj,?_⟩;simp only [h.dum];rfl
  ·cases hf
theorem dQ.relay{t:Wq}(h:dQ t)(es:Array (Int×VM))(n:Nat):dQ (WX t es n).2.1:=by
 unfold WX;split
 ·rename_i t' order hr;dsimp only;split
  ·unfold U8 Vg at hr;cases hc:UK (UB n - 1) (es.map (·.1)) with
   | none=>rw [hc] at hr;cases hr
   | some ow=>
    rw [hc] at hr;simp only [bind,VA,pure,PX,SK] at hr;obtain⟨e1,_⟩:=hr;subst e1;refine⟨?_,rfl⟩;unfold fN;simp only [List.toList_toArray];rw [Px];refine List.Pairwise.filterMap _ (λa a' hl b hb b' hb'=>?_) T7;cases h1:ow.getD a none with
    | none=>rw [h1] at hb;cases hb
    | some u=>
     cases h2:ow.getD a' none with
     | none=>rw [h2] at hb';cases hb'
     | some u'=>
      rw [h1] at hb;rw [h2] at hb';cases hb;cases hb';exact hl
  ·exact .standIn
 ·exact .standIn
open PySem PySem.Spec PyProof.Rows PySem.W PySem.Calls
structure JB (P:VY) (w:VZ) (o:Obj) (ss:List Int):Prop where
 ex:o.ExactSet
 da:∃es ep t,o.data= .set es ep t/\ElemsOf (WQ P w) es.toList/\(∃ss',We (es.toList.map (·.2)) ss'/\ss'.Perm ss)/\es.size < WE/\t.fits es.size=true/\(fK w=true\/t.led=true)/\dQ t
def cI(P:VY)(w:VZ)(h:V0)(a:VO)(ss:List Int):Prop:=∃o,h.get? a=some o/\JB P w o ss
theorem Bk{k:Int}:∀{vs:List VM}{ss:List Int},We vs ss->((∃v∈vs,v.isInt k=true)↔k∈ss)
 | _,_,.nil=>by simp
 | _,_,.cons x t r=>by
  have ih:=Bk (k:=k) r;constructor
  ·rintro⟨v,hv,e⟩;rcases OA.mp hv with z | z
   ·subst z;obtain⟨u,e'⟩:=UH e;cases e';exact O8
   ·exact OQ _ (ih.mp ⟨v,z,e⟩)
  ·intro hk;rcases OA.mp hk with z | z
   ·subst z;exact⟨_,O8,by simp [UR]⟩
   ·obtain⟨v,hv,e⟩:=ih.mpr z;exact⟨v,OQ _ hv,e⟩
theorem u7{vs vs':List VM}(p:vs'.Perm vs):∀{ss:List Int},We vs ss->∃ss',We vs' ss'/\ss'.Perm ss:=by
 induction p with
 | nil=>intro ss h;exact⟨ss,h,.refl _⟩
 | cons x p ih=>
  intro ss h;cases h with
  | cons y t r=>obtain⟨s1,a,b⟩:=ih r;exact⟨y::s1,.cons y t a,b.cons y⟩
 | swap x y l=>
  intro ss h;cases h with
  | cons a t r=>cases r with | cons b u r=>exact⟨b::a::_,.cons b u (.cons a t r),.swap _ _ _⟩
 | trans p q ih1 ih2=>
  intro ss h;obtain⟨s1,a,b⟩:=ih2 h;obtain⟨s2,c,d⟩:=ih1 a;exact⟨s2,c,d.trans b⟩
theorem Bl{x:Int}{t:Tok}:∀{vs:List VM}{ss:List Int},We vs ss->We (vs++[.int x t]) (ss++[x])
 | _,_,.nil=>.cons x t .nil
 | _,_,.cons y u r=>.cons y u (Bl r)
theorem tm:∀{vs:List VM}{ss:List Int},We vs ss->vs.length=ss.length
 | _,_,.nil=>rfl
 | _,_,.cons y u r=>by simp [tm r]
def dR(ss:List Int)(x:Int):List Int:=if x∈ss then ss else ss++[x]
section
variable {P:VY} {w:VZ} {A:V2} {E:VM->VP->Prop} {s:VP}
theorem cI.mk{h:V0}{a:VO}{o:Obj}{es es':Array (Int×VM)}{ep:Nat}{t t':Wq}{ss:List Int}(o1:h.get? a=some o)(x1:o.ExactSet)(d1:o.data= .set es ep t)
 (el:ElemsOf (WQ P w) es'.toList)(sp:∃ss',We (es'.toList.map (·.2)) ss'/\ss'.Perm ss)(b1:es'.size < WE)(f1:t'.fits es'.size=true)(l1:fK w=true\/t'.led=true)(p1:dQ t'):
 (h.update a (Tx es' t')).get? a=some {o with data:= .set es' (ep+1) t'}/\cI P w (h.update a (Tx es' t')) a ss:=by
 have g:(h.update a (Tx es' t')).get? a=some {o with data:= .set es' (ep+1) t'}:=by
  have z:=Qx (Tx es' t') o1 (by rw [putSet_of es' t' d1];rfl);rw [putSet_of es' t' d1] at z;exact z
 exact⟨g,_,g,x1,es',ep+1,t',rfl,el,sp,b1,f1,l1,p1⟩
theorem Bm{g:Bool->Sem Unit}(hg:∀(b:Bool) (s₁:VP) (Q':Unit->VP->Prop),Q' () s₁->VS (VU P w) A (g b) Q' E s₁)
 {a:VO}{o:Obj}{es:Array (Int×VM)}{ep:Nat}{t:Wq}(o1:s.heap.get? a=some o)(x1:o.ExactSet)(d1:o.data= .set es ep t)
 {es1:Array (Int×VM)}{t2:Wq}{ss:List Int}(el:ElemsOf (WQ P w) es1.toList)(sp:∃ss',We (es1.toList.map (·.2)) ss'/\ss'.Perm ss)
 (b1:es1.size < WE)(f2:t2.fits es1.size=true)(l2:fK w=true\/t2.led=true)(p2:dQ t2){wd:Bool}{R:Option Bool->VP->Prop}
 (h:∀h',Q0 a s.heap h'->cI P w h' a ss->R (some true) {s with heap:=h'}):
 VS (VU P w) A (do
  storeSet a es1 t2
  if (!wd && t2.tooFull)=true then do
   g (WX t2 es1 (Rf es1.size)).2.2
   storeSet a (WX t2 es1 (Rf es1.size)).1 (WX t2 es1 (Rf es1.size)).2.1
   pure (some true)
   else pure (some true)) R E s:=by
 refine VN (wpAny_storeSet_of o1 d1 ?_ (fits_of_scanBound b1));obtain⟨o2,S2⟩:=cI.mk (P:=P) o1 x1 d1 el sp b1 f2 l2 p2;have sb:=PB s.heap a (Tx es1 t2);split
 ·have rp:=relayAll_perm t2 es1 (Rf es1.size);have rf:=relayAll_fits t2 es1 (Rf es1.size);have rl:=IL t2 es1 (Rf es1.size);have rq:=p2.relay es1 (Rf es1.size);generalize WX t2 es1 (Rf es1.size)=Z at rp rf rl rq⊢;obtain⟨es2,t3,gv⟩:=Z;dsimp only at rp rf rl rq⊢;have sz:es2.size=es1.size:=by rw [<-OU,rp.length_eq,OU]
  obtain⟨ss',q1,q2⟩:=sp;obtain⟨ss2,q3,q4⟩:=u7 (rp.map (·.2)) q1;refine VN (hg _ _ _ (VN (wpAny_storeSet_of o2 rfl ?_ (fits_of_scanBound (by rw [sz];exact b1)))));obtain⟨_,S3⟩:=cI.mk (P:=P) (w:=w) (t':=t3) o2 x1 rfl (el.perm rp) ⟨ss2,q3,q4.trans q2⟩ (by rw [sz];exact b1) rf (by rw [rl];exact l2) rq;exact VQ (h _ (sb.trans (PB _ a _)) S3)
 ·exact VQ (h _ sb S2)
theorem JC{a:VO}{ss:List Int}{x:Int}{tk:Tok}{Q:Bool->VP->Prop}(hS:cI P w s.heap a ss)(hroom:ss.length+1 < WE)
 (h:∀h' b,Q0 a s.heap h'->cI P w h' a (dR ss x)->Q b {s with heap:=h'}):
 VS (VU P w) A (setAddHashed a (.int x tk) (hashInt x)) Q E s:=by
 obtain⟨o,o1,x1,es,ep,t,d1,el,⟨ss',s1,s2⟩,b1,f1,l1,p1⟩:=hS;have hk:(WQ P w).is x (.int x tk)=true:=intKind_is _ _ _ _;have hsc:(QU x tk).scannable=true:=rfl;have ln:es.size=ss.length:=by rw [<-s2.length_eq,<-tm s1,Of,OU]
 unfold setAddHashed setAddHashedIn;refine Wf (VN (Wu o1 d1 f1 ?_));dsimp only;rw [byScan_of hsc b1 el,VJ rfl];unfold setAddByScan;refine VN (VN (W5 (VN (wpAny_setScan_of hk o1 d1 f1 el ?_))));have mem:(∃e∈es.toList,(WQ P w).is x e.2=true)↔x∈ss:=by
  rw [<-s2.mem_iff,<-Bk s1];constructor
  ·rintro⟨e,he,q⟩;exact⟨e.2,Oq.mpr ⟨e,he,rfl⟩,q⟩
  ·rintro⟨v,hv,q⟩;obtain⟨e,he,rfl⟩:=Oq.mp hv;exact⟨e,he,q⟩
 cases hr:List.findIdx? (λe=>(WQ P w).is x e.2) es.toList with
 | some j=>
  obtain⟨hj,hp,_⟩:=List.findIdx?_eq_some_iff_getElem.mp hr;have hx:x∈ss:=mem.mp ⟨_,Qy hj,hp⟩;refine VQ (VQ ?_);have z:=h s.heap false (Q0.refl a s.heap) (by unfold dR;rw [VJ hx];exact⟨o,o1,x1,es,ep,t,d1,el,⟨ss',s1,s2⟩,b1,f1,l1,p1⟩);have e:s={s with heap:=s.heap}:=by cases s;rfl
  rw [e];exact z
 | none=>
  dsimp only;have hx:x ∉ ss:=λz=>by
   obtain⟨e,he,q⟩:=mem.mpr z;have:=List.findIdx?_eq_none_iff.mp hr e he;rw [q] at this;cases this
  have eS:dR ss x=ss++[x]:=VI hx;rw [eS] at h;have lp:=layNew_perm t es (hashInt x) (.int x tk);have lf:=layNew_fits t es (hashInt x) (.int x tk);have ll:=IK t es (hashInt x) (.int x tk);have lt:=p1.layNew es (hashInt x) (.int x tk);generalize layNew t es (hashInt x) (.int x tk)=L at lp lf ll lt⊢;obtain⟨es1,t1,wd,gv⟩:=L;dsimp only at lp lf ll lt⊢;rw [UL] at lp;have el1:ElemsOf (WQ P w) es1.toList:=(el.push hk hsc).perm lp;have sp1:∃ss',We (es1.toList.map (·.2)) ss'/\ss'.Perm (ss++[x]):=by
   have s3:We ((es.toList++[(hashInt x,QU x tk)]).map (·.2)) (ss'++[x]):=by
    rw [OM];exact Bl s1
   obtain⟨s4,q1,q2⟩:=u7 (lp.map (·.2)) s3;exact⟨s4,q1,q2.trans (s2.append_right _)⟩
  have n1:es1.size=es.size+1:=by rw [<-OU,lp.length_eq];simp
  have b2:es1.size < WE:=VH
  have l2:fK w=true\/t1.led=true:=by rw [ll];exact l1
  have gw:∀(b:Bool)(s₁:VP)(Q':Unit->VP->Prop),Q' () s₁->VS (VU P w) A (match b with | true=>rule "set.scan.the-table-gave-way" | false=>pure ()) Q' E s₁:=
   λb s₁ Q' z=>by cases b <;> first | exact VQ z | exact W5 z
  refine VN (gw _ _ _ ?_);split
  ·refine VN ?_;rw [hashByValue_scannable 8 hsc];refine VQ ?_;rw [VJ (show plainKind (QU x tk)=true from rfl)];exact Bm gw o1 x1 d1 el1 sp1 b2 lf l2 lt λh' sb S'=>VQ (h h' true sb S')
  ·refine VN (VQ ?_);rw [VJ rfl];exact Bm gw o1 x1 d1 el1 sp1 b2 lf l2 lt λh' sb S'=>VQ (h h' true sb S')
end
open PySem PySem.Spec PyProof.Rows PySem.W PySem.Calls
def lJ(val:Nat->Int)(i:Nat):List Int:=((Qa i).map val).foldl dR []
theorem Bn(val:Nat->Int)(i:Nat):lJ val (i+1)=dR (lJ val i) (val i):=by
 unfold lJ;rw [List.range_succ,OM,RB];rfl
theorem Bo(val:Nat->Int):∀i,(lJ val i).length<=i
 | 0=>Oj _
 | i+1=>by
  have ih:=Bo val i;rw [Bn];unfold dR;split
  ·omega
  ·simp;omega
theorem JD{ss:List Int}{x:Int}(h:ss.Nodup):(dR ss x).Nodup:=by
 unfold dR;split
 ·exact h
 ·rename_i hx;refine Tt.mpr ⟨h,by simp,λa ha b hb=>?_⟩;rw [OO] at hb;subst hb;intro e;subst e;exact hx ha
theorem JE{ss:List Int}{x y:Int}:y∈dR ss x↔y∈ss\/y=x:=by
 unfold dR;split
 ·rename_i hx;exact⟨.inl,λz=>z.elim id λe=>by subst e;exact hx⟩
 ·simp
theorem wX{y:Int}:∀{l ss:List Int},y∈l.foldl dR ss↔y∈ss\/y∈l
 | [],ss=>by simp
 | a::l,ss=>by rw [O4,wX,JE,OA];exact or_assoc
theorem wY:∀{l ss:List Int},ss.Nodup->(l.foldl dR ss).Nodup
 | [],_,h=>h
 | a::l,_,h=>by rw [O4];exact wY (JD h)
theorem cI.stay{P:VY}{w:VZ}{h h':V0}{a:VO}{ss:List Int}(x:cI P w h a ss)(k:∀o,h.get? a=some o->h'.get? a=some o):cI P w h' a ss:=
 let ⟨o,e,r⟩:=x;⟨o,k o e,r⟩
section
variable {P:VY} {w:VZ} {A:V2} {R:Result->VP->Prop} {I:VO} {fp wr:List VO} {G:Array Xp->Array Xp->Prop} {n:Nat} {Pv:Nat->VM->Prop} {St:Nat->VP->Prop}
theorem JF(W:WalksS P w A.in1 I fp wr G n Pv St)(S:VO)(hSf:S ∉ fp)(val:Nat->Int)(hval:∀i v,Pv i v->∃t,v= .int (val i) t)(hb:n+1 < WE):
 ∀(k i:Nat)(s:VP),n - i=k->i<=n->St i s->cI P w s.heap S (lJ val i)->
  (∀s',Moved (S::wr) G s s'->cI P w s'.heap S (lJ val n)->R (.ok (.ret .none)) s')->WA (VU P w) A (.builtin "set.update.loop" ⟨[.ref S,.ref I],[]⟩) R s:=by
 have sw:S ∉ wr:=λz=>hSf (W.sub _ z);have sub:∀b∈wr,b∈S::wr:=λb z=>OQ _ z;intro k
 induction k with
 | zero=>
  intro i s e1 e2 st hS q;obtain rfl:i=n:=VH
  refine WD Sy ?_;rw [RE Rm _];show VS _ A.in1 (WI (.ref I) >>=_) _ _ s;exact VN (W.done s _ _ st λs' m=>VQ (q s' (m.mono sub) (hS.stay λo e=>m.heap S o sw e)))
 | succ k ih=>
  intro i s e1 e2 st hS q;have lt:i < n:=VH
  refine WD Sy ?_;rw [RE Rm _];show VS _ A.in1 (WI (.ref I) >>=_) _ _ s;refine VN (W.item i s _ _ lt st λv s' hP st' m=>?_);obtain⟨t,rfl⟩:=hval i v hP;have hS':=hS.stay (h':=s'.heap) λo e=>m.heap S o sw e;show VS _ A.in1 (WR [QU (val i) t] (setAdd S (.int (val i) t)) >>=_) _ _ s';refine VN (Wf ?_);unfold setAdd;refine Wf (VN ((WQ P w).pyHash (k:=val i) (intKind_is _ _ _ _) ?_));have rm:(lJ val i).length+1 < WE:=by have:=Bo val i;omega
  refine JC (s:={s' with toks:=s'.toks+1}) hS' rm λh' b sb S2=>?_;rw [<-Bn] at S2;refine VQ ⟨WV Rm _,ih (i+1) _ VH lt (W.frame _ s' _ _ st' (Qk _) λb hb o e=>?_) S2 λs2 m2 S3=>?_⟩
  ·rw [sb.2 b (λz:b=S=>hSf (by rw [<-z];exact hb))];exact e
  ·refine q s2 (Moved.trans W.gtrans ((m.mono sub).then_heap (Qk _) λb o hb e=>?_) m2) S3;rw [sb.2 b (λz:b=S=>hb (by rw [z];exact O8))];exact e
end
section
variable {P:VY} {w:VZ} {A:V2} {E:VM->VP->Prop} {s:VP}
theorem cI.fresh{h:V0}{a:VO}(e:h.get? a=some {cls:= .type "set",dict:=none,data:= .set #[] 0 (.fresh 0 0 (!fK w))}):cI P w h a []:=by
 refine⟨_,e,⟨rfl,rfl,rfl⟩,#[],0,_,rfl,λe he=>by simp at he,⟨[],.nil,.refl _⟩,VG,rfl,?_,dQ.fresh⟩;cases hb:fK w with
 | true=>exact .inl rfl
 | false=>exact .inr rfl
theorem JG{l:VO}{items:Array VM}{ss:List Int}{Q:VM->VP->Prop}
 (hh:A.handled=none)(hl:s.heap.IsList l items)(hi:We items.toList ss)(hb:items.size+1 < WE)
 (h:∀(h':V0) (tk:Nat),cI P w h' s.heap.objs.size (ss.foldl dR [])->(∀b o,s.heap.get? b=some o->h'.get? b=some o)->Q (.ref s.heap.objs.size) {s with heap:=h',toks:=tk}):
 VS (VU P w) A (call (.type "set") [.ref l]) Q E s:=by
 obtain⟨c,tl,hmro⟩:=PySem.F.called_set.mro;have hmade:=PySem.F.called_set.made;have hsub:=PySem.F.called_set.sub;refine wpAny_call (codeAny_of_tree ?_);show VS _ _ (callAny (.type "set") _) _ _ _;refine VQ ⟨Code.quiet_builtin _ cp,WD PySem.F.entry_type_call ?_⟩;rw [Around.under_plain (weight_type_call_type "set" [.ref l] []) rfl];have h1:=PySem.F.called_set.notType;have h2:=PySem.F.called_set.canCreate;have hct:=PySem.F.typeCall_set_1 (.ref l)
 repeat (any_goals (first | assumption | wp_step))
 generalize hob:({cls:= .type "set",dict:=none,data:= .set #[] 0 (.fresh 0 0 (!fK w))}:Obj)=ob;refine Ww (IM (P:=P) (w:=w) (.ref l) (E:=E) (Q₁:=λu s₁=>u= .ref s.heap.objs.size/\s₁={s with heap:=s.heap.push ob}) (by subst hob;exact⟨rfl,rfl⟩)) λr s₁ hr=>?_;cases r with
 | error e=>exact hr
 | ok fl=>
  cases fl with
  | ret u=>
   obtain⟨rfl,rfl⟩:=hr;have hS:(s.heap.push ob).get? s.heap.objs.size=some ob:=OR _ (by subst hob;rfl);have hT:Shared.TypeIs {s with heap:=s.heap.push ob} (.ref s.heap.objs.size) "set":=⟨_,hS,by subst hob;rfl⟩;have hli:=PySem.F.called_set.init.lookup;have hbi:=PySem.F.called_set.init.bind (.ref s.heap.objs.size)
   repeat (any_goals (first | assumption | wp_step))
   refine Ww (codeAny_call_builtin (R:=wants (λr s₂=>r= .none/\∃h' tk,s₂={s with heap:=h',toks:=tk}/\cI P w h' s.heap.objs.size (ss.foldl dR [])/\∀b o,s.heap.get? b=some o->h'.get? b=some o) E)
    PySem.F.called_set.init.plain PySem.F.entry_set_init (check_set_init_1 hT ?_)) λr₂ s₂ hr₂=>?_
   ·obtain⟨ol,o1,c1,nl,d1⟩:=hl;obtain⟨oc,od,oda,osl⟩:=ol;simp only at c1 d1;subst c1;subst d1;have o2:(s.heap.push ob).get? l=some {cls:= .type "list",dict:=od,data:= .seq items nl,slots:=osl}:=Oo _ o1;have q1:=PySem.F.sub_list_set;have q2:=PySem.F.sub_list_frozenset;have q3:(R6 "list"==R6 "dict")=false:=VG
    have l1:(s.heap.push ob).IsList l items:=⟨_,o2,rfl,nl,rfl⟩;subst hob;unfold Builtin.«set.__init__» noKeywords Builtin.Frozenset.updateFrom;generalize hPI:pyIter=PI
    wp_walk
    subst hPI;refine Xl l1 ?_;refine VN (wpAny_runValue ?_);have ll:l < s.heap.objs.size:=OJ o1;have sz:∀ob:Obj,(s.heap.push ob).objs.size=s.heap.objs.size+1:=λ_=>S8 _ _;have n1:∀ob:Obj,l≠(s.heap.push ob).objs.size:=λ_=>by rw [sz];exact OV (Qt ll)
    have n2:∀ob:Obj,s.heap.objs.size ∉ [(s.heap.push ob).objs.size,l]:=λ_=>by
     rw [sz];simp only [OA,O5,or_false,not_or];exact⟨OV (QQ _),R0 ll⟩
    have hv:∀(i:Nat)(v:VM),items[i]?=some v->∃t,v= .int ((λi:Nat=>(ss[i]?).getD 0) i) t:=λi v e=>by
     rw [<-SU] at e;have:∀{vs:List VM}{ss:List Int},We vs ss->∀(i:Nat)(v:VM),vs[i]?=some v->∃t,v= .int ((ss[i]?).getD 0) t:=by
      intro vs ss x
      induction x with
      | nil=>intro i v e;simp at e
      | cons y t r ih=>
       intro i v e;cases i with
       | zero=>simp at e;exact⟨t,by rw [<-e];rfl⟩
       | succ i=>simp only [Po] at e⊢;exact ih i v e
     exact this hi i v e
    have hm:lJ (λi=>(ss[i]?).getD 0) items.size=ss.foldl dR []:=by
     have e:items.size=ss.length:=by rw [<-tm hi,OU]
     unfold lJ;rw [e];congr 1;apply RK (by simp);intro i a b;simp at a b⊢;rw [OT VH];rfl
    refine JF (U7 (show A.in1.in1.in1.handled=none by simp [hh]) _ l (n1 _) items).toS s.heap.objs.size (n2 _) _ hv hb (items.size - 0) 0 _ VH (Pe _)
     ⟨⟨_,OR _ rfl,rfl,rfl⟩,l1.push _⟩ ?hS0 ?hR
    case hS0=>
     exact cI.fresh (Oo _ hS)
    case hR=>
     intro s' m S';rw [hm] at S';obtain⟨h',g',d',tk',os'⟩:=s';obtain rfl:g'=s.gens:=m.gens;obtain rfl:d'=s.drawn:=m.drawn;obtain rfl:os'=s.os:=m.os;show VS _ _ _ _ _ _;refine VQ (VQ ⟨rfl,h',tk',rfl,S',λb o e=>?_⟩);have hb1:b < s.heap.objs.size:=OJ e;refine m.heap b o ?_ (Oo _ (Oo _ e));rw [sz];simp only [OA,O5,or_false,not_or];exact⟨OV hb1,OV (Qt hb1)⟩
   ·cases r₂ with
    | error e=>exact hr₂
    | ok fl₂=>
     cases fl₂ with
     | ret r=>
      obtain⟨rfl,h',tk,rfl,S',k'⟩:=hr₂
      repeat (any_goals (first | assumption | wp_step))
      exact h _ _ S' k'
     | _=>exact hr₂.elim
  | _=>exact hr.elim
end
open PySem PySem.Spec PyProof.Rows PySem.W PySem.Calls
section
variable {P:VY} {w:VZ} {A:V2} {E:VM->VP->Prop} {s:VP} {a:VO} {o:Obj} {es:Array (Int×VM)} {ep:Nat} {t:Wq}
theorem Bp{slot i:Nat}{Q:Option (VM×Nat)->VP->Prop}(hb:fK w=false)(o1:s.heap.get? a=some o)(d1:o.data= .set es ep t)(f1:t.fits es.size=true)(hd:(!t.plain && decide (es.size > 1))=false)(hl:t.led=true)
 (h:Q (match es[Qg t.place slot]?,t.place[Qg t.place slot]? with | some (_,x),some j=>some (x,j+1) | _,_=>none) s):VS (VU P w) A (WU a slot i ep) Q E s:=by
 unfold WU setsByText;refine VN (Wu o1 d1 f1 (VN (VN (Wy (VQ ?_)))));rw [VI (show ¬(VU P w).w.params.followText "set-order"=true from by show ¬fK w=true;rw [hb];decide)];show VS _ _ (if (!t.plain && decide (es.size > 1))=true then _ else _) _ _ _;rw [VI (by rw [hd];decide)];refine VN (m:=if (!t.led && !es.isEmpty)=true then unsupported "set:maker-not-led" else pure ()) ?_;rw [VI (by simp [hl])];exact VQ (VQ h)
theorem JH{ss:List Int}{Q:VM->VP->Prop}(hh:A.handled=none)(hS:cI P w s.heap a ss)
 (q:∀(I:VO) (h1:V0) (d1:Drawn) (vs:List VM) (fp wr:List VO) (n:Nat) (St:Nat->V0->Prop),(∀b u,s.heap.get? b=some u->h1.get? b=some u)->(∃ss',We vs ss'/\ss'.Perm ss)->n=ss.length->
  Walks P w A I fp wr n (λi v=>vs[i]?=some v) St->St 0 h1->(∀b∈fp,b=a\/s.heap.objs.size<=b)->(∀b∈wr,s.heap.objs.size<=b)->vs.length=n->(∀b∈fp,b < h1.objs.size)->Q (.ref I) {s with heap:=h1,drawn:=d1}):
 VS (VU P w) A (pyIter (.ref a)) Q E s:=by
 obtain⟨o,o1,x1,es,ep,t,d1,el,⟨ss',s1,s2⟩,b1,f1,l1,p1⟩:=hS;have hT:s.TypeIs (.ref a) "set":=⟨o,o1,x1.1⟩;have la:a < s.heap.objs.size:=OJ o1;have ln:es.size=ss.length:=by rw [<-s2.length_eq,<-tm s1,Of,OU]
 refine wpAny_pyIter_slot hT Uc (Wc Uc hT IP ?_ (PySem.F.args_set_iter_1 _));unfold Builtin.«frozenset.__iter__»;refine VN (m:=Builtin.Frozenset.slot0 _ _) (VQ ?_);refine VN (m:=Builtin.Frozenset.sizeOf a) (VN (Wz o1 d1 f1 (VQ ?_)));refine VN (m:=setDrawn a) ?_;unfold setDrawn setsByText;refine VN (Wu o1 d1 f1 (VN (VN (Wy (VQ (VQ ?_))))));show VS _ _ (if (!(fK w) && (!t.plain && decide (es.size > 1)))=true then _ else _) _ _ _;have lastly:∀(f:VM)(h1:V0)(d:Drawn),h1.get? a=some o->(∀I h2,h2=h1.push {cls:= .type "set_iterator",data:= .fields #[f,.int (0:Nat) 0,.ref a,.int es.size 0,.int ep 0]}->I=h1.objs.size->Q (.ref I) {s with heap:=h2,drawn:=d})->
  VS (VU P w) A.in1 (setEpoch a >>=λe=>newFields "set_iterator" [f,WG 0,.ref a,WG es.size,WG e] >>=λv=>ret v)
   (λfin s'=>∃v,fin= .done (.ret v)/\∃T' r,s'.TypeIs v T'/\typeLookup (.type T') "__next__"=pure (some r)/\Q v s') E {s with heap:=h1,drawn:=d}:=by
  intro f h1 d e1 k;refine VN (wpAny_setEpoch_of (s:={s with heap:=h1,drawn:=d}) e1 d1 f1 ?_);refine VN (V7 (VQ ?_));exact⟨_,rfl,"set_iterator",_,⟨_,OR _ rfl,rfl⟩,i6.lookup,k _ _ rfl rfl⟩
 have szp:∀(h:V0)(ob:Obj),(h.push ob).objs.size=h.objs.size+1:=λ_ _=>S8 _ _;have n0:a≠s.heap.objs.size:=OV la;by_cases hdr:(!(fK w) && (!t.plain && decide (es.size > 1)))=true
 ·rw [VJ hdr];refine VN (AW es.size (Qa es.size) s _ (by simp) λks d hp=>VN (m:=newTuple _) (V7 ?_ ?_))
  ·have lk:ks.length=es.size:=by rw [hp.length_eq,RX]
   refine lastly _ (s.heap.push _) d (Oo _ o1) λI h2 e2 eI=>?_;subst e2 eI;have k1:a≠(s.heap.push {cls:= .type "tuple",data:= .seq (ks.map λ(i:Nat)=>WG i).toArray}).objs.size:=by rw [szp];exact OV (Qt la)
   have k2:s.heap.objs.size≠(s.heap.push {cls:= .type "tuple",data:= .seq (ks.map λ(i:Nat)=>WG i).toArray}).objs.size:=by rw [szp];exact OV (QQ _)
   have pm:(ks.map λk=>((es[k]?).map (·.2)).getD .none).Perm (es.toList.map (·.2)):=by
    refine(hp.map _).trans (.of_eq ?_);apply RK (by simp);intro i a b;simp at a b⊢;rw [RG a];rfl
   obtain⟨ss2,q3,q4⟩:=u7 pm s1;refine q _ _ d _ _ _ es.size _ (λb u e=>Oo _ (Oo _ e)) ⟨ss2,q3,q4.trans s2⟩ ln
    (IY hh _ _ k1 k2 d1 f1 _ ks rfl lk (λi k e=>?_)) ⟨⟨_,OR _ rfl,rfl,rfl⟩,Oo _ (Oo _ o1),Oo _ (OR _ rfl)⟩ (λb hb=>?_) (λb hb=>?_) (by simp [lk]) (λb hb=>?_)
   ·have hk:k < es.size:=by
     have:=hp.mem_iff.mp (OY e);simpa using this
    refine⟨es[k].1,es[k].2,by simp [hk],?_⟩;rw [OD,e];simp [hk]
   ·simp only [OA,O5,or_false] at hb;rcases hb with rfl | rfl | rfl
    ·right;rw [szp];exact Qk _
    ·left;rfl
    ·right;exact Oj _
   ·rw [OO] at hb;rw [hb,szp];exact Qk _
   ·simp only [OA,O5,or_false] at hb;rw [szp,szp];rcases hb with rfl | rfl | rfl
    ·rw [szp];exact QQ _
    ·exact Qt (Qt la)
    ·exact Qt (QQ _)
  ·unfold sizeOk;simp [hp.length_eq];have:WE=4096:=rfl;have:VW=16777216:=by first | rfl | exact Wh
   omega
 ·rw [VI hdr];refine VN (VQ ?_);have e0:s={s with heap:=s.heap,drawn:=s.drawn}:=by cases s;rfl
  show VS _ _ _ _ _ {s with heap:=s.heap,drawn:=s.drawn};refine lastly _ s.heap s.drawn o1 λI h2 e2 eI=>?_;subst e2 eI;have fpa:∀b∈[s.heap.objs.size,a],b=a\/s.heap.objs.size<=b:=λb hb=>by
   simp only [OA,O5,or_false] at hb;rcases hb with rfl | rfl
   ·right;exact Oj _
   ·left;rfl
  have wra:∀b∈[s.heap.objs.size],s.heap.objs.size<=b:=λb hb=>by rw [OO] at hb;rw [hb];exact Oj _
  have fpl:∀(ob:Obj),∀b∈[s.heap.objs.size,a],b < (s.heap.push ob).objs.size:=λob b hb=>by
   rw [szp];simp only [OA,O5,or_false] at hb;rcases hb with rfl | rfl
   ·exact QQ _
   ·exact Qt la
  cases hb:fK w with
  | true=>
   have pm:=IQ (w.params.setOrder a ep) es;obtain⟨ss2,q3,q4⟩:=u7 (pm.map (·.2)) s1;have lp:((Xi (w.params.setOrder a ep) es).toList.map (·.2)).length=es.size:=by rw [Of,pm.length_eq,OU]
   refine q _ _ s.drawn _ _ _ es.size _ (λb u e=>Oo _ e) ⟨ss2,q3,q4.trans s2⟩ ln
    (A1 hh _ n0 d1 f1 _ lp (λ_=>0) (λs i hi E' Q' g z=>AX hb g d1 f1 ?_) (λs E' Q' g z=>AX hb g d1 f1 ?_)) ⟨⟨_,OR _ rfl,rfl,rfl⟩,Oo _ o1⟩ fpa wra lp (fpl _)
   ·have hi':i < (Xi (w.params.setOrder a ep) es).size:=by rw [<-OU,<-Of (f:=(·.2))];exact hi
    rw [RG hi'];simpa using z
   ·have:(Xi (w.params.setOrder a ep) es).size=es.size:=by rw [<-OU,pm.length_eq,OU]
    rw [T8 VH];exact z
  | false=>
   have hled:t.led=true:=by
    rcases l1 with l1 | l1
    ·rw [hb] at l1;cases l1
    ·exact l1
   have hcd:(!t.plain && decide (es.size > 1))=false:=by
    cases hx:(!t.plain && decide (es.size > 1)) with
    | false=>rfl
    | true=>exfalso;apply hdr;rw [hb,hx];rfl
   have hpl:t.place.size=es.size:=by
    simp only [SetTable.fits,Pw,beq_iff_eq] at f1;exact f1.1
   have lp:(es.toList.map (·.2)).length=es.size:=by rw [Of,OU]
   have bel:∀i,i<=es.size->Qg t.place (if i=0 then 0 else t.place.getD (i - 1) 0+1)=i:=λi hi=>by
    by_cases h0:i=0
    ·rw [VJ h0,Jy p1.ris,h0]
    ·rw [VI h0];have hlt:i - 1 < t.place.size:=VH
     have eg:t.place.getD (i - 1) 0=t.place[i - 1]:=by simp [RF,hlt]
     rw [eg,Jx p1.ris hlt];omega
   refine q _ _ s.drawn _ _ _ es.size _ (λb u e=>Oo _ e) ⟨ss',s1,s2⟩ ln
    (A1 hh _ n0 d1 f1 _ lp (λi=>if i=0 then 0 else t.place.getD (i - 1) 0+1) (λs i hi E' Q' g z=>Bp hb g d1 f1 hcd hled ?_) (λs E' Q' g z=>Bp hb g d1 f1 hcd hled ?_)) ⟨⟨_,OR _ rfl,rfl,rfl⟩,Oo _ o1⟩ fpa wra lp (fpl _)
   ·have hi':i < es.size:=by rw [<-lp];exact hi
    rw [bel i VH];have h1:es[i]?=some es[i]:=by simp [hi']
    have h2:t.place[i]?=some (t.place[i]'VH):=by simp [show i < t.place.size by omega]
    rw [h1,h2];have eg:t.place.getD (i+1 - 1) 0=t.place[i]'VH:=by simp [RF,show i < t.place.size by omega]
    rw [VI VH,eg] at z;simpa using z
   ·rw [bel es.size (Oj _)];rw [T8 VH];exact z
end
open PySem PySem.Spec PyProof.Rows PySem.W PySem.Calls
section
variable {P:VY} {w:VZ} {A:V2} {E:VM->VP->Prop} {s:VP} {a:VO}
theorem JI{ss:List Int}{R:Result->VP->Prop}(hh:A.handled=none)(hS:cI P w s.heap a ss)(S:VO)(hSa:S≠a)(res:VM)(c₀:Nat)(l1:s.heap.get? S=some {cls:= .type "list",data:= .seq #[] c₀})(hn:ss.length<=4096)
 (hR:∀h' tk d acc c',(∀b u,b≠S->s.heap.get? b=some u->h'.get? b=some u)->h'.get? S=some {cls:= .type "list",dict:=none,data:= .seq acc c',slots:=#[]}->(∃ss',We acc.toList ss'/\ss'.Perm ss)->R (.ok (.ret res)) {s with heap:=h',toks:=tk,drawn:=d}):
 VS (VU P w) A.in1 (Tc (.ref S) (.ref a) res)
  (λfin s'=>match fin with | .done f=>R (.ok f) s' | .again c'=>c'.quiet=true/\WA (VU P w) A c' R s') (λe s'=>R (.error e) s') s:=by
 obtain⟨o,o1,x1,rest⟩:=id hS;have hT:s.TypeIs (.ref a) "set":=⟨o,o1,x1.1⟩;have lS:S < s.heap.objs.size:=OJ l1;unfold Tc;refine VN (W7 hT ?_);have e1:TM (.ref S) (.ref a)=false:=by simp [TM,hSa]
 have e2:(R6 "set"==R6 "list")=false:=VG
 have e3:(R6 "set"==R6 "tuple")=false:=VG
 simp only [e1,e2,e3,QE,PR,if_false];refine VN (JH (A:=A.in1) hh hS λI h1 d1 vs fp wr n St k1 sv en W st hf hw hlv hfl=>?_);have nf:S ∉ fp:=λz=>by
  rcases hf S z with e | e
  ·exact hSa e
  ·exact absurd lS (Nat.not_lt.mpr e)
 have key:∀(h:V0)(c₁ tk:Nat),St 0 h->(∀b u,b≠S->s.heap.get? b=some u->h.get? b=some u)->
  h.get? S=some {cls:= .type "list",data:= .seq #[] c₁}->WA (VU P w) A (.builtin "list.extend.loop" ⟨[.ref S,.ref I,res],[]⟩) R {s with heap:=h,toks:=tk,drawn:=d1}:=by
  intro h c₁ tk hst hk g;refine codeAny_extend_loopS W.toS (O6 (by omega:n<=4096) VG) S nf res n 0 _ #[] c₁ rfl (Pe _) hst g (ItemsOf.nil _) λs' acc c' m gq hacc=>?_;obtain⟨h',g',d',tk',os'⟩:=s';obtain rfl:g'=s.gens:=m.gens;obtain rfl:d'=d1:=m.drawn;obtain rfl:os'=s.os:=m.os;refine hR h' tk' d' acc c' (λb u hb e=>m.heap b u (λz=>?_) (hk b u hb e)) gq ?_
  ·rcases OA.mp z with e' | z
   ·exact hb e'
   ·exact absurd (OJ e) (Nat.not_lt.mpr (hw b z))
  ·have ea:acc.toList=vs:=by
    apply List.ext_getElem?;intro i;rcases QL i n with z | z
    ·have hz:i < acc.size:=by rw [hacc.1];exact z
     have:acc[i]?=some acc[i]:=RG hz;rw [SU,this,hacc.2 i _ this]
    ·rw [Qm (by rw [OU,hacc.1];exact z),Qm VH]
   rw [ea];exact sv
 have g1:=k1 S _ l1;refine VN (Wf (IZ (s:={s with heap:=h1,drawn:=d1}) ⟨o,k1 a o o1,x1.1⟩ ?_));refine W9 (λ_=>?_) (λ_=>VQ ⟨WV Tz _,key _ c₀ _ st (λb u _ e=>k1 b u e) g1⟩);refine VN (W5 (VN ?_));show VS _ _ (updateSeq S (·.push .none) >>=λ_=>updateSeq S (·.pop)) _ _ {s with heap:=h1,drawn:=d1};refine VN (wpAny_updateSeq g1 rfl ?_);have g2:=Qx (PY (·.push QY)) g1 rfl;refine wpAny_updateSeq (hz:=by seq_fits) g2 rfl ?_;have g3:=Qx (PY (·.pop)) g2 rfl;refine VQ ⟨WV Tz _,key _ _ _ (W.frame 0 _ _ st λb hb u e=>?_) (λb u hb e=>?_) g3⟩
 ·have hbS:b≠S:=λz=>nf (z▸hb);exact(Ri _ _ (Ne.symm hbS)).trans ((Ri _ _ (Ne.symm hbS)).trans e)
 ·exact(Ri _ _ (Ne.symm hb)).trans ((Ri _ _ (Ne.symm hb)).trans (k1 b u e))
theorem JJ{ss:List Int}{R:List VM->VP->Prop}(hh:A.handled=none)(hS:cI P w s.heap a ss)(hn:ss.length<=4096)
 (h:∀(h':V0) (tk:Nat) (d:Drawn) (vs:List VM),(∀b u,s.heap.get? b=some u->h'.get? b=some u)->(∃ss',We vs ss'/\ss'.Perm ss)->R vs {s with heap:=h',toks:=tk,drawn:=d}):
 VS (VU P w) A (collect (.ref a)) R E s:=by
 have la:a < s.heap.objs.size:=by obtain⟨o,o1,_⟩:=id hS;exact OJ o1
 unfold collect;refine VN (wpAny_runValue (WD entry_proto_collect' ?_));rw [RE PySem.F.plain_proto_collect _];refine VN (m:=newList []) (V7 ?_);refine VQ ⟨WV TY _,WD entry_list_iadd' ?_⟩;rw [RE TY _];have g1:(s.heap.push {cls:= .type "list",data:= .seq ([]:List VM).toArray}).get? s.heap.objs.size=some {cls:= .type "list",data:= .seq #[]}:=OR _ rfl;have key:=JI (A:=A) (s:={s with heap:=s.heap.push {cls:= .type "list",data:= .seq ([]:List VM).toArray}})
  (R:=λ(q:Result) (s':VP)=>∃(h':V0)(tk:Nat)(d:Drawn)(acc:Array VM)(c':Nat),q= .ok (.ret (.ref s.heap.objs.size))/\s'={s with heap:=h',toks:=tk,drawn:=d}/\
   (∀b u,s.heap.get? b=some u->h'.get? b=some u)/\h'.get? s.heap.objs.size=some {cls:= .type "list",dict:=none,data:= .seq acc c',slots:=#[]}/\(∃ss',We acc.toList ss'/\ss'.Perm ss))
  hh (hS.stay λu e=>Oo _ e) s.heap.objs.size (R0 la) (.ref s.heap.objs.size) 0 g1 hn
  (λh' tk d acc c' hk g' hacc=>⟨h',tk,d,acc,c',rfl,rfl,λb u e=>hk b u (OV (OJ e)) (Oo _ e),g',hacc⟩)
 refine Wa key (λfin s' x=>?_) λe s' x=>?_
 ·cases fin with
  | done f=>
   obtain⟨h',tk,d,acc,c',e,rfl,hk,g',hacc⟩:=x;cases e;exact VN (m:=load s.heap.objs.size) (wpAny_load g' (VQ (h h' tk d acc.toList hk hacc)))
  | again c₁=>
   refine⟨x.1,Ww x.2 λq s₂ y=>?_⟩;obtain⟨h',tk,d,acc,c',rfl,rfl,hk,g',hacc⟩:=y;exact VN (m:=load s.heap.objs.size) (wpAny_load g' (VQ (h h' tk d acc.toList hk hacc)))
 ·obtain⟨_,_,_,_,_,e',_⟩:=x;cases e'
theorem JK{ss:List Int}{Q:VM->VP->Prop}(hh:A.handled=none)(hS:cI P w s.heap a ss)(hn:ss.length < 64)
 (h:∀(h' h2:V0) (tk:Nat) (d:Drawn) (out:Array VM) (e:Nat) (ss':List Int),(∀b o,s.heap.get? b=some o->h'.get? b=some o)->(∀b o,h'.get? b=some o->h2.get? b=some o)->h2.get? h'.objs.size=some (V4 "list" out e)->We out.toList ss'->ss'.Perm ss->ss'.Pairwise (·<=·)->Q (.ref h'.objs.size) {s with heap:=h2,toks:=tk,drawn:=d}):
 VS (VU P w) A (call (.builtin "sorted") [.ref a]) Q E s:=by
 refine Sm kind_sorted plain_sorted entry_sorted (args_sorted1 _) ?_;unfold Builtin.«sorted»;refine VN (m:=checkCount "sorted" 1 1 _) (VQ ?_);refine VN (JJ (A:=A.in1) hh hS VH λh' tk d vs hk ⟨s1,sv,sp⟩=>?_);have hl:vs.length=ss.length:=by rw [tm sv,sp.length_eq]
 refine VN (WK ?_);have hoL:(h'.push (V4 "list" vs.toArray 0)).get? h'.objs.size=some (V4 "list" vs.toArray 0):=OR _ rfl;refine VN (Wf (Wc Xb ⟨_,hoL,rfl⟩ Xa (list_sort_tree (s:={s with heap:=h'.push (V4 "list" vs.toArray 0),toks:=tk,drawn:=d}) hoL sv VH λout ss' h1 h2 h3=>?_) (args_list_sort _)));obtain⟨e,he⟩:=sortedHeap_at (n:=0) (vs:=vs) (out:=out) hoL;refine⟨_,rfl,VQ ⟨_,rfl,h h' _ tk d _ e ss' hk (λb o q=>?_) he h1 (h2.trans sp) h3⟩⟩;have hlt:b < h'.objs.size:=OJ q;rw [sortedHeap_old (OV hlt) (by rw [size_push'];exact Qt hlt),UJ _ _ _ (OV hlt)];exact q
end
open PySem PySem.Spec PyProof.Rows PySem.W PySem.Calls
def wZ(P:VY)(w:VZ)(a:VO)(ss:List Int):HO:= .ext λh=>cI P w h a ss
theorem Bq:∀{vs:List VM}{ss:List Int},We vs ss->aK (ss.map V.int) vs
 | _,_,.nil=>.nil
 | _,_,.cons y t r=>.cons ⟨t,rfl⟩ (Bq r)
theorem JL{X:Cx}:eF X (.type "set") (λxs H Q=>X.calm=true/\∃(p:VO)(ss:List Int),xs=[.ref p]/\bg X.K H p (ss.map V.int)/\ss.length < 4000/\∀l,H l=none->Q (.ref l) (ai H l (wZ X.prog X.w l (ss.foldl dR [])))):=by
 intro pins s σ H xs us Q I r h;obtain⟨hc,p,ss,rfl,hq,h64,q⟩:=h;obtain⟨u,rfl,rx⟩:=fD r;cases rx;obtain⟨its,rv,pl,hz⟩:=I.list hq;have hlen:=rv.length;rw [Of] at hlen;refine JG (I.ok.hd hc) pl.isList (by simpa using A2 rv) (by have:WE=4096:=rfl;simp;omega) λh' tk S' k'=>?_;refine⟨.ref _,_,I.laid (t':=tk) (o:=wZ X.prog X.w _ (ss.foldl dR [])) k' (Oj _) ?_,rfl,q _ (I.hok.fresh (Oj _))⟩;obtain⟨o,e,_⟩:=id S';exact⟨S',⟨o,e⟩,λh1 h2 x k=>x.stay k⟩
theorem JM{X:Cx}:eF X (.builtin "sorted") (λxs H Q=>X.calm=true/\∃(a:VO)(ss:List Int),xs=[.ref a]/\H a=some (wZ X.prog X.w a ss)/\ss.length < 64/\∀(ns:List Int)(l:VO),ns.Perm ss->ns.Pairwise (·<=·)->H l=none->Q (.ref l) (ai H l (.lst (ns.map V.int)))):=by
 intro pins s σ H xs us Q I r h;obtain⟨hc,a,ss,rfl,ha,h64,q⟩:=h;obtain⟨u,rfl,rx⟩:=fD r;cases rx;obtain⟨hS,_⟩:=I.hok a _ ha;refine JK (I.ok.hd hc) hS h64 λh' h2 tk d out e ss' k1 k2 at2 s1 s2 s3=>?_;have hl2:ss'.length=ss.length:=s2.length_eq;have I1:af X pins σ H {s with heap:=h',toks:=tk,drawn:=d}:=(I.kept (t':=tk) k1).drw;refine⟨.ref _,_,I1.laid (t':=tk) (o:= .lst (ss'.map V.int)) k2 (Oj _) ?_,rfl,q ss' _ s2 s3 (I1.hok.fresh (Oj _))⟩;refine⟨by rw [Of,hl2];exact O6 (Rj h64) VG,out.toList,e,Bq s1,?_⟩;rw [at2]
section
variable {X:Cx} {H0:Hp} {O0:Ex}
def lK(t:DA):DA:=λδ Q=>t δ λds=>∃ss:List Int,ds=[.list (ss.map .int)]/\ss.length < 4000/\(ss.foldl dR []).length < 64/\∀ns:List Int,(∀z,z∈ns↔z∈ss)->ns.Pairwise (· < ·)->Q (ns.map .int)
theorem JN{a:VV}{t:DA}{np p np' p':Pos}(hc:X.calm=true)(hg:Gl X "sorted")(hm:X.mg "sorted"=none)(hv:V9 "sorted"=some (.builtin "sorted"))(hg':Gl X "set")(hm':X.mg "set"=none)(ha:PA X [a] (gI X.K H0 O0 t))
 (he:VT [a] X.env=(false,eval a X.env)::VT [] X.env:=by rfl)(hpl:(V5 p' (VT [] X.env)).any (·.1)=false:=by rfl)
 (he':VT [.Call (.Name "set" np') [a] [] p'] X.env=(false,eval (.Call (.Name "set" np') [a] [] p') X.env)::VT [] X.env:=by rfl)(hpl':(V5 p (VT [] X.env)).any (·.1)=false:=by rfl):
 FE X H0 O0 (.Call (.Name "sorted" np) [.Call (.Name "set" np') [a] [] p'] [] p) (lK t):=
 (dq JM hg hm hv (e7 (dA JL hg' hm' I0 ha (he:=he) (hpl:=hpl)) iO he') (he:=he') (hpl:=hpl')).imp λσ H Q ⟨O,δ,Qd,w,q,k⟩=>⟨O,δ,_,w,q,λds vs H1 uu19 s1 r1=>by
  obtain⟨ss,e,h64,hl,q1⟩:=uu19;subst e;cases r1 with
  | cons h r=>
   cases r;obtain⟨a,us,rfl,h1,d1⟩:=h.lst;cases d1.intsL;refine⟨hc,a,ss,rfl,h1,h64,λl hl'=>⟨hc,l,_,rfl,bh,hl,λns l2 hp hs hl2=>?_⟩⟩;refine k _ _ _ _ (q1 ns (λz=>?_) ?_) (s1.trans (aw.new hl')) hl2 (aj.ofInts _)
   ·rw [hp.mem_iff,wX];simp
   ·have nd:ns.Nodup:=hp.nodup_iff.mpr (wY .nil);exact(List.Pairwise.and hs nd).imp λ{a b} z=>by
     obtain⟨z1,z2⟩:=z;omega⟩
end
open PySem PySem.Spec PyProof.Rows PySem.W PySem.Calls
def xa(K:Oe)(a:VO):It:=
 ⟨λi H=>∃xs x,bg K H a xs/\xs[i]?=some x,λi H x H'=>∃p v,H p=none/\x= .ref p/\H'=ai H p (.tup [.int (i:Int),v])/\∀xs,bg K H a xs->xs[i]?=some v,λi H=>∃xs,bg K H a xs/\xs.length<=i⟩
theorem JO{P:VY}{w:VZ}{K:Oe}{elts:List VV}{k0}{pos:Pos}(a it e:VO)(hei:e≠it):qX P w K (.Tuple elts k0 pos) (xa K a) [e,it] e (λi h=>(∃old,IsEnum h e it (i:Int) old)/\h.IsListIter it a i) where
 mem:=by simp
 obj:=λi h st b hb=>by
  simp only [OA,O5,or_false] at hb;obtain⟨⟨old,he⟩,o,eo,c,d⟩:=st;rcases hb with rfl | rfl
  ·exact⟨_,he,λv z=>by cases z⟩
  ·exact⟨o,eo,λv z=>by rw [d] at z;cases z⟩
 keep:=λi h h' st k=>⟨let ⟨old,he⟩:=st.1;⟨old,k e (by simp) _ he⟩,st.2.at λo q=>k it (by simp) o q⟩
 item:=by
  intro X hP hw hK hc i pins s σ H E I hf st hg;subst hP hw hK;obtain⟨xs,x,hq,hx⟩:=hg;obtain⟨its,rv,p,hz⟩:=I.list hq;obtain⟨u,hu,ru⟩:=rv.get hx;obtain⟨⟨old,he⟩,hit⟩:=st;refine wpAny_pyNext_enum_item he hit p.isList (x:=u) (by simpa using hu) hei λh' ho hit' hT hsz hk=>?_;have hT0:H s.heap.objs.size=none:=I.hok.fresh (Oj _);have lte:e < s.heap.objs.size:=OJ he;have lti:it < s.heap.objs.size:=by obtain⟨_,q,_⟩:=hit;exact OJ q
  have I1:af X pins σ (ai H s.heap.objs.size (.tup [.int (i:Int),x])) {s with heap:=h',toks:=s.toks+1}:=by
   refine I.track (t':=s.toks+1) (ch:=[s.heap.objs.size,e,it]) (by simp) (λb hb=>?_) (λb v hb q=>hk b v (λz=>hb (by simp [z])) (λz=>hb (by simp [z])) q) ?_
   ·rcases OA.mp hb with z | z
    ·rw [z];exact I.fpOk (Oj _) hT0
    ·exact hf b z
   ·exact⟨by rw [Wh,Oz,Oz,Pn];decide,[.int (i:Int) s.toks,u],.cons ⟨_,rfl⟩ (.cons ru .nil),_,hT,rfl,0,rfl⟩
  refine⟨_,rfl,wpAny_letOwnedTupleGo_enum ho λh2 he2 sb=>?_⟩;obtain⟨f0,f1,f2,f3,f4,f5⟩:=hf e (by simp);have ne:s.heap.objs.size≠e:=R0 lte;have I2:af X pins σ (ai H s.heap.objs.size (.tup [.int (i:Int),x])) {s with heap:=h2,toks:=s.toks+1}:=I1.turned (t':=s.toks+1) (λb o hb q=>(sb.2 b hb).trans q) (by rw [az (Ne.symm ne)];exact f0) f1 f3 f4 f5;refine⟨.ref s.heap.objs.size,_,I2,rfl,⟨_,x,hT0,rfl,rfl,λys hy=>by rw [I.list_inj hy hq];exact hx⟩,⟨⟨_,by simpa using he2⟩,hit'.at λo q=>(sb.2 it (Ne.symm hei)).trans q⟩,λb hb=>?_⟩;rw [az λz=>?_]
  ·exact(hf b hb).1
  ·simp only [OA,O5,or_false] at hb;rcases hb with y | y
   ·rw [<-z,y] at lte;exact QO _ lte
   ·rw [<-z,y] at lti;exact QO _ lti
 done:=by
  intro X hP hw hK hc i pins s σ H E I hf st hg;subst hP hw hK;obtain⟨xs,hq,hx⟩:=hg;obtain⟨its,rv,p,hz⟩:=I.list hq;obtain⟨⟨old,he⟩,hit⟩:=st;obtain⟨f0,f1,f2,f3,f4,f5⟩:=hf it (by simp);have hl:=rv.length;exact wpAny_pyNext_enum_end (I.ok.hd hc) he hit p.isList (by simp;omega) λh' eb=>⟨rfl,I.turned (t':=s.toks) (λb o hb e=>eb b o hb e) f0 f1 f3 f4 f5⟩
 self:=λA i s Q E st h=>by
  obtain⟨⟨old,he⟩,_⟩:=st;exact wpAny_pyIter_enum he h
def JP(K:Oe)(ta:TA):TI:=λσ H R=>ta σ H λvs H1=>∃a xs,vs=[.ref a]/\Rd H1 a (.lst xs)/\R (xa K a) H1
theorem JQ{X:Cx}{elts:List VV}{k0}{tp:Pos}{a:VV}{ta:TA}{p pos:Pos}(hg:Gl X "enumerate")(hm:X.mg "enumerate"=none)(ha:PA X [a] ta)(hs:VT [a] X.env=[(false,eval a X.env)]:=by rfl):PI X (.Tuple elts k0 tp) (.Call (.Name "enumerate" p) [a] [] pos) (JP X.K ta):=by
 intro pins s σ H R I h;refine Call_ (qW I hg hm boot_enumerate (Rk (aB (ha pos pins s σ H _ I h) λus s1 ⟨vs,H1,I1,r1,q1⟩=>?_) hs rfl));obtain⟨b,xs,e,hr,q⟩:=q1;subst e;cases r1 with
 | cons r rr=>
  cases rr;cases r;have ho:∃(its:List VM)(n:Nat),s1.heap.get? b=some {cls:= .type "list",dict:=none,data:= .seq its.toArray n,slots:=#[]}:=by
   rcases hr with hr | ⟨o,hr⟩
   ·obtain⟨_,its,n,_,z⟩:=I1.hok b _ hr;exact⟨its,n,z⟩
   ·obtain⟨_,_,its,n,_,z⟩:=I1.hok b _ hr;exact⟨its,n,z⟩
  obtain⟨its,n,ho⟩:=ho;refine call_enumerate_1 ho λh' he hit hsz hk=>wpAny_pyIter_enum he ?_;have I2:af X pins σ H1 {s1 with heap:=h'}:=I1.kept (t':=s1.toks) hk;refine⟨s1.heap.objs.size+1,[s1.heap.objs.size+1,s1.heap.objs.size],_,_,H1,rfl,I2,JO b s1.heap.objs.size (s1.heap.objs.size+1) (R0 (QQ _)),⟨⟨_,he⟩,hit⟩,λc hc=>?_,q⟩;simp only [OA,O5,or_false] at hc;rcases hc with rfl | rfl
  ·exact I1.fpOk (Qk _) (I1.hok.fresh (Qk _))
  ·exact I1.fpOk (Oj _) (I1.hok.fresh (Oj _))
def iu:Nat->List VL->List VL
 | _,[]=>[]
 | k,x::r=>.tuple [.int (k:Int),x]::iu (k+1) r
theorem xb:∀(k:Nat)(xs:List VL),(iu k xs).length=xs.length
 | _,[]=>rfl
 | k,x::r=>by rw [iu,Oz,xb,Oz]
theorem xc:∀(k:Nat)(xs:List VL)(i:Nat),(iu k xs)[i]?=(xs[i]?).map λx=>.tuple [.int ((k+i:Nat):Int),x]
 | _,[],i=>by simp [iu]
 | k,x::r,0=>by simp [iu]
 | k,x::r,i+1=>by
  rw [iu,Po,Po,xc (k+1) r i,show k+1+i=k+(i+1) by omega]
open PySem PySem.Spec PyProof.Rows PySem.W PySem.Calls
def xf(c:Int->Int->Prop):R2:=λx y H Q=>∃i j,x= .int i/\y= .int j/\c i j/\∀r:Int,Q (.int r) H
theorem Br{X:Cx}:bH X (Wm .RShift) (xf λ_ j=>0<=j):=by
 intro pins s σ H x y v u Q I rx ry h;obtain⟨i,j,rfl,rfl,c,q⟩:=h;obtain⟨t,rfl⟩:=rx;obtain⟨t',rfl⟩:=ry;by_cases hb:j >= ((Qb i:Nat):Int)
 ·exact PySem.AutoIntOps.rshift_1 VH hb ⟨.int _,H,I.tok _,⟨_,rfl⟩,q _⟩
 ·exact PySem.AutoIntOps.rshift_2 VH hb ⟨.int _,H,I.tok _,⟨_,rfl⟩,q _⟩
theorem Bs{X:Cx}:bH X (Wm .BitAnd) (xf λ_ _=>True):=by
 intro pins s σ H x y v u Q I rx ry h;obtain⟨i,j,rfl,rfl,c,q⟩:=h;obtain⟨t,rfl⟩:=rx;obtain⟨t',rfl⟩:=ry;exact and_int ⟨.int _,H,I.tok _,⟨_,rfl⟩,q _⟩
def lL(c:Int->Int->Prop):VL->VL->(VL->Prop)->Prop:=λx y Q=>∃i j:Int,x= .int i/\y= .int j/\c i j/\∀r:Int,Q (.int r)
theorem u9{K:Oe}{c:Int->Int->Prop}:cu K (xf c) (lL c):=λH O x y dx dy Qd R tr hx hy uu21 k=>by
 obtain⟨i,j,e1,e2,h,q⟩:=uu21;subst e1 e2;cases hx.int;cases hy.int;exact⟨i,j,rfl,rfl,h,λr=>k _ _ H (q r) (aw.refl _) (.int _)⟩
def JR:V->List V->Hp->VK->Prop:=λx vs H Q=>∃l b xs zs,x= .ref l/\vs=[.ref b]/\H l=some (.lst xs)/\Rd H b (.lst zs)/\xs.length+zs.length<=VW/\Q .non (ai H l (.lst (xs++zs)))
theorem JS{X:Cx}:wc X "list.extend" JR:=by
 intro pins s σ H x vs v us Q I rx rv h;obtain⟨l,b,xs,zs,rfl,rfl,hH,hB,hz,q⟩:=h;cases rx;obtain⟨u,rfl,ru⟩:=rv.one;cases ru;obtain⟨z,its,n,r,hl,e⟩:=I.lstM hH;obtain⟨z2,its2,n2,r2,e2⟩:=hB.ok I.hok;have hl2:=r2.length;have hsz:its.toArray.size+its2.toArray.size<=VW:=by rw [OI,OI];omega
 have hlong:¬(!its.toArray.isEmpty && RJ (its.toArray.size+its2.toArray.size))=true:=by
  rw [zO hsz,Vb];exact OF
 refine WT Sx ⟨_,e,rfl⟩ PySem.F.entry_list_extend (PySem.F.args_list_extend_2 _ _)
  (SO l its.toArray n b its2.toArray n2 hlong (by rw [OI];omega) VH) ⟨e,e2,?_⟩
 refine⟨.non,_,I.lset (its':=its++its2) hH e (by simp) (r.append r2) ?_,rfl,q⟩;rw [OH];omega
section
variable {X:Cx} {H0:Hp} {O0:Ex}
def lM(i:Nat)(t:DT):DS:=λE δ=>∃ds,δ[i]?=some (some (.o ds))/\t δ λd=>∃es,d= .list es/\ds.length+es.length<=VW/\E.nx (δ.set i (some (.o (ds++es))))
theorem xh{i:Nat}{o e:VV}{t:DT}{apos cpos pos:Pos}(ho:PE X o (cJ i))(he:DE X H0 O0 e t)(hbase:Wi o "extend" X.env (eval o X.env)=eval o X.env:=by rfl)
 (hfew:((V5 cpos (VT [e] X.env)).all (λx=>!x.1) && (Wv cpos (Wl [] X.env)).all (λx=>x.1.isSome) && decide ([e].length+([]:List WB).length+(if ([]:List WB).isEmpty then 0 else 1) < 30))=true:=by rfl)
 (hline:(apos.endLine==cpos.line)=true:=by rfl)(hst:VT [e] X.env=(false,eval e X.env)::VT [] X.env:=by rfl)(hplain:(V5 cpos (VT [] X.env)).any (·.1)=false:=by rfl)
 (hs:V6 (.Call (.Attribute o "extend" apos) [e] [] cpos) none pos.line X.env=pure false:=by rfl):PS X (.Expr (.Call (.Attribute o "extend" apos) [e] [] cpos) pos) (bo X.K H0 O0 (lM i t)):=
 (tQ (wb SF Sx TL JS ho (e7 he iO hst) hbase hfew hline hst hplain) hs).imp λD σ H uu22=>by
  obtain⟨O,δ,E,w,⟨ds,e,q⟩,k1,k2,k3,k4⟩:=uu22;obtain⟨l,vs,h,a,b,c,r⟩:=w.own e;refine⟨_,h,.inl ⟨rfl,_,bg.of c⟩,O,δ,_,w,q,λd v H1 ⟨es,ed,q1,q2⟩ s1 r1=>?_⟩;subst ed;have hl:H1 l=some (.lst vs):=s1 _ _ c;cases r1 with
  | lst h1 n r1=>
   refine⟨l,_,vs,_,rfl,rfl,hl,h1,by rw [r.length,r1.length];exact q1,?_⟩;exact k1 _ _ _ _ q2 ((w.mono s1).putO (vs:=vs) e h ((r.mono s1).append r1)) ⟨λb' o' z n=>by rw [az (λy=>n (by rw [y];exact a))];exact s1 _ _ z,λ_ _ n=>n⟩
end
section
variable {X:Cx} {H0:Hp} {O0:Ex}
theorem Bt{i:Nat}{x:Str}{e:VV}{t:DA}{pos pos':Pos}(hN:X.N.Nodup)(hi:X.N[i]?=some x)(hx:gC X.env.scope x)(he:PU X e (qx X.K H0 O0 t))(hs:V6 e (some (.Name x pos')) pos.line X.env=pure true:=by rfl)(hf:X.fn x=true\/X.env.scope.names.lookup x=some .local:=by first | exact .inl rfl | exact .inr rfl | assumption):
 PS X (.Assign [.Name x pos'] e pos) (bo X.K H0 O0 (h7 i t)):=
 (he _ _ _ _ hN hi hx hs hf).imp λD σ H ⟨O,δ,E,w,q,k1,k2,k3,k4⟩=>⟨O,δ,_,w,q,λds vs p H1 q1 s1 hp r1=>k1 _ _ _ _ q1 ((w.mono s1).setO hp r1)
  ⟨λb o e _=>(s1.trans (aw.new hp)) b o e,λb e n z=>z.elim n λy=>by
   cases q:H b with
   | none=>exact e q
   | some o=>have:=s1 _ _ q;rw [y,hp] at this;cases this⟩⟩
end
end L2
namespace Day
def rE(y:Int):Bool:=decide (y % 400=0) || (decide (y % 4=0) && !decide (y % 100=0))
def ld(y:Int):Int:=if rE y=true then 1 else 0
def Bu:List Int:=[31,28,31,30,31,30,31,31,30,31,30,31]
def rF(y m:Int):Int:=if m=2/\rE y=true then 29 else Bu.getD (m - 1).toNat 0
def lb(y:Int):Int:=(y - 1)/ 4 - (y - 1)/ 100+(y - 1)/ 400
def JT(y:Int):Int:=365*(y - 2000)+lb y - lb 2000
def JU(y m:Int):Int:=((Qa (m - 1).toNat).map λ(i:Nat)=>rF y (1+(i:Int))).sum
def JV(y m n:Int):Int:=JT y+JU y m+n - 1
theorem Bv(y:Int):rE y=true↔(y % 400=0\/(y % 4=0/\y % 100≠0)):=by
 unfold rE;simp
theorem JW(y:Int):rF y 2=28+ld y:=by
 unfold rF ld;by_cases h:rE y=true
 ·rw [VJ ⟨rfl,h⟩,VJ h];rfl
 ·rw [VI (λz=>h z.2),VI h];rfl
theorem JX{y m:Int}(h:m≠2):rF y m=Bu.getD (m - 1).toNat 0:=by
 unfold rF;rw [VI (λz=>h z.1)]
theorem JY{m:Int}(h1:1<=m)(h2:m<=12):m=1\/m=2\/m=3\/m=4\/m=5\/m=6\/m=7\/m=8\/m=9\/m=10\/m=11\/m=12:=VH
theorem length_eq(y m:Int)(h1:1<=m)(h2:m<=12):(if m=2/\(y % 4≠0\/(y % 100=0/\y % 400≠0)) then(28:Int) else [31,29,31,30,31,30,31,31,30,31,30,31].getD (m - 1).toNat 0)=rF y m:=by
 by_cases h:m=2
 ·subst h;rw [JW];unfold ld;by_cases l:rE y=true
  ·rw [VJ l,VI (by have:=(Bv y).mp l;omega)];rfl
  ·rw [VI l,VJ (by have:=mt (Bv y).mpr l;omega)];rfl
 ·rw [JX h,VI (λz=>h z.1)];rcases JY h1 h2 with z | z | z | z | z | z | z | z | z | z | z | z <;> subst z <;> first | rfl | exact absurd rfl h
end Day
namespace Day
def fst(M:Int):Int:=JV (M / 12) (M % 12+1) 1
def Dn(M n:Int):Int:=fst M+n - 1
end Day
namespace L2
open PySem PySem.Spec PyProof.Rows PySem.W
def d2(m:Nat):List Nat:=[48+m / 10,48+m % 10]
def d4(y:Nat):List Nat:=[48+y / 1000,48+y / 100 % 10,48+y / 10 % 10,48+y % 10]
open PySem PySem.Spec PyProof.Rows PySem.W
open PySem PySem.Spec PyProof.Rows PySem.W PySem.Calls
open PySem PySem.Spec PyProof.Rows PySem.W PySem.Calls
section
variable {X:Cx} {H0:Hp} {O0:Ex}
def lN(t:DT):DB:=λδ Q=>t δ λd=>∃ds,d= .list ds/\Q (!ds.isEmpty)
theorem va{e:VV}{t:DT}(h:DE X H0 O0 e t)(he:∀whole,isTrue e X.env whole=(do let v<-whole;W0 e.pos;WR [v] (truthy v)):=by intro _;rfl):PT X e (bK X.K H0 O0 (lN t)):=
 (FQ h he).imp λσ H Q ⟨O,δ,Qd,w,q,k⟩=>⟨O,δ,_,w,q,λd v H' uu26 s r=>by
  obtain⟨ds,e,qb⟩:=uu26;subst e;obtain⟨a,vs,rfl,hs,r⟩:=(Sh.dt r).lst;refine⟨_,.inl ⟨vs,hs,rfl⟩,?_⟩;have:(!vs.isEmpty)=!ds.isEmpty:=by cases r <;> rfl
  rw [this];exact k _ H' qb s⟩
theorem vb{K:Oe}{H:Hp}{O:Ex}{z:Str}:∀{kv:List (ak×V)}{ks:List Str}{ds:List VL},kv.map (·.1)=ks.map P7->aj K H O (kv.map (·.2)) ds->aZ ks ds z=none->dE kv (.inr z)=none
 | [],_,ds,_,_,e=>rfl
 | _::_,[],ds,h,_,_=>by cases h
 | p::kv,k::ks,ds,h,hd,e=>by
  rw [Ol] at hd;cases hd with
  | cons h1 h2=>
   simp only [Ol,Pb] at h;obtain⟨p1,p2⟩:=p;obtain⟨rfl,h⟩:=h;unfold aZ at e;by_cases hk:k=z
   ·rw [VJ hk] at e;cases e
   ·rw [VI hk] at e;rw [rA (λq=>hk (i5.mp q))];exact vb h h2 e
def lO(to tk:DT):DT:=λδ Q=>to δ λx=>∃ks ds,x=fM ks ds/\tk δ λy=>∃z,y= .str z/\Q ((aZ ks ds z).getD .none)
theorem JZ{o e:VV}{to tk:DT}{apos cpos:Pos}(hu:X.A.units+64 < Wb)(ho:DE X H0 O0 o to)(he:DE X H0 O0 e tk)(m:M1 X o "get" apos e cpos):DE X H0 O0 (.Call (.Attribute o "get" apos) [e] [] cpos) (lO to tk):=
 (As VH ho he m).imp λσ H Q uu27=>by
  obtain⟨O,δ,Qd,w,q,k⟩:=uu27;refine⟨O,δ,_,w,q,λx vx H1 ⟨ks,ds,ex,q1⟩ s1 r1=>?_⟩;subst ex;cases r1 with
  | @dic a ob kv ks' kp ds h e1 e2 n rr=>
   have ek:ks'=ks:=by
    have:ks'.map Oi=ks.map Oi:=e2.symm;exact rD this
   subst ek;refine⟨a,rfl,.inl ⟨kv,.inr ⟨_,h⟩⟩,O,δ,_,w.mono s1,q1,λy vy H2 ⟨z,ey,q2⟩ s2 r2=>?_⟩;subst ey;cases r2;refine⟨_,cB.z (k:= .inr z) (s2 _ _ h),k _ _ _ q2 (s1.trans s2) ?_⟩;cases hd:aZ ks' ds z with
   | none=>rw [vb e1 rr hd];exact .non
   | some d=>
    obtain⟨v,hv,dv⟩:=tj e1 rr hd;rw [hv];exact dv.mono s2
def lP(to tk tx:DT):DT:=λδ Q=>to δ λx=>∃ks ds,x=fM ks ds/\tk δ λy=>tx δ λu=>∃z,y= .str z/\Q ((aZ ks ds z).getD u)
theorem J0{o e f:VV}{to tk tx:DT}{apos cpos:Pos}(hu:X.A.units+64 < Wb)(ho:DE X H0 O0 o to)(he:DE X H0 O0 e tk)(hf:DE X H0 O0 f tx)(m:M2 X o "get" apos e f cpos):DE X H0 O0 (.Call (.Attribute o "get" apos) [e,f] [] cpos) (lP to tk tx):=
 (HY VH ho he hf m).imp λσ H Q uu30=>by
  obtain⟨O,δ,Qd,w,q,k⟩:=uu30;refine⟨O,δ,_,w,q,λx vx H1 ⟨ks,ds,ex,q1⟩ s1 r1=>?_⟩;subst ex;cases r1 with
  | @dic a ob kv ks' kp ds h e1 e2 n rr=>
   have ek:ks'=ks:=by
    have:ks'.map Oi=ks.map Oi:=e2.symm;exact rD this
   subst ek;refine⟨a,rfl,.inl ⟨kv,.inr ⟨_,h⟩⟩,O,δ,_,w.mono s1,q1,λy vy H2 q2 s2 r2=>?_⟩;refine⟨O,δ,_,(w.mono s1).mono s2,q2,λu vu H3 ⟨z,ey,q3⟩ s3 r3=>?_⟩;subst ey;cases r2;refine⟨_,cB.z (k:= .inr z) (s3 _ _ (s2 _ _ h)),k _ _ _ q3 ((s1.trans s2).trans s3) ?_⟩;cases hd:aZ ks' ds z with
   | none=>rw [vb e1 rr hd];exact r3
   | some d=>
    obtain⟨v,hv,dv⟩:=tj e1 rr hd;rw [hv];exact(dv.mono s2).mono s3
end
open PySem PySem.Spec PyProof.Rows PySem.W PySem.Calls
open PySem PySem.Spec PyProof.Rows PySem.W PySem.Calls
theorem Dt.dicE{K:Oe}{H:Hp}{O:Ex}{v:V}{ks:List Str}{ds:List VL}(h:Dt K H O v (fM ks ds)):∃a ob kv,v= .ref a/\H a=some (.frz ob (.dK kv))/\kv.map (·.1)=ks.map P7/\¬O a/\aj K H O (kv.map (·.2)) ds:=by
 cases h with
 | @dic a ob kv ks' kp ds h e1 e2 n rr=>
  have ek:ks'=ks:=rD e2.symm;subst ek;exact⟨a,ob,kv,rfl,h,e1,n,rr⟩
theorem Bw{K:Oe}{H:Hp}{O:Ex}{z:Str}{kv:List (ak×V)}{ks:List Str}{ds:List VL}(e1:kv.map (·.1)=ks.map P7)(r:aj K H O (kv.map (·.2)) ds):(dE kv (.inr z)).isSome=(aZ ks ds z).isSome:=by
 cases hd:aZ ks ds z with
 | none=>rw [vb e1 r hd];rfl
 | some d=>
  obtain⟨v,hv,_⟩:=tj e1 r hd;rw [hv];rfl
section
variable {X:Cx} {H0:Hp} {O0:Ex}
def gL(neg:Bool)(tk to:DT):DT:=λδ Q=>tk δ λy=>to δ λx=>∃z ks ds,y= .str z/\x=fM ks ds/\Q (.bool (if neg then !(aZ ks ds z).isSome else(aZ ks ds z).isSome))
theorem J1{o e:VV}{tk to:DT}(hu:X.A.units+64 < Wb)(ho:DE X H0 O0 o to)(he:DE X H0 O0 e tk):PC X .In e o (up X.K H0 O0 (gL false tk to)):=λpins s σ H Q I ⟨O,δ,Qd,w,q,k⟩=>
 HQ VH he ho pins s σ H Q I ⟨O,δ,_,w,q,λy uy H2 q2 s2 r2=>⟨O,δ,_,w.mono s2,q2,λx ux H3 uu34 s3 r3=>by
  obtain⟨z,ks,ds,ey,ex,q3⟩:=uu34;subst ey ex;cases r2;obtain⟨a,ob,kv,rfl,h,e1,n,rr⟩:=r3.dicE;exact⟨a,_,rfl,cB.z (k:= .inr z) h,by rw [Bw e1 rr];exact k _ _ _ q3 (s2.trans s3) (.bl _)⟩⟩⟩
theorem J3{o e:VV}{tk to:DT}(hu:X.A.units+64 < Wb)(ho:DE X H0 O0 o to)(he:DE X H0 O0 e tk):PC X .NotIn e o (up X.K H0 O0 (gL true tk to)):=λpins s σ H Q I ⟨O,δ,Qd,w,q,k⟩=>
 Ap VH he ho pins s σ H Q I ⟨O,δ,_,w,q,λy uy H2 q2 s2 r2=>⟨O,δ,_,w.mono s2,q2,λx ux H3 uu36 s3 r3=>by
  obtain⟨z,ks,ds,ey,ex,q3⟩:=uu36;subst ey ex;cases r2;obtain⟨a,ob,kv,rfl,h,e1,n,rr⟩:=r3.dicE;exact⟨a,_,rfl,cB.z (k:= .inr z) h,by rw [Bw e1 rr];exact k _ _ _ q3 (s2.trans s3) (.bl _)⟩⟩⟩
theorem Oc{o e:VV}{tk to:DT}{pos:Pos}(hu:X.A.units+64 < Wb)(ho:DE X H0 O0 o to)(he:DE X H0 O0 e tk)(hm:Wg .In o=false:=by rfl):PT X (.Compare e [.In] [o] pos) (bK X.K H0 O0 (dM (gL false tk to))):=
 (tO (J1 hu ho he) hm).imp λσ H Q uu37=>by obtain⟨O,δ,Qd,w,q,k⟩:=uu37;exact⟨O,δ,_,w,q,λd v H' uu38 s r=>by obtain⟨b,e,qb⟩:=uu38;subst e;cases r;exact⟨b,rfl,k b H' qb s⟩⟩
theorem J4{o e:VV}{tk to:DT}{pos:Pos}(hu:X.A.units+64 < Wb)(ho:DE X H0 O0 o to)(he:DE X H0 O0 e tk)(hm:Wg .NotIn o=false:=by rfl):PT X (.Compare e [.NotIn] [o] pos) (bK X.K H0 O0 (dM (gL true tk to))):=
 (tO (J3 hu ho he) hm).imp λσ H Q uu39=>by obtain⟨O,δ,Qd,w,q,k⟩:=uu39;exact⟨O,δ,_,w,q,λd v H' uu40 s r=>by obtain⟨b,e,qb⟩:=uu40;subst e;cases r;exact⟨b,rfl,k b H' qb s⟩⟩
theorem Bx{X:Cx}{pos:Pos}:PE X (.Dict [] [] pos) (λ_ H Q=>∀p o,H p=none->Q (.ref p) (ai H p (.frz o (.dK [])))):=λpins s σ H Q I h=>by
 have I1:=I.laid (a:=s.heap.objs.size) (o:= .dK []) (t':=s.toks) (λ_ _ q=>Oo _ q) (Oj _) (Aq s.heap I.big);obtain⟨o,I2⟩:=I1.fast bh;rw [E3] at I2;exact wpAny_Dict_empty ⟨.ref s.heap.objs.size,_,I2,rfl,h _ o (I.hok.fresh (Oj _))⟩
end
open PySem PySem.Spec PyProof.Rows PySem.W PySem.Calls
open PySem PySem.Spec PyProof.Rows PySem.W PySem.Calls
mutual
def cC:VL->Bool
 | .list ds=>fy ds
 | .tuple ds=>fy ds
 | .none=>true
 | .bool _=>true
 | .int _=>true
 | .str _=>true
 | _=>false
def fy:List VL->Bool
 | []=>true
 | d::ds=>cC d && fy ds
end
def Gp(C:VO)(H:Hp)(O O1:Ex):Prop:=∀a,O a->O1 a\/(∃o kv,H a=some (.frz o (.dK kv)))\/∃dx fs,H a=some (.ins C dx fs)
theorem Gp.ne{C:VO}{H:Hp}{O O1:Ex}(g:Gp C H O O1){a:VO}{u:HO}(h:Rd H a u)(n:¬O1 a)(h1:∀kv,u≠ .dK kv)(h2:∀dx fs,u≠ .ins C dx fs)(h3:∀o kv,u≠ .frz o (.dK kv)):¬O a:=λz=>by
 rcases g a z with q | ⟨o,kv,q⟩ | ⟨dx,fs,q⟩
 ·exact n q
 ·rcases h with h | ⟨o',h⟩ <;> rw [q] at h <;> cases h
  ·exact h3 _ _ rfl
  ·exact h1 _ rfl
 ·rcases h with h | ⟨o',h⟩ <;> rw [q] at h <;> cases h;exact h2 _ _ rfl
mutual
theorem Dt.cln{K:Oe}{C:VO}{H:Hp}{O O1:Ex}(g:Gp C H O O1):∀{v:V}{d:VL},Dt K H O1 v d->cC d=true->Dt K H O v d
 | _,_,.non,_=>.non
 | _,_,.bl b,_=>.bl b
 | _,_,.int i,_=>.int i
 | _,_,.str x,_=>.str x
 | _,_,.tup h n r,c=>.tup h (g.ne h n (λ_ z=>nomatch z) (λ_ _ z=>nomatch z) (λ_ _ z=>nomatch z)) (aj.cln g r (by simpa [cC] using c))
 | _,_,.tupK h r,c=>.tupK h (aj.cln g r (by simpa [cC] using c))
 | _,_,.lst h n r,c=>.lst h (g.ne h n (λ_ z=>nomatch z) (λ_ _ z=>nomatch z) (λ_ _ z=>nomatch z)) (aj.cln g r (by simpa [cC] using c))
 | _,_,.pack _ _,c=>by simp [cC] at c
 | _,_,.purse _ _,c=>by simp [cC] at c
 | _,_,.dct0 _ _,c=>by simp [cC] at c
 | _,_,.obj _ _ _ _,c=>by simp [cC] at c
 | _,_,.dic _ _ _ _ _,c=>by simp [cC] at c
 | _,_,.scr _ _,c=>by simp [cC] at c
theorem aj.cln{K:Oe}{C:VO}{H:Hp}{O O1:Ex}(g:Gp C H O O1):∀{vs:List V}{ds:List VL},aj K H O1 vs ds->fy ds=true->aj K H O vs ds
 | _,_,.nil,_=>.nil
 | _,_,.cons h r,c=>by
  rw [fy,Pw] at c;exact .cons (Dt.cln g h c.1) (aj.cln g r c.2)
end
def xi(C:VO)(d:VL):Prop:=cC d=true\/∃C' kp ds,C'≠C/\d=fh C' kp ds/\fy ds=true
theorem Dt.clnO{K:Oe}{C:VO}{H:Hp}{O O1:Ex}(g:Gp C H O O1){v:V}{d:VL}(h:Dt K H O1 v d)(c:xi C d):Dt K H O v d:=by
 rcases c with c | ⟨C',kp,ds,ne,rfl,c⟩
 ·exact h.cln g c
 ·generalize e:fh C' kp ds=x at h;cases h with
  | @obj a C2 dx fs kp' ds' h1 h2 n r=>
   simp only [fh,UM,Pb,SK,P0,PV,Ql,and_true,true_and] at e;obtain⟨e1,e2,e3⟩:=e;have e1:C'=C2:=by exact_mod_cast e1
   subst e1 e2 e3;refine .obj h1 h2 ?_ (r.cln g c);exact g.ne (.inl h1) n (λ_ z=>nomatch z) (λ_ _ z=>by cases z;exact ne rfl) (λ_ _ z=>nomatch z)
  | _=>first | cases e | simp [fh] at e
theorem bG.thaw{P:VY}{w:VZ}{H:Hp}{h:V0}(x:bG P w H h){g:VO}{o:Obj}{kv:List (ak×V)}(e:H g=some (.frz o (.dK kv))):bG P w (ai H g (.dK kv)) h:=λb u q=>by
 by_cases hb:b=g
 ·subst hb;rw [bh] at q;cases q;obtain⟨_,z⟩:=x b _ e;exact z
 ·rw [az hb] at q;exact(x b u q).stay (λ_ _ _ r=>r) (λc r=>by rw [az (λz=>by rw [z,e] at r;cases r)];exact r) λc xs r=>by rw [az (λz=>by rw [z,e] at r;cases r)];exact r
theorem af.thaw{X:Cx}{pins:List (VO×Obj)}{σ:St}{H:Hp}{s:VP}(I:af X pins σ H s){g:VO}{o:Obj}{kv:List (ak×V)}(e:H g=some (.frz o (.dK kv)))(hX:∀o u,X.H₀ g≠some (.frz o u)):af X pins σ (ai H g (.dK kv)) s:=by
 have ne:∀{b:VO},H b=none->b≠g:=λn z=>by rw [z,e] at n;cases n
 refine⟨I.ok,I.os,I.bare,⟨I.base.keep,I.base.slot,λb o' h1 h2 h3=>?_,I.base.there,λb xs q=>?_,λb o' u q=>?_,λb ps q=>?_⟩,I.loc,I.cell,?_,λx c q=>?_,λp hp=>?_,I.hok.thaw e,I.len⟩
 ·have:=I.base.free b o' h1 h2 h3;rw [az (ne this)];exact this
 ·have:=I.base.tups b xs q;rw [az (λz=>by rw [z,e] at this;cases this)];exact this
 ·have:=I.base.frzs b o' u q;rw [az (λz=>hX o' u (by rw [<-z];exact q))];exact this
 ·obtain⟨m,this⟩:=I.base.tbls b ps q;exact⟨m,by rw [az (λz=>by rw [z,e] at this;cases this)];exact this⟩
 ·rw [az (ne I.free)];exact I.free
 ·rw [az (ne (I.freeC x c q))];exact I.freeC x c q
 ·obtain⟨a,b,c⟩:=I.pin p hp;exact⟨a,by rw [az (ne b)];exact b,c⟩
section
variable {X:Cx} {CX:eG} {k:Nat} {f C:VO} {fd:VX} {ps:List Str} {sp:Sp} {E:XK} {x m:Str} {p pos apos:Pos} {e o:VV} {es:List VV} {ta:TE} {t:TA}
def J5(X:Cx)(C:VO)(m:Str)(sp:Sp)(E:XK)(ta:TE)(t:TA):TE:=λσ H Q=>ta σ H λx H1=>∃a dx fs,x= .ref a/\H1 a=some (.ins C dx fs)/\fs.lookup m=none/\
 t σ H1 λvs H2=>∃g u og ou gv uv,g≠u/\H2 g=some (.frz og (.dK gv))/\H2 u=some (.frz ou (.dK uv))/\(∀o z,X.H₀ g≠some (.frz o z))/\(∀o z,X.H₀ u≠some (.frz o z))/\
  sp (x::vs) (ai (ai H2 g (.dK gv)) u (.dK uv)) (λv H3=>∃gv' uv',H3 g=some (.dK gv')/\H3 u=some (.dK uv')/\∀og' ou',Q v (ai (ai H3 g (.frz og' (.dK gv'))) u (.frz ou' (.dK uv')))) E
theorem J6{pl:Sem Bool}(he:PE X o ta)(c:cO X.K C)(hm:g9 X.K C m f)(F:aF X.prog X.w X.K X.mg X.base CX k f fd ps sp)(hr:bf k X.A)(hb:aJ X.K fd ps [])(hx:hG CX X E)(ha:PA X (e::es) t)
 (hst:VT (e::es) X.env=(false,eval e X.env)::VT es X.env:=by rfl)(hpl:(V5 pos (VT es X.env)).any (·.1)=false:=by rfl)
 (ht:eval (.Call (.Attribute o m apos) (e::es) [] pos) X.env=(do
  let ov<-eval o X.env
  W0 apos.atName
  let (f,first)<-WR [ov] (W3 ov m pl)
  callWith pos f first (V5 pos (VT (e::es) X.env)) (Wv pos (Wl [] X.env))):=by rfl):
 PE X (.Call (.Attribute o m apos) (e::es) [] pos) (J5 X C m sp E ta t):=by
 intro pins s σ H Q I h;refine R3 (pl:=pl) (aB (he pins s σ H _ I h) λu s1 ⟨x,H1,I1,rx,a,dx,fs,ex,ea,l,q⟩=>?_) ht;subst ex;obtain rfl:u=Pc a:=rx;refine t8 I1 ea c hm l ?_;refine Ss (first:=[.ref a]) (h₀:=X.base) I.ok.mod.kin hm.kp (aB (ha pos pins s1 σ H1 _ I1 q) λus s2 ⟨vs,H2,I2,r,q2⟩=>⟨I2.kIn,?_⟩) hst hpl;obtain⟨g,u,og,ou,gv,uv,ne,hg,hu,xg,xu,q2⟩:=q2;have I3:=(I2.thaw hg xg).thaw (g:=u) (o:=ou) (kv:=uv) (by rw [az (Ne.symm ne)];exact hu) xu;refine aB (uc (us:= .ref a::us) (vs:= .ref a::vs) (dvs:=[]) (ds:=[]) F hr hb .nil hx I3 (.cons rfl r) (by rw [Pg];exact q2)) λv s3 z=>?_;obtain⟨y,H4,I4,ry,gv',uv',g4,u4,q4⟩:=z;obtain⟨og',I5⟩:=I4.fast g4;obtain⟨ou',I6⟩:=I5.fast (a:=u) (kv:=uv') (by rw [az (Ne.symm ne)];exact u4);exact⟨y,_,I6,ry,q4 og' ou'⟩
end
section
variable {X:Cx} {H0:Hp} {O0:Ex}
theorem By{fs:List (Str×V)}{ks:List Str}{m:Str}(h:fs.map (λp=>Oi p.1)=ks.map Oi)(hm:m ∉ ks):fs.lookup m=none:=by
 have e:fs.map (·.1)=ks:=by
  apply rD;rw [<-h,Ov];rfl
 subst e
 induction fs with
 | nil=>rfl
 | cons p fs ih=>
  obtain⟨g,x⟩:=p;simp only [Ol,OA,not_or] at hm;rw [Pd,show(m==g)=false by simpa using hm.1];exact ih (by rw [Ov];rfl) hm.2
def rG(C:VO)(m:Str)(F:List VL->(VL->Prop)->Prop)(to:DT)(t:DA):DT:=λδ Q=>to δ λx=>∃(ks:List Str)(ds:List VL),x=fh C (ks.map .str) ds/\m ∉ ks/\t δ λes=>F (x::es) Q
theorem J7{K:Oe}{C:VO}{m:Str}{F:List VL->(VL->Prop)->Prop}{to:DT}{t:DA}{E:XK}:∀σ H Q,up K H0 O0 (rG C m F to t) σ H Q->sL C m (ba K F) [] E (up K H0 O0 to) (fV K H0 O0 t) σ H Q:=
 λσ H Q uu43=>by obtain⟨O,δ,Qd,w,q,k⟩:=uu43;exact⟨O,δ,_,w,q,λx v H1 uu44 s1 r1=>by
  obtain⟨ks,ds,ex,hm,q1⟩:=uu44;have r0:=r1;subst ex;obtain⟨a,dx,fs,rfl,h1,h2,r⟩:=r1.objI;exact⟨a,dx,fs,rfl,h1,By h2.symm hm,O,δ,_,w.mono s1,q1,λes vs H2 q2 s2 r2=>⟨O,_,Qd,(w.mono (s1.trans s2)).trk,by rw [Pg];exact .cons (r0.mono s2) r2,q2,λd v H3 q3 s3 r3=>k d v H3 q3 (s1.trans (s2.trans s3)) r3⟩⟩⟩
theorem vc{K:Oe}{C:VO}{m:Str}{F:List VL->(VL->Prop)->Prop}{to:DT}{E:XK}:∀σ H Q,up K H0 O0 (rG C m F to fW) σ H Q->sL C m (ba K F) [] E (up K H0 O0 to) ub σ H Q:=
 λσ H Q uu45=>by obtain⟨O,δ,Qd,w,q,k⟩:=uu45;exact⟨O,δ,_,w,q,λx v H1 uu46 s1 r1=>by
  obtain⟨ks,ds,ex,hm,q1⟩:=uu46;have r0:=r1;subst ex;obtain⟨a,dx,fs,rfl,h1,h2,r⟩:=r1.objI;exact⟨a,dx,fs,rfl,h1,By h2.symm hm,O,_,Qd,(w.mono s1).trk,.cons r0 .nil,q1,λd v H3 q3 s3 r3=>k d v H3 q3 (s1.trans s3) r3⟩⟩
end
open PySem PySem.Spec PyProof.Rows PySem.W PySem.Calls
def qM:Dl->Bool
 | []=>true
 | some (.r _ _ _ _ _ _ _)::_=>false
 | _::r=>qM r
theorem Bz{l C g u:VO}{fd:List (Str×VL)}{gd ud:List (ak×VL)}:∀{δ:Dl}{j:Nat},qM δ=true->δ[j]?≠some (some (.r l C g u fd gd ud))
 | [],_,_,z=>by simp at z
 | y::r,0,h,z=>by
  simp at z;subst z;simp [qM] at h
 | y::r,j+1,h,z=>by
  have h':qM r=true:=by
   unfold qM at h;split at h
   ·rename_i q;cases q
   ·cases h
   ·rename_i q;cases q;exact h
  exact Bz (δ:=r) (j:=j) h' (by simpa using z)
section
variable {K:Oe} {H0 H H':Hp} {O0 O:Ex} {σ:St} {δ:Dl}
theorem gH.goN{O':Ex}{x:Option V}{y:Option Sl}(h:gH K H O0 O x y)(nr:∀l C g u fd gd ud,y≠some (.r l C g u fd gd ud))(S:aN H H' O O')(kp:∀l o z,y=some z->z.own->x=some (.ref l)->O l->¬O0 l->H l=some o->O' l/\H' l=some o)(kp3:∀a o,O0 a->H a=some o->H' a=some o):gH K H' O0 O' x y:=by
 match y,h with
 | none,_=>exact QG
 | some (.v d),⟨v,e,r⟩=>exact⟨v,e,r.step S⟩
 | some (.o ds),⟨l,vs,e,a,b,c,r⟩=>exact⟨l,vs,e,(kp l _ _ rfl trivial e a b c).1,b,(kp l _ _ rfl trivial e a b c).2,r.step S⟩
 | some (.k ds),⟨l,vs,e,a,b,c,r⟩=>exact⟨l,vs,e,(kp l _ _ rfl trivial e a b c).1,b,(kp l _ _ rfl trivial e a b c).2,r.step S⟩
 | some (.i l C ds),⟨dx,vs,e,a,b,c,r1,r2⟩=>exact⟨dx,vs,e,(kp l _ _ rfl trivial e a b c).1,b,(kp l _ _ rfl trivial e a b c).2,r1,r2.step S⟩
 | some (.r l C g u fd gd ud),_=>exact absurd rfl (nr l C g u fd gd ud)
 | some (.b ds),⟨l,vs,e,a,c,r⟩=>exact⟨l,vs,e,a,kp3 _ _ a c,r.step S⟩
theorem J8{i j:Nat}(h:j≠i):(δ.set i none)[j]?=δ[j]?:=OG (Ne.symm h)
theorem Wd.putR(w:Wd K H0 O0 H O σ δ){i:Nat}{l C g u:VO}{fd:List (Str×VL)}{gd ud gd' ud':List (ak×VL)}{gv uv:List (ak×V)}{og ou:Obj}(e:δ[i]?=some (some (.r l C g u fd gd ud)))(nr:qM (δ.set i none)=true)(hg:bA K H O gv gd')(hu:bA K H O uv ud'):
 Wd K H0 O0 (ai (ai H g (.frz og (.dK gv))) u (.frz ou (.dK uv))) O σ (δ.set i (some (.r l C g u fd gd' ud')))/\aN H (ai (ai H g (.frz og (.dK gv))) u (.frz ou (.dK uv))) O O:=by
 obtain⟨x1,x2,x3,dx,fs,og0,ou0,gv0,uv0,hl,hf,ne,⟨g1,g2,g3,_⟩,u1,u2,u3,_⟩:=w.sl i _ e;have g0:H0 g=none:=(w.new g g1).resolve_left g2;have u0:H0 u=none:=(w.new u u1).resolve_left u2;have li:i < δ.length:=(OB.mp e).1;have at_:∀{b:VO},b≠g->b≠u->(ai (ai H g (.frz og (.dK gv))) u (.frz ou (.dK uv))) b=H b:=λh1 h2=>by rw [az h2,az h1]
 have S:aN H (ai (ai H g (.frz og (.dK gv))) u (.frz ou (.dK uv))) O O:=⟨λb o q n=>by rw [at_ (λz=>n (by rw [z];exact g1)) (λz=>n (by rw [z];exact u1))];exact q,λ_ _ n=>n⟩;have gg:(ai (ai H g (.frz og (.dK gv))) u (.frz ou (.dK uv))) g=some (.frz og (.dK gv)):=by rw [az ne,bh]
 have lg:l≠g:=λz=>by rw [z,g3] at hl;cases hl
 have lu:l≠u:=λz=>by rw [z,u3] at hl;cases hl
 refine⟨⟨λb o q=>by rw [at_ (λz=>by rw [z,g0] at q;cases q) (λz=>by rw [z,u0] at q;cases q)];exact w.same b o q,w.sub,w.new,λb z=>?_,by simp [w.len],λj y q=>?_,λj k y z b e1 y1' e2 z2 e3 e4=>?_⟩,S⟩
 ·by_cases q1:b=g
  ·rw [q1,gg];exact λz=>nomatch z
  ·by_cases q2:b=u
   ·rw [q2,bh];exact λz=>nomatch z
   ·rw [at_ q1 q2];exact w.trk b z
 ·by_cases hj:j=i
  ·subst hj;rw [OS li] at q;cases q;exact⟨x1,x2,x3,dx,fs,og,ou,gv,uv,by rw [at_ lg lu];exact hl,⟨hf.1,hf.2.step S⟩,ne,⟨g1,g2,gg,hg.step S⟩,u1,u2,bh,hu.step S⟩
  ·rw [OG (Ne.symm hj)] at q;refine(w.sl j y q).goN (λl' C' g' u' fd' gd' ud' z=>?_) S (λb o z hz ho e' a1 a2 a3=>⟨a1,?_⟩) λb o a1 a3=>?_
   ·subst z;exact Bz nr (by rw [J8 hj];exact q)
   ·subst hz;have nf:=w.nofrz q ho (fi e');rw [at_ (λz=>nf _ _ (by rw [z];exact g3)) (λz=>nf _ _ (by rw [z];exact u3))];exact a3
   ·rw [at_ (λz=>g2 (by rw [<-z];exact a1)) (λz=>u2 (by rw [<-z];exact a1))];exact a3
 ·have d7:∀{j:Nat}{y:Sl},(δ.set i (some (.r l C g u fd gd' ud')))[j]?=some (some y)->y.own->∃y',δ[j]?=some (some y')/\y'.own:=λ{j y} q hq=>by
   by_cases hj:j=i
   ·subst hj;exact⟨_,e,trivial⟩
   ·rw [OG (Ne.symm hj)] at q;exact⟨_,q,hq⟩
  obtain⟨_,q1,r1⟩:=d7 e1 y1';obtain⟨_,q2,r2⟩:=d7 e2 z2;exact w.dis j k _ _ b q1 r1 q2 r2 e3 e4
theorem Wd.setR(w:Wd K H0 O0 H O σ δ){i:Nat}{O':Ex}{l C g u:VO}{fd:List (Str×VL)}{gd ud:List (ak×VL)}(sm:aw H H')(sb:∀a,O a->O' a)(nw:∀a,O' a->O a\/H a=none)(tr:∀a,O' a->H' a≠none)(h1:O' l)(h2:¬O l)(R:wk K H' O O' l C g u fd gd ud):
 Wd K H0 O0 H' O' (σ.set i (some (.ref l))) (δ.set i (some (.r l C g u fd gd ud)))/\aN H H' O O':=by
 have S:aN H H' O O':=⟨λb o e _=>sm b o e,λb hb hn z=>(nw b z).elim hn hb⟩;have hl:H l=none:=(nw l h1).resolve_left h2;have none0:∀{a:VO},H a=none->H0 a=none:=λ{a} h=>by
  cases e:H0 a with
  | none=>rfl
  | some o=>rw [w.same _ _ e] at h;cases h
 have n0:∀{a:VO},¬O a->¬O0 a:=λh z=>h (w.sub _ z);refine⟨⟨w.same.trans sm,λa z=>sb a (w.sub a z),λa z=>(nw a z).elim (w.new a) λq=>.inr (none0 q),tr,by simp [w.len],λj y e=>?_,λj k y z a e1 y1 e2 z2 e3 e4=>?_⟩,S⟩
 ·by_cases hj:j=i
  ·subst hj;have li:j < δ.length:=by
    have:=(OB.mp e).1;simpa using this
   rw [OS li] at e;cases e;rw [OS (by rw [w.len];exact li)];obtain⟨dx,fs,og,ou,gv,uv,r1,r2,r3,⟨a1,a2,a3⟩,b1,b2,b3⟩:=R;exact⟨rfl,h1,n0 h2,dx,fs,og,ou,gv,uv,r1,r2,r3,⟨a1,n0 a2,a3⟩,b1,n0 b2,b3⟩
  ·rw [OG (Ne.symm hj)] at e⊢;exact(w.sl j y e).go S (λl o _ _ a _ c=>⟨sb _ a,sm _ _ c⟩) (λa o u a1 _ a3=>⟨sb _ a1,sm _ _ a3⟩) λa o _ a3=>sm _ _ a3
 ·have no:∀{j:Nat}{y:Sl},j≠i->δ[j]?=some (some y)->y.own->σ[j]?≠some (some (.ref l)):=λ{j y} _ e h z=>by
   obtain⟨l',x1,x2,_⟩:=w.adr e h;rw [z] at x1;cases x1;exact h2 x2
  by_cases hj:j=i
  ·by_cases hk:k=i
   ·rw [hj,hk]
   ·exfalso;rw [hj] at e3;have li:i < σ.length:=by
     have:=(OB.mp e3).1;simpa using this
    rw [OS li] at e3;cases e3;rw [OG (Ne.symm hk)] at e2 e4;exact no hk e2 z2 e4
  ·by_cases hk:k=i
   ·exfalso;rw [hk] at e4;have li:i < σ.length:=by
     have:=(OB.mp e4).1;simpa using this
    rw [OS li] at e4;cases e4;rw [OG (Ne.symm hj)] at e1 e3;exact no hj e1 y1 e3
   ·rw [OG (Ne.symm hj)] at e1 e3;rw [OG (Ne.symm hk)] at e2 e4;exact w.dis j k _ _ a e1 y1 e2 z2 e3 e4
end
def fO(m:Str)(ks:List Str):Bool:=ks.all (λk=>!(k==bY) && !(k==cP) && !(k==m)) && !(m==bY) && !(m==cP)
theorem xj{fs gs:List (Str×V)}{m:Str}(h:∀p∈fs,p.1≠m):(fs++gs).lookup m=gs.lookup m:=by
 induction fs with
 | nil=>rfl
 | cons p fs ih=>
  obtain⟨k,v⟩:=p;have hk:k≠m:=h (k,v) O8;rw [PN,Pd,show(m==k)=false by simpa using Ne.symm hk];exact ih λq hq=>h q (OQ _ hq)
theorem vd{K:Oe}{H:Hp}{O:Ex}{fs:List (Str×V)}{fd:List (Str×VL)}{m:Str}(hf:hV K H O fs fd)(h:fO m (fd.map (·.1))=true):(∀p∈fs,p.1≠bY/\p.1≠cP/\p.1≠m)/\m≠bY/\m≠cP:=by
 unfold fO at h;simp only [Pw,QS,P6,beq_eq_false_iff_ne] at h;refine⟨λp hp=>?_,h.1.2,h.2⟩;have hm:p.1∈fd.map (·.1):=by rw [<-hf.1];exact List.mem_map_of_mem hp
 obtain⟨⟨a,b⟩,c⟩:=h.1.1 _ hm;exact⟨a,b,c⟩
theorem BA:bY≠cP:=cp
section
variable {K:Oe} {H:Hp} {O:Ex} {fs:List (Str×V)} {fd:List (Str×VL)} {m:Str} {g u:VO}
theorem BB(hf:hV K H O fs fd)(h:fO m (fd.map (·.1))=true):(fs++[(bY,V.ref g),(cP,V.ref u)]).lookup bY=some (.ref g):=by
 rw [xj λp hp=>((vd hf h).1 p hp).1];simp [Pd]
theorem J9(hf:hV K H O fs fd)(h:fO m (fd.map (·.1))=true):(fs++[(bY,V.ref g),(cP,V.ref u)]).lookup cP=some (.ref u):=by
 rw [xj λp hp=>((vd hf h).1 p hp).2.1,Pd,show(cP==bY)=false by simpa using Ne.symm BA];simp [Pd]
theorem BC(hf:hV K H O fs fd)(h:fO m (fd.map (·.1))=true):(fs++[(bY,V.ref g),(cP,V.ref u)]).lookup m=none:=by
 obtain⟨a,b,c⟩:=vd hf h;rw [xj λp hp=>(a p hp).2.2,Pd,show(m==bY)=false by simpa using b,Pd,show(m==cP)=false by simpa using c];rfl
end
def BD(K:Oe)(C:VO):Sp:=λvs H Q _=>∃l dx fs g u gv uv a x y z,vs=[.ref l,.ref a]/\H l=some (.ins C dx fs)/\fs.lookup bY=some (.ref g)/\fs.lookup cP=some (.ref u)/\g≠u/\H g=some (.dK gv)/\H u=some (.dK uv)/\
 bz K H a [.str x,y,z]/\gv.length < VW/\uv.length < VW/\((z= .non/\Q .non (ai H g (.dK (putK gv (.inr x) y))))\/∃s,z= .str s/\Q .non (ai (ai H g (.dK (putK gv (.inr x) y))) u (.dK (putK uv (.inr s) (.bl true)))))
section
variable {X:Cx} {H0:Hp} {O0:Ex}
def xk(C:VO)(i:Nat)(m:Str)(t:DT):DS:=λE δ=>∃l g u fd gd ud,δ[i]?=some (some (.r l C g u fd gd ud))/\qM (δ.set i none)=true/\fO m (fd.map (·.1))=true/\t δ λd=>∃x y z,d= .tuple [.str x,y,z]/\gd.length < VW/\ud.length < VW/\
 ((z= .none/\E.nx (δ.set i (some (.r l C g u fd (fI gd (.inr x) y) ud))))\/∃s,z= .str s/\E.nx (δ.set i (some (.r l C g u fd (fI gd (.inr x) y) (fI ud (.inr s) (.bool true))))))
theorem BE{C f:VO}{i k:Nat}{m:Str}{o e:VV}{t:DT}{fdt:VX}{ps:List Str}{pl:Sem Bool}{E:XK}{apos cpos pos:Pos}(hX:∀b,H0 b=none->∀o z,X.H₀ b≠some (.frz o z))(ho:PE X o (cJ i))(c:cO X.K C)(hm:g9 X.K C m f)(F:aF X.prog X.w X.K X.mg X.base CX0 k f fdt ps (BD X.K C))(hr:bf k X.A)(hb:aJ X.K fdt ps [])(hx:hG CX0 X E)
 (he:DE X H0 O0 e t)(hst:VT [e] X.env=(false,eval e X.env)::VT [] X.env:=by rfl)(hpl:(V5 cpos (VT [] X.env)).any (·.1)=false:=by rfl)
 (ht:eval (.Call (.Attribute o m apos) [e] [] cpos) X.env=(do
  let ov<-eval o X.env
  W0 apos.atName
  let (f,first)<-WR [ov] (W3 ov m pl)
  callWith cpos f first (V5 cpos (VT [e] X.env)) (Wv cpos (Wl [] X.env))):=by rfl)
 (hs:V6 (.Call (.Attribute o m apos) [e] [] cpos) none pos.line X.env=pure false:=by rfl):PS X (.Expr (.Call (.Attribute o m apos) [e] [] cpos) pos) (bo X.K H0 O0 (xk C i m t)):=
 (tQ (J6 (pl:=pl) ho c hm F hr hb hx (e7 he iO hst) hst hpl ht) hs).imp λD σ H uu47=>by
  obtain⟨O,δ,E,w,⟨l,g,u,fd,gd,ud,ei,nr,rk,q⟩,k1,k2,k3,k4⟩:=uu47;obtain⟨x1,x2,x3,dx,fs,og,ou,gv,uv,hl,hf,ne,⟨g1,g2,g3,g4⟩,u1,u2,u3,u4⟩:=w.sl i _ ei;refine⟨_,fi x1,l,dx,_,rfl,hl,BC hf rk,O,δ,_,w,q,λd v H1 ⟨x,y,z,ed,l1,l2,q1⟩ s1 r1=>?_⟩;subst ed;obtain⟨a,xs,rfl,sq,rs⟩:=(Sh.dt r1).tup;have hxs:∃y' z',xs=[.str x,y',z']/\Dt X.K H1 O y' y/\Dt X.K H1 O z' z:=by
   cases rs with
   | cons a1 r=>
    cases r with
    | cons a2 r=>
     cases r with
     | cons a3 r=>
      cases r;cases a1;exact⟨_,_,rfl,a2,a3⟩
  obtain⟨y',z',rfl,dy,dz⟩:=hxs;have w1:=w.mono s1;have hl1:=s1 _ _ hl;have g31:=s1 _ _ g3;have u31:=s1 _ _ u3;have lg:l≠g:=λz=>by rw [z,g3] at hl;cases hl
  have lu:l≠u:=λz=>by rw [z,u3] at hl;cases hl
  have ug:u≠g:=Ne.symm ne;have g0:H0 g=none:=(w.new g g1).resolve_left g2;have u0:H0 u=none:=(w.new u u1).resolve_left u2;have sqk:bz X.K (ai (ai H1 g (.dK gv)) u (.dK uv)) a [.str x,y',z']:=by
   rcases sq with(h | ⟨ob,h⟩) | h
   ·exact .inl (.inl (by rw [az (λz=>by rw [z,u31] at h;cases h),az (λz=>by rw [z,g31] at h;cases h)];exact h))
   ·exact .inl (.inr ⟨ob,by rw [az (λz=>by rw [z,u31] at h;cases h),az (λz=>by rw [z,g31] at h;cases h)];exact h⟩)
   ·exact .inr h
  refine⟨g,u,og,ou,gv,uv,ne,g31,u31,hX g g0,hX u u0,l,dx,_,g,u,gv,uv,a,x,y',z',rfl,by rw [az lu,az lg];exact hl1,BB hf rk,J9 hf rk,ne,by rw [az ne,bh],bh,sqk,by rw [g4.length];exact l1,by rw [u4.length];exact l2,?_⟩;rcases q1 with⟨rfl,q1⟩ | ⟨s,rfl,q1⟩
  ·cases dz;refine .inl ⟨rfl,putK gv (.inr x) y',uv,bh,by rw [az ug,bh],λog' ou'=>?_⟩;obtain⟨w2,S2⟩:=w1.putR (og:=og') (ou:=ou') (gv:=putK gv (.inr x) y') (uv:=uv) ei nr ((g4.mono s1).put (.inr x) dy) (u4.mono s1);have eh:ai (ai (ai (ai (ai H1 g (.dK gv)) u (.dK uv)) g (.dK (putK gv (.inr x) y'))) g (.frz og' (.dK (putK gv (.inr x) y')))) u (.frz ou' (.dK uv))=ai (ai H1 g (.frz og' (.dK (putK gv (.inr x) y')))) u (.frz ou' (.dK uv)):=by
    funext b;unfold ai;by_cases b1:b=u
    ·simp [b1]
    ·by_cases b2:b=g <;> simp [b1,b2]
   rw [eh];exact k1 _ _ _ _ q1 w2 (aN.trans (.same s1) S2)
  ·cases dz;refine .inr ⟨s,rfl,putK gv (.inr x) y',putK uv (.inr s) (.bl true),by rw [az ne,bh],bh,λog' ou'=>?_⟩;obtain⟨w2,S2⟩:=w1.putR (og:=og') (ou:=ou') (gv:=putK gv (.inr x) y') (uv:=putK uv (.inr s) (.bl true)) ei nr ((g4.mono s1).put (.inr x) dy) ((u4.mono s1).put (.inr s) (.bl true));have eh:ai (ai (ai (ai (ai (ai H1 g (.dK gv)) u (.dK uv)) g (.dK (putK gv (.inr x) y'))) u (.dK (putK uv (.inr s) (.bl true)))) g (.frz og' (.dK (putK gv (.inr x) y')))) u (.frz ou' (.dK (putK uv (.inr s) (.bl true))))=ai (ai H1 g (.frz og' (.dK (putK gv (.inr x) y')))) u (.frz ou' (.dK (putK uv (.inr s) (.bl true)))):=by
    funext b;unfold ai;by_cases b1:b=u
    ·simp [b1]
    ·by_cases b2:b=g <;> simp [b1,b2]
   rw [eh];exact k1 _ _ _ _ q1 w2 (aN.trans (.same s1) S2)
abbrev xp(C:VO)(fd:List (Str×VL))(gks uks:List Str)(gd ud:List (ak×VL)):VL:=fh C ((fd.map (·.1)++[bY,cP]).map .str) (fd.map (·.2)++[fM gks (gd.map (·.2)),fM uks (ud.map (·.2))])
def xq(C:VO)(i:Nat)(m:Str)(F:List VL->(VL->Prop)->Prop)(t:DA):DT:=λδ Q=>∃l g u fd gd ud,δ[i]?=some (some (.r l C g u fd gd ud))/\fO m (fd.map (·.1))=true/\∃gks uks:List Str,gd.map (·.1)=gks.map P7/\ud.map (·.1)=uks.map P7/\
 t δ λes=>F (xp C fd gks uks gd ud::es) λd=>xi C d/\Q d
theorem Ka{K:Oe}{C:VO}{i:Nat}{m:Str}{F:List VL->(VL->Prop)->Prop}{t:DA}{E:XK}:∀σ H Q,up K H0 O0 (xq C i m F t) σ H Q->sL C m (ba K F) [] E (cJ i) (fV K H0 O0 t) σ H Q:=
 λσ H Q uu49=>by
  obtain⟨O,δ,Qd,w,⟨l,g,u,fd,gd,ud,ei,rk,gks,uks,ek,eu,q⟩,k⟩:=uu49;obtain⟨x1,x2,x3,dx,fs,og,ou,gv,uv,hl,hf,ne,⟨g1,g2,g3,g4⟩,u1,u2,u3,u4⟩:=w.sl i _ ei;refine⟨_,fi x1,l,dx,_,rfl,hl,BC hf rk,O,δ,_,w,q,λes vs H1 q1 s1 r1=>?_⟩;have o1:aN H1 H1 O (λa=>O a/\a≠l/\a≠g/\a≠u):=⟨λ_ _ z _=>z,λ_ _ n z=>n z.1⟩;refine⟨λa=>O a/\a≠l/\a≠g/\a≠u,_,_,λa z=>(w.mono s1).trk a z.1,?_,q1,λd v H2 ⟨c2,q2⟩ s2 r2=>k d v H2 q2 (s1.trans s2) (r2.clnO (C:=C) (λa z=>?_) c2)⟩
  ·rw [Pg];refine .cons (.obj (s1 _ _ hl) ?_ (λz=>z.2.1 rfl) ?_) (r1.step o1)
   ·rw [OM,OM,<-hf.1,Ov];rfl
   ·rw [OM];refine((hf.2.mono s1).step o1).append (.cons (.dic (s1 _ _ g3) (by rw [g4.keys];exact ek) rfl (λz=>z.2.2.1 rfl) ((g4.vals.mono s1).step o1)) (.cons (.dic (s1 _ _ u3) (by rw [u4.keys];exact eu) rfl (λz=>z.2.2.2 rfl) ((u4.vals.mono s1).step o1)) .nil))
  ·by_cases a1:a=l
   ·exact .inr (.inr ⟨dx,_,by rw [a1];exact(s1.trans s2) _ _ hl⟩)
   ·by_cases a2:a=g
    ·exact .inr (.inl ⟨og,gv,by rw [a2];exact(s1.trans s2) _ _ g3⟩)
    ·by_cases a3:a=u
     ·exact .inr (.inl ⟨ou,uv,by rw [a3];exact(s1.trans s2) _ _ u3⟩)
     ·exact .inl ⟨z,a1,a2,a3⟩
def xt(C:VO)(i:Nat)(tk:DT):DT:=λδ Q=>tk δ λy=>∃z,y= .str z/\∃l g u fd gd ud,δ[i]?=some (some (.r l C g u fd gd ud))/\fO "mark" (fd.map (·.1))=true/\Q (.bool (!(fu gd (.inr z)).isSome))
theorem Kb{C:VO}{i:Nat}{o e:VV}{tk:DT}{pos:Pos}(hu:X.A.units+64 < Wb)(hc:cO X.K C)(hn:bX X.K C bY)(ho:PE X o (cJ i))(he:DE X H0 O0 e tk)(hbs:Wi o bY X.env (eval o X.env)=eval o X.env:=by rfl):PC X .NotIn e (.Attribute o bY pos) (up X.K H0 O0 (xt C i tk)):=λpins s σ H Q I ⟨O,δ,Qd,w,q,k⟩=>
 Ap VH he (t9 ho hbs) pins s σ H Q I ⟨O,δ,_,w,q,λy uy H2 uu52 s2 r2=>by
  obtain⟨z,ez,l,g,u,fd,gd,ud,ei,rk,q2⟩:=uu52;subst ez;cases r2;obtain⟨x1,x2,x3,dx,fs,og,ou,gv,uv,hl,hf,ne,⟨g1,g2,g3,g4⟩,u1,u2,u3,u4⟩:=(w.mono s2).sl i _ ei;exact⟨_,fi x1,l,C,dx,_,.ref g,rfl,hl,hc,hn,BB hf rk,g,_,rfl,cB.z (k:= .inr z) g3,by rw [g4.none];exact k _ _ _ q2 s2 (.bl _)⟩⟩
theorem Kc{C:VO}{i:Nat}{o e:VV}{tk:DT}{pos pos':Pos}(hu:X.A.units+64 < Wb)(hc:cO X.K C)(hn:bX X.K C bY)(ho:PE X o (cJ i))(he:DE X H0 O0 e tk)(hbs:Wi o bY X.env (eval o X.env)=eval o X.env:=by rfl)(hm:Wg .NotIn (.Attribute o bY pos')=false:=by rfl):PT X (.Compare e [.NotIn] [.Attribute o bY pos'] pos) (bK X.K H0 O0 (dM (xt C i tk))):=
 (tO (Kb hu hc hn ho he hbs) hm).imp λσ H Q uu53=>by obtain⟨O,δ,Qd,w,q,k⟩:=uu53;exact⟨O,δ,_,w,q,λd v H' uu54 s r=>by obtain⟨b,e,qb⟩:=uu54;subst e;cases r;exact⟨b,rfl,k b H' qb s⟩⟩
end
open PySem PySem.Spec PyProof.Rows PySem.W PySem.Calls
section
variable {K:Oe}
def xv(K:Oe)(F:List VL->List VL->(VL->Prop)->Prop):Sp:=λvs H Q _=>∃O vs' l ws ds es Qd,vs=vs'++[.ref l]/\(∀a,O a->H a≠none)/\aj K H O vs' ds/\O l/\H l=some (.lst ws)/\aj K H O ws es/\F ds es Qd/\∀d v H',Qd d->aw H H'->Dt K H' O v d->Q v H'
def pQ(N:List Str)(ds es:List VL):Dl:=ds.map (λd=>some (.v d))++(some (.b es)::OX (N.length - (ds.length+1)) none)
theorem BF{H:Hp}{O:Ex}{N:List Str}{vs ws:List V}{ds es:List VL}{l:VO}(tr:∀a,O a->H a≠none)(r:aj K H O vs ds)(ol:O l)(hl:H l=some (.lst ws))(rs:aj K H O ws es):Wd K H O H O (start N (vs++[.ref l])) (pQ N ds es):=by
 have ln:=r.length;have at1:∀(i:Nat) y,(pQ N ds es)[i]?=some y->(∃d,ds[i]?=some d/\y=some (.v d))\/(i=ds.length/\y=some (.b es))\/y=none:=λi y e=>by
  unfold pQ at e;by_cases h:i < ds.length
  ·rw [PK (by simpa using h),OD] at e;cases q:ds[i]? with
   | none=>rw [q] at e;cases e
   | some d=>rw [q] at e;exact .inl ⟨d,rfl,(Pf e).symm⟩
  ·rw [Qf (by simpa using QR h),Of,List.getElem?_cons] at e;split at e
   ·rename_i z;exact .inr (.inl ⟨VH,(Pf e).symm⟩)
   ·rw [Q8] at e;split at e
    ·exact .inr (.inr (Pf e).symm)
    ·cases e
 refine⟨aw.refl _,λ_ z=>z,λ_ z=>.inl z,tr,by simp [start,pQ,ln],λi y e=>?_,λi j ds' es l e1=>?_⟩
 ·rcases at1 i y e with⟨d,hd,rfl⟩ | ⟨rfl,rfl⟩ | rfl
  ·obtain⟨v,hv,rv⟩:=r.getD hd;refine⟨v,?_,rv⟩;have hi:=(OB.mp hv).1;unfold start;rw [PK (by simp;omega),OD,PK hi,hv];rfl
  ·refine⟨l,ws,?_,ol,hl,rs⟩;unfold start;rw [PK (by simp;omega),OD,Qf VH,<-ln,Q2];rfl
  ·exact QG
 ·rcases at1 i _ e1 with⟨d,_,z⟩ | ⟨_,z⟩ | z
  ·cases z;intro h;exact h.elim
  ·cases z;intro h;exact h.elim
  ·cases z
end
section
variable {P:VY} {w:VZ} {K:Oe} {mg:Str->Option VM} {base:V0}
theorem aP.okB{x qual:Str}{st:V1}{f:VO}{fd:VX}{N ps:List Str}{k:Nat}{F:List VL->List VL->(VL->Prop)->Prop}(Fu:aP K x qual st f fd)(S:aV N ps (ag st))(len:∀ds es Q,F ds es Q->ds.length+1=ps.length)
 (hbody:∀(cdv:VM) (A:V2) (outer:List Env) (s:VP) (H:Hp) (O:Ex) (ds es:List VL) (Q:VL->Prop) (E:XK),bf k (A.deeper (WJ qual (ag st) s.heap.objs.size f cdv))->(∀a,O a->H a≠none)->F ds es Q->
  ∃t,bQ (hJ CX0 P w K mg base N qual (ag st) f cdv A outer s H E).nox (au st) (bo K H O t)/\t {nx:=λ_=>Q .none,rt:=Q} (pQ N ds es)):aF P w K mg base CX0 (k+1) f fd ps (xv K F):=by
 refine Fu.ok S (λvs H Q E h=>?_) (λcdv A outer s H vs Q E hr h=>?_)
 ·obtain⟨O,vs',l,ws,ds,es,Qd,rfl,_,r,_,_,_,q,_⟩:=h;rw [OH,r.length];exact len _ _ _ q
 ·obtain⟨O,vs',l,ws,ds,es,Qd,rfl,tr,r,ol,hl,rs,q,k⟩:=h;obtain⟨t,ht,q'⟩:=hbody cdv A outer s H O ds es Qd E hr tr q;refine⟨_,ht,O,_,_,BF tr r ol hl rs,q',λO' δ' σ' H' z w' S'=>?_,λd v H' z s' r'=>k d v H' z s' r',λ_ _ _ _ z=>z.elim,λ_ _ _ _ z=>z.elim⟩;exact k _ _ _ z w'.same .non
def xy(K:Oe)(C:VO)(F:List VL->List VL->(List (Str×VL)->List (ak×VL)->List (ak×VL)->Prop)->Prop):Sp:=λvs H Q _=>∃x dx vs' l ws H1 O ds es Qd,vs= .ref x::(vs'++[.ref l])/\H=ai (ai H1 dx (.own x)) x (.ins C dx [])/\H1 x=none/\H1 dx=none/\dx≠x/\
 (∀a,O a->H1 a≠none)/\aj K H1 O vs' ds/\O l/\H1 l=some (.lst ws)/\aj K H1 O ws es/\F ds es Qd/\
 ∀fd gd ud g u O' H',Qd fd gd ud->aw H1 H'->(∀a,O a->O' a)->(∀a,O' a->O a\/H1 a=none)->(∀a,O' a->H' a≠none)->O' x->¬O x->wk K H' O O' x C g u fd gd ud->Q .non H'
def xA(N:List Str)(l C:VO)(ds es:List VL):Dl:=some (.i l C [])::(pQ N (.none::ds) es).tail
theorem Kd{H1:Hp}{O:Ex}{N:List Str}{vs ws:List V}{ds es:List VL}{x dx C l:VO}(tr:∀l,O l->H1 l≠none)(r:aj K H1 O vs ds)(ol:O l)(hl:H1 l=some (.lst ws))(rs:aj K H1 O ws es)(hx:H1 x=none)(hdx:H1 dx=none)(ne:dx≠x):
 Wd K H1 O (ai (ai H1 dx (.own x)) x (.ins C dx [])) (λl=>O l\/l=x) (start N (.ref x::(vs++[.ref l]))) (xA N x C ds es):=by
 have w0:=BF (N:=N) tr (.cons .non r) ol hl rs;have w1:=w0.mono (aw.new (o:=HO.own x) hdx);have hx1:(ai H1 dx (.own x)) x=none:=by rw [az (Ne.symm ne)];exact hx
 have:=w1.setY (i:=0) (p:=x) (ho:= .ins C dx []) (y0:= .i x C []) trivial hx1 λO' S a b=>⟨dx,[],rfl,a,b,bh,rfl,.nil⟩;exact this
theorem aP.okRn{x qual:Str}{st:V1}{f C:VO}{fd:VX}{N ps:List Str}{k:Nat}{F:List VL->List VL->(List (Str×VL)->List (ak×VL)->List (ak×VL)->Prop)->Prop}(Fu:aP K x qual st f fd)(S:aV N ps (ag st))(len:∀ds es Q,F ds es Q->ds.length+2=ps.length)
 (hbody:∀(cdv:VM) (A:V2) (outer:List Env) (s:VP) (H H1:Hp) (O:Ex) (ds es:List VL) (Q:List (Str×VL)->List (ak×VL)->List (ak×VL)->Prop) (E:XK) (l:VO),bf k (A.deeper (WJ qual (ag st) s.heap.objs.size f cdv))->(∀a,O a->H1 a≠none)->(∀b,H1 b=none->∀o z,H b≠some (.frz o z))->F ds es Q->
  ∃t,bQ (hJ CX0 P w K mg base N qual (ag st) f cdv A outer s H E).nox (au st) (bo K H1 O t)/\t {nx:=λδ=>∃g u fd gd ud,δ[0]?=some (some (.r l C g u fd gd ud))/\Q fd gd ud,rt:=λ_=>False} (xA N l C ds es)):aF P w K mg base CX0 (k+1) f fd ps (xy K C F):=by
 refine Fu.ok S (λvs H Q E h=>?_) (λcdv A outer s H vs Q E hr h=>?_)
 ·obtain⟨x,dx,vs',l,ws,H1,O,ds,es,Qd,rfl,_,_,_,_,_,r,_,_,_,q,_⟩:=h;have:=len _ _ _ q;rw [Oz,OH,r.length,Qw];omega
 ·obtain⟨x,dx,vs',l,ws,H1,O,ds,es,Qd,rfl,rfl,hx,hdx,ne,tr,r,ol,hl,rs,q,k⟩:=h;obtain⟨t,ht,q'⟩:=hbody cdv A outer s (ai (ai H1 dx (.own x)) x (.ins C dx [])) H1 O ds es Qd E x hr tr (λb hb o z=>by
   unfold ai;by_cases b1:b=x
   ·simp [b1]
   ·by_cases b2:b=dx
    ·simp [b1,b2,ne]
    ·simp [b1,b2,hb]) q
  refine⟨_,ht,_,_,_,Kd tr r ol hl rs hx hdx ne,q',λO' δ' σ' H' z w' S'=>?_,λd v H' z s' r'=>z.elim,λ_ _ _ _ z=>z.elim,λ_ _ _ _ z=>z.elim⟩;obtain⟨g,u,fd,gd,ud,e,z⟩:=z;obtain⟨a1,a2,a3,R⟩:=w'.sl 0 _ e;exact k fd gd ud g u O' H' z w'.same w'.sub w'.new w'.trk a2 a3 R
end
section
variable {X:Cx} {H0:Hp} {O0:Ex}
def BG(C:VO)(i j:Nat)(F:List VL->List VL->(List (Str×VL)->List (ak×VL)->List (ak×VL)->Prop)->Prop)(t1 t2:DT):DS:=λE δ=>t1 δ λd1=>t2 δ λd2=>∃es,δ[j]?=some (some (.b es))/\F [d1,d2] es λfd gd ud=>∀l g u,E.nx (δ.set i (some (.r l C g u fd gd ud)))
theorem Wd.lent{K:Oe}{H:Hp}{O:Ex}{σ:St}{δ:Dl}(w:Wd K H0 O0 H O σ δ){j:Nat}{es:List VL}(e:δ[j]?=some (some (.b es))):∃l ws,σ[j]?=some (some (.ref l))/\O0 l/\H l=some (.lst ws)/\aj K H O ws es:=by
 obtain⟨l,ws,a,b,c,d⟩:=w.sl j _ e;exact⟨l,ws,fi a,b,c,d⟩
theorem Ke{C f:VO}{i j k:Nat}{x y:Str}{a b c:VV}{t1 t2:DT}{fdt:VX}{ps:List Str}{E:XK}{F:List VL->List VL->(List (Str×VL)->List (ak×VL)->List (ak×VL)->Prop)->Prop}{p cpos pos pos':Pos}(hN:X.N.Nodup)(hi:X.N[i]?=some x)(hxl:gC X.env.scope x)
 (M:Mk X.K C f)(Fk:aF X.prog X.w X.K X.mg X.base CX0 k f fdt ps (xy X.K C F))(hr:bf (k+1) X.A)(hg:Gl X y)(hm:X.mg y=some (.ref C))(hb:aJ X.K fdt ps [])(hx:hG CX0 X E)(ha:DE X H0 O0 a t1)(hb2:DE X H0 O0 b t2)(hcv:PE X c (cJ j))
 (hdb:(y==("__debug__":Str))=false:=by decide)(he:VT [a,b,c] X.env=(false,eval a X.env)::VT [b,c] X.env:=by rfl)(he2:VT [b,c] X.env=(false,eval b X.env)::VT [c] X.env:=by rfl)(he3:VT [c] X.env=(false,eval c X.env)::VT [] X.env:=by rfl)(hpl:(V5 cpos (VT [b,c] X.env)).any (·.1)=false:=by rfl)
 (hs:V6 (.Call (.Name y p) [a,b,c] [] cpos) (some (.Name x pos')) pos.line X.env=pure false:=by rfl)(hf:X.fn x=true\/X.env.scope.names.lookup x=some .local:=by first | exact .inl rfl | exact .inr rfl | assumption):
 PS X (.Assign [.Name x pos'] (.Call (.Name y p) [a,b,c] [] cpos) pos) (bo X.K H0 O0 (BG C i j F t1 t2)):=
 (tU hN hi hxl (uf M Fk hr hg hm hb .nil hx (e7 ha (e7 hb2 (e7 hcv iO he3) he2) he) hdb he hpl) hs hf).imp λD σ H uu55=>by
  obtain⟨O,δ,E,w,q,k1,k2,k3,k4⟩:=uu55;refine⟨O,δ,_,w,q,λd1 v1 H1 q1 s1 r1=>⟨O,δ,_,w.mono s1,q1,λd2 v2 H2 ⟨es,ej,q2⟩ s2 r2=>?_⟩⟩;have w2:=w.mono (s1.trans s2);obtain⟨l,ws,h1,h2,h3,h4⟩:=w2.lent ej;refine⟨_,h1,λxx dx hxx hdx ne=>⟨xx,dx,[v1,v2],l,ws,H2,O,[d1,d2],es,_,rfl,rfl,hxx,hdx,ne,w2.trk,.cons (r1.mono s2) (.cons r2 .nil),w2.sub _ h2,h3,h4,q2,λfd gd ud g u O' H' qf sm sb nw tr o1 o2 R=>⟨rfl,?_⟩⟩⟩;obtain⟨w3,S3⟩:=w2.setR (i:=i) sm sb nw tr o1 o2 R;exact k1 _ _ _ _ (qf xx g u) w3 (aN.trans (.same (s1.trans s2)) S3)
def xB(C:VO)(i:Nat)(t:DS):DS:=λE δ=>∃l fd,δ[i]?=some (some (.i l C fd))/\fO "mark" (fd.map (·.1))=true/\fd.length < 900/\∀g u,t E (δ.set i (some (.r l C g u fd [] [])))
theorem xC{f:Str}{v:V}:∀{fs:List (Str×V)},(∀p∈fs,p.1≠f)->cN f v fs=fs++[(f,v)]
 | [],_=>rfl
 | (g,x)::fs,h=>by
  rw [cN,VI (h (g,x) O8),xC λp hp=>h p (OQ _ hp)];rfl
theorem Kf{C:VO}{i:Nat}{o1 o2:VV}{rest:List V1}{t:DS}{p1 p2 q1 q2 r1 r2:Pos}(hc:cO X.K C)(hn1:bX X.K C bY)(hn2:bX X.K C cP)(ho1:PE X o1 (cJ i))(ho2:PE X o2 (cJ i))(h:bQ X rest (bo X.K H0 O0 t))
 (hs1:V6 (.Dict [] [] p1) (some (.Attribute o1 bY q1)) r1.line X.env=pure false:=by rfl)(hs2:V6 (.Dict [] [] p2) (some (.Attribute o2 cP q2)) r2.line X.env=pure false:=by rfl):
 bQ X (.Assign [.Attribute o1 bY q1] (.Dict [] [] p1) r1:: .Assign [.Attribute o2 cP q2] (.Dict [] [] p2) r2::rest) (bo X.K H0 O0 (xB C i t)):=
 (tP (vY ho1 Bx hs1) (tP (vY ho2 Bx hs2) h)).imp λD σ H uu57=>by
  obtain⟨O,δ,E,w,⟨l,fd,ei,rk,hl,q⟩,k1,k2,k3,k4⟩:=uu57;obtain⟨dx,fs,x1,x2,x3,h1,hf⟩:=w.ownI ei;obtain⟨kk,_,_⟩:=vd hf rk;have lf:fs.length=fd.length:=by have:=congrArg T5 hf.1;simpa using this
  have li:i < δ.length:=(OB.mp ei).1;intro g og hg;have lg:l≠g:=λz=>by rw [z,hg] at h1;cases h1
  refine⟨_,x1,l,C,dx,fs,rfl,by rw [az lg];exact h1,hc,hn1,VH,?_⟩;rw [xC λp hp=>(kk p hp).1];intro u ou hu;have lu:l≠u:=λz=>by rw [z,bh] at hu;cases hu
  have gu:g≠u:=λz=>by rw [<-z,az (Ne.symm lg),bh] at hu;cases hu
  have hu0:H u=none:=by rw [az (Ne.symm lu),az (Ne.symm gu)] at hu;exact hu
  refine⟨_,x1,l,C,dx,fs++[(bY,.ref g)],rfl,by rw [az lu,bh],hc,hn2,by simp;omega,?_⟩;rw [xC λp hp=>(OL.mp hp).elim (λz=>(kk p z).2.1) λz=>by
   simp only [OO] at z;subst z;exact BA]
  rw [SH];have eh:ai (ai (ai (ai H g (.frz og (.dK []))) l (.ins C dx (fs++[(bY,.ref g)]))) u (.frz ou (.dK []))) l (.ins C dx (fs++([(bY,.ref g)]++[(cP,.ref u)])))=ai (ai (ai H g (.frz og (.dK []))) u (.frz ou (.dK []))) l (.ins C dx (fs++[(bY,.ref g),(cP,.ref u)])):=by
   funext b;unfold ai;by_cases b1:b=l
   ·simp [b1]
   ·by_cases b2:b=u <;> simp [b1,b2]
  rw [eh];have sm:aw H (ai (ai H g (.frz og (.dK []))) u (.frz ou (.dK []))):=(aw.new hg).trans (aw.new (by rw [az (Ne.symm gu)];exact hu0));have w1:=w.mono sm;have g0:H0 g=none:=by
   cases e:H0 g with
   | none=>rfl
   | some o=>rw [w.same _ _ e] at hg;cases hg
  have u0:H0 u=none:=by
   cases e:H0 u with
   | none=>rfl
   | some o=>rw [w.same _ _ e] at hu0;cases hu0
  have ng:¬O g:=λz=>w.trk g z hg;have nu:¬O u:=λz=>w.trk u z hu0;generalize hH2:ai (ai H g (.frz og (.dK []))) u (.frz ou (.dK []))=H2 at sm w1⊢;have g2:H2 g=some (.frz og (.dK [])):=by rw [<-hH2,az gu,bh]
  have u2:H2 u=some (.frz ou (.dK [])):=by rw [<-hH2,bh]
  have out:∀b,H b≠none->b≠g/\b≠u:=λb hb=>⟨λz=>hb (by rw [z];exact hg),λz=>hb (by rw [z];exact hu0)⟩;have S:aN H (ai H2 l (.ins C dx (fs++[(bY,.ref g),(cP,.ref u)]))) O (λa=>O a\/a=g\/a=u):=⟨λb o e n=>by rw [az (λz=>n (by rw [z];exact x2))];exact sm b o e,λb hb n z=>by
   rcases z with z | z | z
   ·exact n z
   ·exact(out b hb).1 z
   ·exact(out b hb).2 z⟩
  refine⟨λa=>O a\/a=g\/a=u,δ.set i (some (.r l C g u fd [] [])),E,⟨λb o e=>?_,λa z=>.inl (w.sub a z),λa z=>?_,λa z=>?_,by simp [w.len],λj y e=>?_,λj k y z a e1 y1 e2 z2 e3 e4=>?_⟩,q g u,λO2 δ2 σ2 H2 z2 w2 S2=>k1 O2 δ2 σ2 H2 z2 w2 (S.trans S2),k2,λO2 δ2 σ2 H2 z2 w2 S2=>k3 O2 δ2 σ2 H2 z2 w2 (S.trans S2),λO2 δ2 σ2 H2 z2 w2 S2=>k4 O2 δ2 σ2 H2 z2 w2 (S.trans S2)⟩
  ·have l0:H0 l=none:=(w.new l x2).resolve_left x3;rw [az (λz=>by rw [z,l0] at e;cases e)];exact w1.same b o e
  ·rcases z with z | z | z
   ·exact w.new a z
   ·rw [z];exact .inr g0
   ·rw [z];exact .inr u0
  ·by_cases al:a=l
   ·rw [al,bh];exact λz=>nomatch z
   ·rw [az al];rcases z with z | z | z
    ·exact w1.trk a z
    ·rw [z,g2];exact λz=>nomatch z
    ·rw [z,u2];exact λz=>nomatch z
  ·by_cases hj:j=i
   ·subst hj;rw [OS li] at e;cases e;exact⟨by rw [x1];rfl,.inl x2,x3,dx,fs,og,ou,[],[],bh,⟨hf.1,hf.2.step S⟩,gu,⟨.inr (.inl rfl),λz=>ng (w.sub _ z),by rw [az (Ne.symm lg)];exact g2,.nil⟩,.inr (.inr rfl),λz=>nu (w.sub _ z),by rw [az (Ne.symm lu)];exact u2,.nil⟩
   ·rw [OG (Ne.symm hj)] at e;refine(w.sl j y e).go S (λb o ho' e' a1 a2 a3=>⟨.inl a1,?_⟩) (λb o z a1 a2 a3=>⟨.inl a1,?_⟩) λb o a1 a3=>?_
    ·have nb:b≠l:=λz=>by
      subst z
      match y,ho',e with
      | some z,ho',e=>exact hj (w.dis j i z _ b e (by cases z <;> first | trivial | cases ho') ei trivial (fi e') x1)
     rw [az nb];exact sm _ _ a3
    ·rw [az (λz=>by rw [z,h1] at a3;cases a3)];exact sm _ _ a3
    ·rw [az (λz=>x3 (by rw [<-z];exact a1))];exact sm _ _ a3
  ·have d7:∀{j:Nat}{y:Sl},(δ.set i (some (.r l C g u fd [] [])))[j]?=some (some y)->y.own->∃y',δ[j]?=some (some y')/\y'.own:=λ{j y} q hq=>by
    by_cases hj:j=i
    ·subst hj;exact⟨_,ei,trivial⟩
    ·rw [OG (Ne.symm hj)] at q;exact⟨_,q,hq⟩
   obtain⟨_,q1,r1⟩:=d7 e1 y1;obtain⟨_,q2,r2⟩:=d7 e2 z2;exact w.dis j k _ _ a q1 r1 q2 r2 e3 e4
def ve(j:Nat)(dg:DG)(tb:DS):DS:=λE δ=>∃es,δ[j]?=some (some (.b es))/\j6 dg tb E es δ
theorem Kg{j:Nat}{tg iter:VV}{g:TG}{dg:DG}{tb:DS}{body:List V1}{pos:Pos}(h0:∀a,O0 a->H0 a≠none)(hp:W2 (VU X.prog X.w) X.A X.env X.xe)(hc:X.calm=true)(hi:PE X iter (cJ j))(hg:PG X tg g)(gd:GD X.K g dg)(hb:bQ X body (bo X.K H0 O0 tb))(hs:∀x,V3 iter X.env x=pure x:=by intro _;rfl):
 PS X (.For tg iter body [] pos) (bo X.K H0 O0 (ve j dg tb)):=
 (tY hp hc (tW hi) hg hb hs).imp λD σ H uu58=>by
  obtain⟨O,δ,E,w,⟨es,ej,Iv,q0,qs,qe⟩,k1,k2,k3,k4⟩:=uu58;obtain⟨l,vs,h1,h2,h3,r⟩:=w.lent ej;have hl0:H0 l=some (.lst vs):=by
   cases e:H0 l with
   | none=>exact absurd e (h0 l h2)
   | some o=>rw [w.same _ _ e] at h3;rw [h3]
  refine⟨_,h1,l,rfl,⟨vs,.inl (.inl h3)⟩,?_⟩;have S:cy (qY X.K l) (λH'=>ri H l H') vs:=cy.list (.inl (.inl h3));have hP:∀H',aw H0 H'->ri H l H':=λH' s o e=>by rw [h3] at e;cases e;exact s _ _ hl0
  refine⟨λi m σ' H'=>∃O' δ',m=vs.length - i/\i<=vs.length/\Wd X.K H0 O0 H' O' σ' δ'/\aN H H' O O'/\Iv i δ',⟨vs.length,O,δ,by simp,Pe _,w,aN.refl _ _,q0⟩,?_⟩;rintro i m σ1 H1 ⟨O1,δ1,rfl,hi,w1,S1,q1⟩;by_cases hlt:i < vs.length
  ·refine .inr ⟨S.go i H1 (hP _ w1.same) hlt,λσ' H'=>∃O' δ',Wd X.K H0 O0 H' O' σ' δ'/\aN H H' O O'/\Iv (i+1) δ',λσ' H' uu59=>by obtain⟨O',δ',w',S',q'⟩:=uu59;exact⟨vs.length - (i+1),VH,O',δ',rfl,hlt,w',S',q'⟩,λx H' y=>?_⟩;have yy:=S.yl i H1 x H' (hP _ w1.same) hlt y;clear y;obtain⟨e,y⟩:=yy;subst e;obtain⟨d,ed,rd⟩:=r.get y;refine gd H0 O0 _ O1 σ1 δ1 x d _ _ w1 (rd.step S1) (qs i d δ1 ed q1) λδ2 σ2 q2 w2=>?_;refine⟨O1,δ2,_,w2,q2,λO' δ' σ' H' z w' S'=>⟨O',δ',w',S1.trans S',z⟩,k2,λO' δ' σ' H' z w' S'=>k1 O' δ' σ' H' z w' (S1.trans S'),λO' δ' σ' H' z w' S'=>⟨O',δ',w',S1.trans S',z⟩⟩
  ·have e:i=vs.length:=VH
   subst e;refine .inl ⟨S.st _ H1 (hP _ w1.same) (Oj _),?_⟩;rw [r.length] at q1;exact k1 O1 δ1 σ1 H1 (qe δ1 q1) w1 S1
def BH(j:Nat)(F:List VL->List VL->(VL->Prop)->Prop)(t1 t2 t3:DT):DT:=λδ Q=>t1 δ λd1=>t2 δ λd2=>t3 δ λd3=>∃es,δ[j]?=some (some (.o es))/\F [d1,d2,d3] es Q
theorem Kh{f:VO}{j k:Nat}{x:Str}{a b c y:VV}{t1 t2 t3:DT}{fdt:VX}{ps:List Str}{E:XK}{F:List VL->List VL->(VL->Prop)->Prop}{p pos:Pos}
 (Fk:aF X.prog X.w X.K X.mg X.base CX0 k f fdt ps (xv X.K F))(hr:bf k X.A)(hg:Gl X x)(hm:X.mg x=some (.ref f))(hk:Ot X.K (.ref f)=true)(hb:aJ X.K fdt ps [])(hx:hG CX0 X E)(ha:DE X H0 O0 a t1)(hb2:DE X H0 O0 b t2)(hc:DE X H0 O0 c t3)(hy:PE X y (cJ j))
 (hdb:(x==("__debug__":Str))=false:=by decide)(he:VT [a,b,c,y] X.env=(false,eval a X.env)::VT [b,c,y] X.env:=by rfl)(he2:VT [b,c,y] X.env=(false,eval b X.env)::VT [c,y] X.env:=by rfl)(he3:VT [c,y] X.env=(false,eval c X.env)::VT [y] X.env:=by rfl)(he4:VT [y] X.env=(false,eval y X.env)::VT [] X.env:=by rfl)(hpl:(V5 pos (VT [b,c,y] X.env)).any (·.1)=false:=by rfl):
 DE X H0 O0 (.Call (.Name x p) [a,b,c,y] [] pos) (BH j F t1 t2 t3):=
 (aR Fk hr hg hm hk hb .nil hx (e7 ha (e7 hb2 (e7 hc (e7 hy iO he4) he3) he2) he) hdb he hpl).imp λσ H Q uu60=>by
  obtain⟨O,δ,Qd,w,q,k⟩:=uu60;refine⟨O,δ,_,w,q,λd1 v1 H1 q1 s1 r1=>⟨O,δ,_,w.mono s1,q1,λd2 v2 H2 q2 s2 r2=>⟨O,δ,_,w.mono (s1.trans s2),q2,λd3 v3 H3 ⟨es,ej,q3⟩ s3 r3=>?_⟩⟩⟩;have w3:=w.mono (s1.trans (s2.trans s3));obtain⟨l,ws,h1,h2,h3,h4,h5⟩:=w3.own ej;exact⟨_,h1,O,[v1,v2,v3],l,ws,[d1,d2,d3],es,Qd,rfl,w3.trk,.cons (r1.mono (s2.trans s3)) (.cons (r2.mono s3) (.cons r3 .nil)),h2,h4,h5,q3,λd v H4 q4 s4 r4=>k d v H4 q4 (s1.trans (s2.trans (s3.trans s4))) r4⟩
end
open PySem PySem.Spec PyProof.Rows PySem.W PySem.Calls
theorem Ki{K:Oe}{H0:Hp}{O0:Ex}{a:VO}{vs:List V}{xs:List VL}{g:TG}{dg:DG}{tc:TT}{dc:DB}{te:TE}{de:DT}{k:Nat}{fr:List Nat}{σ:St}{H:Hp}{O:Ex}{δ:Dl}{Qd:List VL->Prop}{Q:VK}(hr:Rd H a (.lst vs))(ho:¬O a)(gd:GD K g dg)(hf:fr.Nodup)
 (hk:∀v:V,∀σ':St,∀H':Hp,∀R:St->Hp->Prop,g v (bt k fr σ) H' R->g v (bt k fr σ) H' λσ2 H2=>mO (bt k fr σ) σ2/\R σ2 H2)
 (hc:∀σ H Q,bK K H0 O0 dc σ H Q->tc σ H Q)(he:∀σ H Q,up K H0 O0 de σ H Q->te σ H Q)
 (r1:aj K H O vs xs)(w:Wd K H0 O0 H O σ δ)(hz:vs.length<=VW)(q:gb dg dc de (cv k fr δ) (iu 0 xs) Qd)
 (k1:∀ds us p H',Qd ds->aw H H'->H' p=none->aj K H' O us ds->Q (.ref p) (ai H' p (.lst us))):qv (xa K a) g tc te k fr σ H Q:=by
 obtain⟨Iv,q0,qs,qe⟩:=q;intro D hD;have w0:Wd K H0 O0 H O (bt k fr σ) (cv k fr δ):=w.comp hf;have nD:¬O D:=λz=>w.trk D z hD;have D0:H0 D=none:=by
  cases e:H0 D with
  | none=>rfl
  | some o=>rw [w.same _ _ e] at hD;cases hD
 have ex:∀H',iR D H H'->H' D≠none->Wd K H0 O0 H' (λa=>O a\/a=D) (bt k fr σ) (cv k fr δ):=λH' s' hd=>by
  have S':aN H H' O (λa=>O a\/a=D):=⟨λb o e _=>s' b o e (cM e hD),λb hb hn z=>z.elim hn λq=>hb (by rw [q];exact hD)⟩;refine⟨λb o e=>s' b o (w.same b o e) (λz=>by rw [z,D0] at e;cases e),λl z=>.inl (w.sub l z),λl z=>z.elim (w.new l) λq=>.inr (by rw [q];exact D0),λl z=>?_,w0.len,λj y e=>?_,w0.dis⟩
  ·by_cases ql:l=D
   ·rw [ql];exact hd
   ·have hl:=w.trk l (z.resolve_right ql);cases e:H l with
    | none=>exact absurd e hl
    | some o=>rw [s' l o e ql];exact λz=>nomatch z
  ·exact(w0.sl j y e).go S' (λl o _ _ a1 _ a3=>⟨.inl a1,s' _ _ a3 (λz=>nD (by rw [<-z];exact a1))⟩) (λa o u a1 _ a3=>⟨.inl a1,s' _ _ a3 (λz=>nD (by rw [<-z];exact a1))⟩) λa o a1 a3=>s' _ _ a3 (λz=>nD (by rw [<-z];exact w.sub _ a1))
 have zl:(iu 0 xs).length=vs.length:=by rw [xb,r1.length]
 have sq:∀H',iR D H H'->bg K H' a vs:=λH' s'=>.inl (hr.same λo e=>s' _ _ e (cM e hD));refine⟨λi m H'=>∃acc ws,m=vs.length - i/\i<=vs.length/\iR D H H'/\H' D=some (.lst ws)/\ws.length<=i/\aj K H' (λa=>O a\/a=D) ws acc/\Iv i acc,⟨vs.length,[],[],by simp,Pe _,λb o e n=>by rw [az n];exact e,bh,Pe _,.nil,q0⟩,?_⟩;rintro i m H1 ⟨acc,ws,rfl,hi,s1,e1,hy,ra,q1⟩;have sa:=sq H1 s1;by_cases hlt:i < vs.length
 ·refine .inr ⟨⟨vs,vs[i],sa,by simp [hlt]⟩,λx H' y=>?_⟩;obtain⟨p,v,hp,rfl,rfl,hv⟩:=y;obtain⟨d,ed,rd⟩:=r1.get (hv vs sa);have pD:p≠D:=λz=>by rw [z,e1] at hp;cases hp
  have s2:iR D H (ai H1 p (.tup [.int (i:Int),v])):=λb o e n=>by
   have e':=s1 b o e n;rw [az (λz=>by rw [z,hp] at e';cases e')];exact e'
  have e2:(ai H1 p (.tup [.int (i:Int),v])) D=some (.lst ws):=by rw [az (Ne.symm pD)];exact e1
  have w1:=ex _ s2 (by rw [e2];exact λz=>nomatch z);have sm:aw H1 (ai H1 p (.tup [.int (i:Int),v])):=aw.new hp;have S':aN H (ai H1 p (.tup [.int (i:Int),v])) O (λa=>O a\/a=D):=⟨λb o e _=>s2 b o e (cM e hD),λb hb hn z=>z.elim hn λq=>hb (by rw [q];exact hD)⟩;have np:¬(O p\/p=D):=λz=>z.elim (λz=>by
   have:=w.trk p z;cases eh:H p with
   | none=>exact this eh
   | some o=>rw [s1 p o eh pD] at hp;cases hp) pD
  have dt:Dt K (ai H1 p (.tup [.int (i:Int),v])) (λa=>O a\/a=D) (.ref p) (.tuple [.int (i:Int),d]):= .tup (.inl bh) np (.cons (.int _) (.cons (rd.step S') .nil));have ez:(iu 0 xs)[i]?=some (.tuple [.int (i:Int),d]):=by rw [xc,ed];simp
  refine hk (.ref p) σ _ _ (gd H0 O0 _ _ _ _ (.ref p) _ _ _ w1 dt (qs i _ acc ez q1) λδ2 σ2 q2 w2=>?_);refine hc σ2 _ _ ⟨_,δ2,_,w2,q2,λok H3 q3 s3=>?_⟩;cases ok with
  | true=>
   rw [VJ rfl];refine he σ2 H3 _ ⟨_,δ2,_,w2.mono s3,q3,λd' v' H4 q4 s4 r4=>?_⟩;have e4:=s4 _ _ (s3 _ _ e2);have sD:aN H4 (ai H4 D (.lst (ws++[v']))) (λa=>O a\/a=D) (λa=>O a\/a=D):=⟨λb o e n=>by rw [az (λz=>n (.inr z))];exact e,λ_ _ n=>n⟩;refine⟨ws,e4,VH,vs.length - (i+1),VH,acc++[d'],ws++[v'],rfl,hlt,λb o e n=>by rw [az n];exact s4 _ _ (s3 _ _ (s2 b o e n)),bh,by simpa using hy,?_,q4⟩;exact((ra.mono ((sm.trans s3).trans s4)).append (.cons r4 .nil)).step sD
  | false=>
   rw [VI VG];exact⟨vs.length - (i+1),VH,acc,ws,rfl,hlt,λb o e n=>s3 _ _ (s2 b o e n),s3 _ _ e2,VH,ra.mono (sm.trans s3),q3⟩
 ·have e:i=vs.length:=VH
  subst e;refine .inl ⟨⟨vs,sa,Oj _⟩,?_⟩;rw [<-zl] at q1;have hrest:∃H2:Hp,H2 D=none/\aw H H2/\H1=ai H2 D (.lst ws):=by
   refine⟨λb=>if b=D then none else H1 b,by simp,λb o e=>?_,?_⟩
   ·have n:=cM e hD;show(if b=D then none else H1 b)=some o;rw [VI n];exact s1 b o e n
   ·funext b;by_cases z:b=D
    ·rw [z,bh];exact e1
    ·rw [az z];show H1 b=if b=D then none else H1 b;rw [VI z]
  obtain⟨H2,h2,s2,rfl⟩:=hrest;refine k1 acc ws D H2 (qe acc q1) s2 h2 (ra.step ⟨λb o e n=>?_,λb _ n z=>n (.inl z)⟩);rw [az (λz=>n (.inr z))] at e;exact e
def xD(ta:DA)(g:DG)(tc:DB)(te:DT)(k:Nat)(fr:List Nat):DA:=λδ Q=>ta δ λds=>∃xs,ds=[.list xs]/\xs.length<=VW/\gb g tc te (cv k fr δ) (iu 0 xs) Q
section
variable {X:Cx} {H0:Hp} {O0:Ex} {elts:List VV} {k0:Nat} {tp:Pos} {elt:VV} {ifs:List VV} {scope:Wn} {N':List Str} {k:Nat} {fr:List Nat} {g:TG} {dg:DG} {ta:DA} {tc:DB} {te:DT} {pos p ps:Pos} {a:VV}
theorem Kj(hc:X.calm=true)(S:bb X.env.scope X.N N' k fr scope)(hgl:Gl X "enumerate")(hm:X.mg "enumerate"=none)(ha:PA X [a] (fV X.K H0 O0 ta))(gd:GD X.K g dg)(hk:ie g k)(hfr:fr.Nodup)
 (hg:∀fp C s H,PG (br X scope N' fp C s H) (.Tuple elts k0 tp) g)(hf:∀fp C s H,dZ (br X scope N' fp C s H) ifs (bK X.K H0 O0 tc))(he:∀fp C s H,PE (br X scope N' fp C s H) elt (up X.K H0 O0 te))
 (hst:VT [a] X.env=[(false,eval a X.env)]:=by rfl)(hs:∀x,V3 (.Call (.Name "enumerate" p) [a] [] ps) X.env x=pure x:=by intro _;rfl):
 PU X (.ListComp elt [⟨.Tuple elts k0 tp,(.Call (.Name "enumerate" p) [a] [] ps),ifs,0⟩] scope pos) (qx X.K H0 O0 (xD ta dg tc te k fr)):=
 (uN hc S (JQ hgl hm ha hst) hg hf he hs).imp λσ H Q uu62=>by obtain⟨O,δ,Qd,w,q,kk⟩:=uu62;exact⟨O,δ,_,w,q,λds vs H1 uu63 s1 r1=>by
  obtain⟨xs,e,hz,q1⟩:=uu63;subst e;cases r1 with
  | cons h r=>
   cases r;cases h with
   | lst h n r=>
    exact⟨_,_,rfl,h,λD hD=>Ki h n gd hfr (λv _ H' R h=>hk fr σ v H' R h) (λ_ _ _ z=>z) (λ_ _ _ z=>z) r (w.mono s1) (by rw [r.length];exact hz) q1 (λds us p H' z s' hp r'=>kk ds us p H' z (s1.trans s') hp r') D hD⟩⟩
end
def xE(lo st:Int)(n:Nat):It:=⟨λi _=>i < n,λi H x H'=>H'=H/\x= .int (lo+i*st),λi _=>n<=i⟩
theorem Kk{P:VY}{w:VZ}{K:Oe}{tg:VV}(it:VO)(lo st:Int)(n:Nat):qX P w K tg (xE lo st n) [it] it (λi h=>IsRangeIter h it (lo+(i:Nat)*st) ((n:Int) - (i:Nat)) st) where
 mem:=by simp
 obj:=λi h st b hb=>by
  have e:b=it:=by simpa using hb
  subst e;exact⟨_,st,λv z=>by
   have z':Vu _=Data.cell v:=z;cases z'⟩
 keep:=λi h h' st k=>k it (by simp) _ st
 item:=by
  intro X hP hw hK hc i pins s σ H E I hf st' hg;subst hP hw hK;obtain⟨f0,f1,f2,f3,f4,f5⟩:=hf it (by simp);have W:=Vv (prog:=X.prog) (w:=X.w) (I.ok.hd hc) it lo st n;refine W.item i s _ _ hg st' λv h' tk hv st' kk=>?_;obtain⟨t,rfl⟩:=hv;have I1:af X pins σ H {s with heap:=h',toks:=tk}:=I.turned (λb o hb e=>kk b o (by simpa using hb) e) f0 f1 f3 f4 f5;exact⟨_,rfl,tV (s:={s with heap:=h',toks:=tk}) (n:="range_iterator") st' rfl rfl VG ⟨.int (lo+i*st),H,I1,⟨t,rfl⟩,⟨rfl,rfl⟩,st',λb hb=>(hf b hb).1⟩⟩
 done:=by
  intro X hP hw hK hc i pins s σ H E I hf st' hg;subst hP hw hK;obtain⟨f0,f1,f2,f3,f4,f5⟩:=hf it (by simp);exact wpAny_pyNext_range_end (I.ok.hd hc) st' (by have:n<=i:=hg;omega) λh' eb=>⟨rfl,I.turned (t':=s.toks) (λb o hb e=>eb b o hb e) f0 f1 f3 f4 f5⟩
 self:=λ_ _ _ _ _ st h=>wpAny_pyIter_rangeiter st h
def Kl(ta:TA):TI:=λσ H R=>ta σ H λvs H1=>∃(i j c:Int)(n:Nat),vs=[.int i,.int j,.int c]/\c≠0/\Um i j c=true/\(S9 (j - i) c=false)/\RO i j c=(n:Int)/\R (xE i c n) H1
theorem Km{X:Cx}{tg:VV}{a b d:VV}{ta:TA}{p pos:Pos}(hg:Gl X "range")(hm:X.mg "range"=none)(ha:PA X [a,b,d] ta)(hs:VT [a,b,d] X.env=(false,eval a X.env)::VT [b,d] X.env:=by rfl)(hpl:(V5 pos (VT [b,d] X.env)).any (·.1)=false:=by rfl):
 PI X tg (.Call (.Name "range" p) [a,b,d] [] pos) (Kl ta):=by
 intro pins s σ H R I h;refine Call_ (qW I hg hm boot_range (Rk (aB (ha pos pins s σ H _ I h) λus s1 ⟨vs,H1,I1,r1,q1⟩=>?_) hs hpl));obtain⟨i,j,c,n,e,c0,sm,dp,rs,q⟩:=q1;subst e;cases r1 with
 | cons r rr=>
  cases rr with
  | cons r' rr=>
   cases rr with
   | cons r2 rr=>
    cases rr;obtain⟨t,rfl⟩:=r;obtain⟨t',rfl⟩:=r';obtain⟨t2,rfl⟩:=r2;refine call_range_3 c0 (wpAny_pyIter_range (Vw ..) sm ?_) (.inl dp);have I2:af X pins σ H1 {s1 with heap:=s1.heap.push {cls:= .type "range",data:= .fields #[.int i t,.int j t',.int c t2]},toks:=s1.toks}:=I1.kept λb o e=>Oo _ e;refine⟨(s1.heap.push {cls:= .type "range",data:= .fields #[.int i t,.int j t',.int c t2]}).objs.size,[(s1.heap.push {cls:= .type "range",data:= .fields #[.int i t,.int j t',.int c t2]}).objs.size],_,_,H1,rfl,
     I2.kept (t':=s1.toks) λb o e=>Oo _ e,Kk _ i c n,?_,λb hb=>?_,q⟩
    ·have e1:i+((0:Nat):Int)*c=i:=by simp
     have e2:(n:Int) - ((0:Nat):Int)=RO i j c:=by rw [rs];omega
     show IsRangeIter _ _ (i+((0:Nat):Int)*c) ((n:Int) - ((0:Nat):Int)) c;rw [e1,e2];exact OR _ rfl
    ·have e:b=(s1.heap.push {cls:= .type "range",data:= .fields #[.int i t,.int j t',.int c t2]}).objs.size:=by simpa using hb
     subst e;exact I2.fpOk (Oj _) (I2.hok.fresh (Oj _))
def BI(lo st:Int)(n:Nat):List VL:=(Qa n).map λ(k:Nat)=>.int (lo+k*st)
theorem cy.rng3{lo st:Int}{n:Nat}:cy (xE lo st n) (λ_=>True) ((Qa n).map λ(k:Nat)=>V.int (lo+k*st)):=by
 refine⟨λi H' s hi=>(by simpa using hi:i < n),λi H' x H'' s hi y=>⟨y.1,?_⟩,λi H' s hi=>(by simpa using hi:n<=i)⟩;obtain⟨_,rfl⟩:=y;have hn:i < n:=by simpa using hi
 simp [hn]
theorem aj.rng3{K:Oe}{H:Hp}{O:Ex}{lo st:Int}:∀(l:List Nat),aj K H O (l.map λ(k:Nat)=>V.int (lo+k*st)) (l.map λ(k:Nat)=>OZ (lo+k*st))
 | []=>.nil
 | n::r=>.cons (.int _) (aj.rng3 r)
def xF(ta:DA)(g:DG)(tc:DB)(te:DT)(k:Nat)(fr:List Nat):DA:=λδ Q=>ta δ λds=>∃(i j c:Int)(n:Nat),ds=[.int i,.int j,.int c]/\c≠0/\Um i j c=true/\S9 (j - i) c=false/\RO i j c=(n:Int)/\n<=VW/\gb g tc te (cv k fr δ) (BI i c n) Q
section
variable {X:Cx} {H0:Hp} {O0:Ex} {tg elt:VV} {ifs:List VV} {scope:Wn} {N':List Str} {k:Nat} {fr:List Nat} {g:TG} {dg:DG} {ta:DA} {tc:DB} {te:DT} {pos p ps:Pos} {a b d:VV}
theorem Kn(hc:X.calm=true)(S:bb X.env.scope X.N N' k fr scope)(hgl:Gl X "range")(hm:X.mg "range"=none)(ha:PA X [a,b,d] (gI X.K H0 O0 ta))(gd:GD X.K g dg)(hk:ie g k)(hfr:fr.Nodup)
 (hg:∀fp C s H,PG (br X scope N' fp C s H) tg g)(hf:∀fp C s H,dZ (br X scope N' fp C s H) ifs (bK X.K H0 O0 tc))(he:∀fp C s H,PE (br X scope N' fp C s H) elt (up X.K H0 O0 te))
 (hst:VT [a,b,d] X.env=(false,eval a X.env)::VT [b,d] X.env:=by rfl)(hpl:(V5 ps (VT [b,d] X.env)).any (·.1)=false:=by rfl)(hs:∀x,V3 (.Call (.Name "range" p) [a,b,d] [] ps) X.env x=pure x:=by intro _;rfl):
 FE X H0 O0 (.ListComp elt [⟨tg,(.Call (.Name "range" p) [a,b,d] [] ps),ifs,0⟩] scope pos) (xF ta dg tc te k fr):=
 (uo hc S (Km hgl hm ha hst hpl) hg hf he hs).imp λσ H Q uu65=>by obtain⟨O,δ,Qd,w,q,kk⟩:=uu65;exact⟨O,δ,_,w,q,λds vs H1 uu66 s1 r1=>by
  obtain⟨i,j,c,n,e,c0,sm,dp,rs,nz,q1⟩:=uu66;subst e;cases r1 with
  | cons r1 r2=>
   cases r2 with
   | cons r2 r3=>
    cases r3 with
    | cons r3 r4=>
     cases r4;cases r1.int;cases r2.int;cases r3.int;exact⟨i,j,c,n,rfl,c0,sm,dp,rs,λD hD=>qC (P:=λ_=>True) cy.rng3 gd hfr (λv _ H' R h=>hk fr σ v H' R h) (λ_ _ _ z=>z) (λ_ _ _ z=>z) (λ_ _ _ _=>trivial) (aj.rng3 _) (w.mono s1) (by rw [Of,RX];exact nz) q1 (λds us p H' z s' hp r'=>kk ds us p H' z (s1.trans s') hp r') D hD⟩⟩
end
end L2
namespace K78
open PySem L2
def aX(i:Nat):V1:=PySem.Challenge.pw_goneday_k78_whole_days_moved.main.body.getD i (.Pass ⟨0,0,0,0⟩)
abbrev pR:V1:=aX 8
abbrev pT:V1:=aX 9
abbrev pU:V1:=aX 10
abbrev pV:V1:=aX 11
abbrev pW:V1:=aX 12
abbrev pX:V1:=aX 13
abbrev pY:V1:=aX 14
abbrev lQ:V1:=aX 15
abbrev i9:V1:=L2.inClass (aX 17) 0
abbrev lR:V1:=aX 18
abbrev ja:V1:=aX 19
abbrev lT:V1:=aX 20
abbrev jb:V1:=aX 21
abbrev iw:V1:=aX 22
abbrev jc:V1:=aX 23
abbrev jd:V1:=aX 24
abbrev je:V1:=aX 26
abbrev jf:V1:=aX 27
abbrev jg:V1:=aX 28
abbrev lU:V1:=aX 29
abbrev jh:V1:=aX 30
abbrev ji:V1:=aX 31
abbrev jj:V1:=aX 32
abbrev lV:V1:=aX 33
abbrev jk:V1:=aX 35
abbrev lW:V1:=aX 36
abbrev jm:V1:=aX 37
abbrev jn:V1:=aX 38
abbrev jo:V1:=aX 39
abbrev lX:V1:=aX 41
abbrev jq:V1:=aX 42
abbrev ix:V1:=aX 43
abbrev lY:V1:=L2.inClass (aX 45) 0
abbrev lZ:V1:=L2.inClass (aX 45) 1
abbrev md:V1:=L2.inClass (aX 45) 2
abbrev jr:V1:=L2.inClass (aX 46) 0
abbrev me:V1:=L2.inClass (aX 46) 1
abbrev mf:V1:=L2.inClass (aX 46) 2
abbrev gM:V1:=L2.inClass (aX 46) 3
abbrev js:V1:=aX 47
abbrev mh:V1:=aX 48
abbrev mi:V1:=aX 49
abbrev jt:V1:=aX 50
abbrev mj:V1:=aX 51
abbrev ju:V1:=aX 53
abbrev mm:V1:=aX 54
abbrev iy:V1:=aX 55
abbrev mq:V1:=aX 57
abbrev mr:V1:=aX 58
abbrev gN:V1:=aX 59
abbrev mw:V1:=aX 60
abbrev mx:V1:=aX 61
abbrev jv:V1:=aX 62
abbrev my:V1:=aX 63
abbrev mz:V1:=aX 64
abbrev jw:V1:=aX 65
abbrev gO:V1:=aX 66
abbrev jx:V1:=aX 67
set_option genInjectivity false in
set_option genSizeOfSpec false in
structure cm where
 a_x0:VO
 d_x0:VX
 a_x1:VO
 d_x1:VX
 a_x2:VO
 d_x2:VX
 a_x3:VO
 d_x3:VX
 a_x4:VO
 d_x4:VX
 a_x5:VO
 d_x5:VX
 a_x6:VO
 d_x6:VX
 a_x7:VO
 d_x7:VX
 a_x8:VO
 d_x8:VX
 a_x9:VO
 d_x9:VX
 a_x10:VO
 d_x10:VX
 a_x11:VO
 d_x11:VX
 a_x12:VO
 d_x12:VX
 a_x13:VO
 d_x13:VX
 a_x14:VO
 d_x14:VX
 a_x15:VO
 d_x15:VX
 a_x16:VO
 d_x16:VX
 a_x17:VO
 d_x17:VX
 a_x18:VO
 d_x18:VX
 a_x19:VO
 d_x19:VX
 a_x20:VO
 d_x20:VX
 a_x21:VO
 d_x21:VX
 a_x22:VO
 d_x22:VX
 a_x23:VO
 d_x23:VX
 a_x24:VO
 d_x24:VX
 a_x25:VO
 d_x25:VX
 a_x26:VO
 d_x26:VX
 a_x27:VO
 d_x27:VX
 a_x28:VO
 d_x28:VX
 a_x29:VO
 d_x29:VX
 a_x30:VO
 d_x30:VX
 a_x31:VO
 d_x31:VX
 a_x32:VO
 d_x32:VX
 a_x33:VO
 d_x33:VX
 a_x34:VO
 d_x34:VX
 a_x35:VO
 d_x35:VX
 a_x36:VO
 d_x36:VX
 a_x37:VO
 d_x37:VX
 a_x38:VO
 d_x38:VX
 a_x39:VO
 d_x39:VX
 a_x40:VO
 d_x40:VX
 a_x41:VO
 d_x41:VX
 a_x42:VO
 d_x42:VX
 a_x43:VO
 d_x43:VX
 a_x44:VO
 d_x44:VX
 a_x45:VO
 d_x45:VX
 a_x46:VO
 d_x46:VX
 a_x47:VO
 d_x47:VX
 a_x48:VO
 d_x48:VX
 a_x49:VO
 d_x49:VX
 a_x50:VO
 d_x50:VX
 a_x51:VO
 d_x51:VX
 a_x52:VO
 d_x52:VX
 a_x53:VO
 d_x53:VX
 a_x54:VO
 d_x54:VX
 a_x55:VO
 d_x55:VX
 a_x56:VO
 d_x56:VX
 a_x57:VO
 d_x57:VX
 u_MONTH_DAYS:VM
 u_FIRST_YEAR:VM
 u_ROUND_DAYS:VM
 u_ROUND_YEARS:VM
 u_NoPaper:VO
 u_Paper:VO
 u_Look:VO
 u_Round:VO
structure Txt (K:Oe) (mg:Str->Option VM) (t:cm):Prop where
 F_x0:aP K "is_leap" "is_leap" pR t.a_x0 t.d_x0
 m_x0:mg "is_leap"=some (.ref t.a_x0)
 b_x0:aJ K t.d_x0 ["year"] []
 F_x1:aP K "month_length" "month_length" pT t.a_x1 t.d_x1
 m_x1:mg "month_length"=some (.ref t.a_x1)
 b_x1:aJ K t.d_x1 ["year","month"] []
 F_x2:aP K "leaps_before" "leaps_before" pU t.a_x2 t.d_x2
 m_x2:mg "leaps_before"=some (.ref t.a_x2)
 b_x2:aJ K t.d_x2 ["year"] []
 F_x3:aP K "year_start" "year_start" pV t.a_x3 t.d_x3
 m_x3:mg "year_start"=some (.ref t.a_x3)
 b_x3:aJ K t.d_x3 ["year"] []
 F_x4:aP K "year_of" "year_of" pW t.a_x4 t.d_x4
 m_x4:mg "year_of"=some (.ref t.a_x4)
 b_x4:aJ K t.d_x4 ["day"] []
 F_x5:aP K "parts_of" "parts_of" pX t.a_x5 t.d_x5
 m_x5:mg "parts_of"=some (.ref t.a_x5)
 b_x5:aJ K t.d_x5 ["day"] []
 F_x6:aP K "number_of" "number_of" pY t.a_x6 t.d_x6
 m_x6:mg "number_of"=some (.ref t.a_x6)
 b_x6:aJ K t.d_x6 ["year","month","day"] []
 F_x7:aP K "later" "later" lQ t.a_x7 t.d_x7
 m_x7:mg "later"=some (.ref t.a_x7)
 b_x7:aJ K t.d_x7 ["day","many","unit"] []
 F_x8:aP K "__init__" "Paper.__init__" i9 t.a_x8 t.d_x8
 b_x8:aJ K t.d_x8 ["self","deeds","name"] []
 F_x9:aP K "place_of" "place_of" lR t.a_x9 t.d_x9
 m_x9:mg "place_of"=some (.ref t.a_x9)
 b_x9:aJ K t.d_x9 ["deed"] []
 F_x10:aP K "comings" "comings" ja t.a_x10 t.d_x10
 m_x10:mg "comings"=some (.ref t.a_x10)
 b_x10:aJ K t.d_x10 ["deeds"] []
 F_x11:aP K "coming_of" "coming_of" lT t.a_x11 t.d_x11
 m_x11:mg "coming_of"=some (.ref t.a_x11)
 b_x11:aJ K t.d_x11 ["deeds","paper"] []
 F_x12:aP K "papers" "papers" jb t.a_x12 t.d_x12
 m_x12:mg "papers"=some (.ref t.a_x12)
 b_x12:aJ K t.d_x12 ["deeds"] []
 F_x13:aP K "maker_comings" "maker_comings" iw t.a_x13 t.d_x13
 m_x13:mg "maker_comings"=some (.ref t.a_x13)
 b_x13:aJ K t.d_x13 ["deeds","coming"] []
 F_x14:aP K "makers" "makers" jc t.a_x14 t.d_x14
 m_x14:mg "makers"=some (.ref t.a_x14)
 b_x14:aJ K t.d_x14 ["deeds","paper"] []
 F_x15:aP K "line_of" "line_of" jd t.a_x15 t.d_x15
 m_x15:mg "line_of"=some (.ref t.a_x15)
 b_x15:aJ K t.d_x15 ["deeds","paper"] []
 F_x16:aP K "latest" "latest" je t.a_x16 t.d_x16
 m_x16:mg "latest"=some (.ref t.a_x16)
 b_x16:aJ K t.d_x16 ["deeds","words","day"] []
 F_x17:aP K "rules_on" "rules_on" jf t.a_x17 t.d_x17
 m_x17:mg "rules_on"=some (.ref t.a_x17)
 b_x17:aJ K t.d_x17 ["deeds","day"] []
 F_x18:aP K "holds_on" "holds_on" jg t.a_x18 t.d_x18
 m_x18:mg "holds_on"=some (.ref t.a_x18)
 b_x18:aJ K t.d_x18 ["deeds","day"] []
 F_x19:aP K "is_told" "is_told" lU t.a_x19 t.d_x19
 m_x19:mg "is_told"=some (.ref t.a_x19)
 b_x19:aJ K t.d_x19 ["target","coming"] []
 F_x20:aP K "holding" "holding" jh t.a_x20 t.d_x20
 m_x20:mg "holding"=some (.ref t.a_x20)
 b_x20:aJ K t.d_x20 ["holds","line"] []
 F_x21:aP K "happened" "happened" ji t.a_x21 t.d_x21
 m_x21:mg "happened"=some (.ref t.a_x21)
 b_x21:aJ K t.d_x21 ["paper","happening"] []
 F_x22:aP K "base_of" "base_of" jj t.a_x22 t.d_x22
 m_x22:mg "base_of"=some (.ref t.a_x22)
 b_x22:aJ K t.d_x22 ["paper","since","day"] []
 F_x23:aP K "reckoned" "reckoned" lV t.a_x23 t.d_x23
 m_x23:mg "reckoned"=some (.ref t.a_x23)
 b_x23:aJ K t.d_x23 ["paper","parts","day"] []
 F_x24:aP K "rules_over" "rules_over" jk t.a_x24 t.d_x24
 m_x24:mg "rules_over"=some (.ref t.a_x24)
 b_x24:aJ K t.d_x24 ["paper","rules","day"] []
 F_x25:aP K "has_gone" "has_gone" lW t.a_x25 t.d_x25
 m_x25:mg "has_gone"=some (.ref t.a_x25)
 b_x25:aJ K t.d_x25 ["gone","paper","day"] []
 F_x26:aP K "staying" "staying" jm t.a_x26 t.d_x26
 m_x26:mg "staying"=some (.ref t.a_x26)
 b_x26:aJ K t.d_x26 ["paper","rules","day","gone"] []
 F_x27:aP K "going" "going" jn t.a_x27 t.d_x27
 m_x27:mg "going"=some (.ref t.a_x27)
 b_x27:aJ K t.d_x27 ["paper","rules","day","gone"] []
 F_x28:aP K "leave_rules" "leave_rules" jo t.a_x28 t.d_x28
 m_x28:mg "leave_rules"=some (.ref t.a_x28)
 b_x28:aJ K t.d_x28 ["kind","rules"] []
 F_x29:aP K "bases" "bases" lX t.a_x29 t.d_x29
 m_x29:mg "bases"=some (.ref t.a_x29)
 b_x29:aJ K t.d_x29 ["since","paper"] []
 F_x30:aP K "reckonings" "reckonings" jq t.a_x30 t.d_x30
 m_x30:mg "reckonings"=some (.ref t.a_x30)
 b_x30:aJ K t.d_x30 ["ready","parts"] []
 F_x31:aP K "turning_days" "turning_days" ix t.a_x31 t.d_x31
 m_x31:mg "turning_days"=some (.ref t.a_x31)
 b_x31:aJ K t.d_x31 ["deeds"] []
 F_x32:aP K "__init__" "Look.__init__" lY t.a_x32 t.d_x32
 b_x32:aJ K t.d_x32 ["self","day","paper","to_stay","to_go","bars","leave"] []
 F_x33:aP K "lets_go" "Look.lets_go" lZ t.a_x33 t.d_x33
 b_x33:aJ K t.d_x33 ["self"] []
 F_x34:aP K "as_row" "Look.as_row" md t.a_x34 t.d_x34
 b_x34:aJ K t.d_x34 ["self"] []
 F_x35:aP K "__init__" "Round.__init__" jr t.a_x35 t.d_x35
 b_x35:aJ K t.d_x35 ["self","deeds","day","done"] []
 F_x36:aP K "mark" "Round.mark" me t.a_x36 t.d_x36
 b_x36:aJ K t.d_x36 ["self","row"] []
 F_x37:aP K "unused" "Round.unused" mf t.a_x37 t.d_x37
 b_x37:aJ K t.d_x37 ["self","kind"] []
 F_x38:aP K "look" "Round.look" gM t.a_x38 t.d_x38
 b_x38:aJ K t.d_x38 ["self","paper","line"] []
 F_x39:aP K "shelf_of" "shelf_of" js t.a_x39 t.d_x39
 m_x39:mg "shelf_of"=some (.ref t.a_x39)
 b_x39:aJ K t.d_x39 ["deeds"] []
 F_x40:aP K "looks_on" "looks_on" mh t.a_x40 t.d_x40
 m_x40:mg "looks_on"=some (.ref t.a_x40)
 b_x40:aJ K t.d_x40 ["deeds","shelf","day","done"] []
 F_x41:aP K "walk" "walk" mi t.a_x41 t.d_x41
 m_x41:mg "walk"=some (.ref t.a_x41)
 b_x41:aJ K t.d_x41 ["deeds","days","done"] []
 F_x42:aP K "rows_of" "rows_of" jt t.a_x42 t.d_x42
 m_x42:mg "rows_of"=some (.ref t.a_x42)
 b_x42:aJ K t.d_x42 ["looks"] []
 F_x43:aP K "plan_looks" "plan_looks" mj t.a_x43 t.d_x43
 m_x43:mg "plan_looks"=some (.ref t.a_x43)
 b_x43:aJ K t.d_x43 ["deeds"] []
 F_x44:aP K "plan" "plan" ju t.a_x44 t.d_x44
 m_x44:mg "plan"=some (.ref t.a_x44)
 b_x44:aJ K t.d_x44 ["deeds"] []
 F_x45:aP K "days_of" "days_of" mm t.a_x45 t.d_x45
 m_x45:mg "days_of"=some (.ref t.a_x45)
 b_x45:aJ K t.d_x45 ["deeds"] []
 F_x46:aP K "there" "there" iy t.a_x46 t.d_x46
 m_x46:mg "there"=some (.ref t.a_x46)
 b_x46:aJ K t.d_x46 ["deeds","day"] []
 F_x47:aP K "_law_cell" "_law_cell" mq t.a_x47 t.d_x47
 m_x47:mg "_law_cell"=some (.ref t.a_x47)
 b_x47:aJ K t.d_x47 ["_law_script","_law_k"] []
 F_x48:aP K "_law_numbers" "_law_numbers" mr t.a_x48 t.d_x48
 m_x48:mg "_law_numbers"=some (.ref t.a_x48)
 b_x48:aJ K t.d_x48 ["_law_cell_here","_law_many"] []
 F_x49:aP K "_law_pool" "_law_pool" gN t.a_x49 t.d_x49
 m_x49:mg "_law_pool"=some (.ref t.a_x49)
 b_x49:aJ K t.d_x49 ["_law_x","_law_many"] []
 F_x50:aP K "_law_quarrel" "_law_quarrel" mw t.a_x50 t.d_x50
 m_x50:mg "_law_quarrel"=some (.ref t.a_x50)
 b_x50:aJ K t.d_x50 ["_law_one","_law_other"] []
 F_x51:aP K "_law_parts" "_law_parts" mx t.a_x51 t.d_x51
 m_x51:mg "_law_parts"=some (.ref t.a_x51)
 b_x51:aJ K t.d_x51 ["_law_xs","_law_kinds","_law_words"] []
 F_x52:aP K "_law_deed" "_law_deed" jv t.a_x52 t.d_x52
 m_x52:mg "_law_deed"=some (.ref t.a_x52)
 b_x52:aJ K t.d_x52 ["_law_sort_here","_law_xs","_law_pools_here"] []
 F_x53:aP K "_law_pools" "_law_pools" my t.a_x53 t.d_x53
 m_x53:mg "_law_pools"=some (.ref t.a_x53)
 b_x53:aJ K t.d_x53 ["_law_x"] []
 F_x54:aP K "_law_sort" "_law_sort" mz t.a_x54 t.d_x54
 m_x54:mg "_law_sort"=some (.ref t.a_x54)
 b_x54:aJ K t.d_x54 ["_law_k","_law_xs"] []
 F_x55:aP K "_law_set" "_law_set" jw t.a_x55 t.d_x55
 m_x55:mg "_law_set"=some (.ref t.a_x55)
 b_x55:aJ K t.d_x55 ["_law_script"] []
 F_x56:aP K "_law_moved_right" "_law_moved_right" gO t.a_x56 t.d_x56
 m_x56:mg "_law_moved_right"=some (.ref t.a_x56)
 b_x56:aJ K t.d_x56 ["_law_deeds","_law_by"] []
 F_x57:aP K "law" "law" jx t.a_x57 t.d_x57
 m_x57:mg "law"=some (.ref t.a_x57)
 b_x57:aJ K t.d_x57 ["_law_script"] []
 bt_x57:∀(s:VP)(u:VM),BindsTo s t.d_x57 ⟨[u],[]⟩ [("_law_script",u)]
 c_MONTH_DAYS:mg "MONTH_DAYS"=some t.u_MONTH_DAYS
 e_MONTH_DAYS:∃a,t.u_MONTH_DAYS= .ref a/\∀H,bz K H a [V.int 31,V.int 28,V.int 31,V.int 30,V.int 31,V.int 30,V.int 31,V.int 31,V.int 30,V.int 31,V.int 30,V.int 31]
 c_FIRST_YEAR:mg "FIRST_YEAR"=some t.u_FIRST_YEAR
 r_FIRST_YEAR:aE (.int 2000) t.u_FIRST_YEAR
 c_ROUND_DAYS:mg "ROUND_DAYS"=some t.u_ROUND_DAYS
 r_ROUND_DAYS:aE (.int 146097) t.u_ROUND_DAYS
 c_ROUND_YEARS:mg "ROUND_YEARS"=some t.u_ROUND_YEARS
 r_ROUND_YEARS:aE (.int 400) t.u_ROUND_YEARS
 c_NoPaper:mg "NoPaper"=some (.ref t.u_NoPaper)
 c_Paper:mg "Paper"=some (.ref t.u_Paper)
 c_Look:mg "Look"=some (.ref t.u_Look)
 c_Round:mg "Round"=some (.ref t.u_Round)
 cl_Paper:cO K t.u_Paper
 mk_Paper:Mk K t.u_Paper t.a_x8
 na_Paper_name:bX K t.u_Paper "name"
 na_Paper_coming:bX K t.u_Paper "coming"
 na_Paper_kind:bX K t.u_Paper "kind"
 na_Paper_makers:bX K t.u_Paper "makers"
 na_Paper_happenings:bX K t.u_Paper "happenings"
 cl_Look:cO K t.u_Look
 mk_Look:Mk K t.u_Look t.a_x32
 na_Look_day:bX K t.u_Look "day"
 na_Look_paper:bX K t.u_Look "paper"
 na_Look_to_stay:bX K t.u_Look "to_stay"
 na_Look_to_go:bX K t.u_Look "to_go"
 na_Look_bars:bX K t.u_Look "bars"
 na_Look_leave:bX K t.u_Look "leave"
 mt_Look_lets_go:g9 K t.u_Look "lets_go" t.a_x33
 mt_Look_as_row:g9 K t.u_Look "as_row" t.a_x34
 cl_Round:cO K t.u_Round
 mk_Round:Mk K t.u_Round t.a_x35
 na_Round_day:bX K t.u_Round "day"
 na_Round_rules:bX K t.u_Round "rules"
 na_Round_holds:bX K t.u_Round "holds"
 na_Round_leaves:bX K t.u_Round "leaves"
 na_Round_gone:bX K t.u_Round "gone"
 na_Round_used:bX K t.u_Round "used"
 mt_Round_mark:g9 K t.u_Round "mark" t.a_x36
 mt_Round_unused:g9 K t.u_Round "unused" t.a_x37
 mt_Round_look:g9 K t.u_Round "look" t.a_x38
 n_abs:mg "abs"=none
 n_all:mg "all"=none
 n_any:mg "any"=none
 n_enumerate:mg "enumerate"=none
 n_int:mg "int"=none
 n_len:mg "len"=none
 n_list:mg "list"=none
 n_max:mg "max"=none
 n_min:mg "min"=none
 n_range:mg "range"=none
 n_set:mg "set"=none
 n_sorted:mg "sorted"=none
 n_sum:mg "sum"=none
 n_tuple:mg "tuple"=none
theorem Ko:aV ["day","many","unit","months","parts","place","year","month"] ["day","many","unit"] (ag lQ):=⟨rfl,rfl,rfl,cp,rfl,cp,cp⟩
theorem BJ:aV ["self","deeds","name","coming"] ["self","deeds","name"] (ag i9):=⟨rfl,rfl,rfl,cp,rfl,cp,cp⟩
theorem Kp:aV ["deed"] ["deed"] (ag lR):=⟨rfl,rfl,rfl,cp,rfl,cp,cp⟩
theorem Kq:aV ["deeds"] ["deeds"] (ag ja):=⟨rfl,rfl,rfl,cp,rfl,cp,cp⟩
theorem BK:aV ["deeds","paper","deed"] ["deeds","paper"] (ag lT):=⟨rfl,rfl,rfl,cp,rfl,cp,cp⟩
theorem Kr:aV ["deeds"] ["deeds"] (ag jb):=⟨rfl,rfl,rfl,cp,rfl,cp,cp⟩
theorem BL:aV ["deeds","coming","named"] ["deeds","coming"] (ag iw):=⟨rfl,rfl,rfl,cp,rfl,cp,cp⟩
theorem Ks:aV ["deeds","paper"] ["deeds","paper"] (ag jc):=⟨rfl,rfl,rfl,cp,rfl,cp,cp⟩
theorem vg:aV ["deeds","paper","line","place"] ["deeds","paper"] (ag jd):=⟨rfl,rfl,rfl,cp,rfl,cp,cp⟩
theorem vh:aV ["deeds","words","day","found","deed","known"] ["deeds","words","day"] (ag je):=⟨rfl,rfl,rfl,cp,rfl,cp,cp⟩
theorem Kt:aV ["deeds","day"] ["deeds","day"] (ag jf):=⟨rfl,rfl,rfl,cp,rfl,cp,cp⟩
theorem Ku:aV ["deeds","day"] ["deeds","day"] (ag jg):=⟨rfl,rfl,rfl,cp,rfl,cp,cp⟩
theorem Kv:aV ["target","coming"] ["target","coming"] (ag lU):=⟨rfl,rfl,rfl,cp,rfl,cp,cp⟩
theorem rH:aV ["holds","line","names","hold","target","deep","reached"] ["holds","line"] (ag jh):=⟨rfl,rfl,rfl,cp,rfl,cp,cp⟩
theorem Kw:aV ["paper","happening"] ["paper","happening"] (ag ji):=⟨rfl,rfl,rfl,cp,rfl,cp,cp⟩
theorem BM:aV ["paper","since","day","days"] ["paper","since","day"] (ag jj):=⟨rfl,rfl,rfl,cp,rfl,cp,cp⟩
theorem BN:aV ["paper","parts","day","base"] ["paper","parts","day"] (ag lV):=⟨rfl,rfl,rfl,cp,rfl,cp,cp⟩
theorem Kx:aV ["paper","rules","day"] ["paper","rules","day"] (ag jk):=⟨rfl,rfl,rfl,cp,rfl,cp,cp⟩
theorem BO:aV ["gone","paper","day","went"] ["gone","paper","day"] (ag lW):=⟨rfl,rfl,rfl,cp,rfl,cp,cp⟩
theorem rJ:aV ["paper","rules","day","gone","left","calls","rule","parts","due"] ["paper","rules","day","gone"] (ag jm):=⟨rfl,rfl,rfl,cp,rfl,cp,cp⟩
theorem rK:aV ["paper","rules","day","gone","away","calls","rule","parts","due"] ["paper","rules","day","gone"] (ag jn):=⟨rfl,rfl,rfl,cp,rfl,cp,cp⟩
theorem Ky:aV ["kind","rules"] ["kind","rules"] (ag jo):=⟨rfl,rfl,rfl,cp,rfl,cp,cp⟩
theorem BP:aV ["since","paper","days"] ["since","paper"] (ag lX):=⟨rfl,rfl,rfl,cp,rfl,cp,cp⟩
theorem xG:aV ["ready","parts","days","paper"] ["ready","parts"] (ag jq):=⟨rfl,rfl,rfl,cp,rfl,cp,cp⟩
theorem vi:aV ["deeds","ready","days","deed"] ["deeds"] (ag ix):=⟨rfl,rfl,rfl,cp,rfl,cp,cp⟩
theorem Kz:aV ["self","day","paper","to_stay","to_go","bars","leave"] ["self","day","paper","to_stay","to_go","bars","leave"] (ag lY):=⟨rfl,rfl,rfl,cp,rfl,cp,cp⟩
theorem KA:aV ["self"] ["self"] (ag lZ):=⟨rfl,rfl,rfl,cp,rfl,cp,cp⟩
theorem KC:aV ["self"] ["self"] (ag md):=⟨rfl,rfl,rfl,cp,rfl,cp,cp⟩
theorem xH:aV ["self","deeds","day","done","leaves","row"] ["self","deeds","day","done"] (ag jr):=⟨rfl,rfl,rfl,cp,rfl,cp,cp⟩
theorem KD:aV ["self","row"] ["self","row"] (ag me):=⟨rfl,rfl,rfl,cp,rfl,cp,cp⟩
theorem BQ:aV ["self","kind","deed"] ["self","kind"] (ag mf):=⟨rfl,rfl,rfl,cp,rfl,cp,cp⟩
theorem rL:aV ["self","paper","line","to_stay","to_go","asking","leave","bars"] ["self","paper","line"] (ag gM):=⟨rfl,rfl,rfl,cp,rfl,cp,cp⟩
theorem KH:aV ["deeds"] ["deeds"] (ag js):=⟨rfl,rfl,rfl,cp,rfl,cp,cp⟩
theorem rM:aV ["deeds","shelf","day","done","here","told","paper","line","look"] ["deeds","shelf","day","done"] (ag mh):=⟨rfl,rfl,rfl,cp,rfl,cp,cp⟩
theorem rN:aV ["deeds","days","done","shelf","rows","told","day","looks"] ["deeds","days","done"] (ag mi):=⟨rfl,rfl,rfl,cp,rfl,cp,cp⟩
theorem KI:aV ["looks"] ["looks"] (ag jt):=⟨rfl,rfl,rfl,cp,rfl,cp,cp⟩
theorem KJ:aV ["deeds"] ["deeds"] (ag mj):=⟨rfl,rfl,rfl,cp,rfl,cp,cp⟩
theorem xI:aV ["deeds","rows","row"] ["deeds"] (ag ju):=⟨rfl,rfl,rfl,cp,rfl,cp,cp⟩
theorem tq:aV ["deeds","days","paper","day","leave"] ["deeds"] (ag mm):=⟨rfl,rfl,rfl,cp,rfl,cp,cp⟩
theorem xJ:aV ["deeds","day","days","come"] ["deeds","day"] (ag iy):=⟨rfl,rfl,rfl,cp,rfl,cp,cp⟩
theorem vj:aV ["_law_script","_law_k","_law_state","_law_cell_here"] ["_law_script","_law_k"] (ag mq):=⟨rfl,rfl,rfl,cp,rfl,cp,cp⟩
theorem pZ:aV ["_law_cell_here","_law_many","_law_found","_law_state","_law_digits","_law_k"] ["_law_cell_here","_law_many"] (ag mr):=⟨rfl,rfl,rfl,cp,rfl,cp,cp⟩
theorem p6:aV ["_law_x","_law_many","_law_letters","_law_words","_law_size","_law_at","_law_stem","_law_ends"] ["_law_x","_law_many"] (ag gN):=⟨rfl,rfl,rfl,cp,rfl,cp,cp⟩
theorem KL:aV ["_law_one","_law_other"] ["_law_one","_law_other"] (ag mw):=⟨rfl,rfl,rfl,cp,rfl,cp,cp⟩
theorem xK:aV ["_law_xs","_law_kinds","_law_words","_law_sort_here","_law_since"] ["_law_xs","_law_kinds","_law_words"] (ag mx):=⟨rfl,rfl,rfl,cp,rfl,cp,cp⟩
theorem p7:aV ["_law_sort_here","_law_xs","_law_pools_here","_law_names","_law_kinds","_law_words","_law_rules","_law_day","_law_name","_law_some","_law_target"] ["_law_sort_here","_law_xs","_law_pools_here"] (ag jv):=⟨rfl,rfl,rfl,cp,rfl,cp,cp⟩
theorem BR:aV ["_law_x","_law_names"] ["_law_x"] (ag my):=⟨rfl,rfl,rfl,cp,rfl,cp,cp⟩
theorem xM:aV ["_law_k","_law_xs","_law_first","_law_some"] ["_law_k","_law_xs"] (ag mz):=⟨rfl,rfl,rfl,cp,rfl,cp,cp⟩
theorem rO:aV ["_law_script","_law_pools_here","_law_found","_law_k","_law_xs","_law_deed_here"] ["_law_script"] (ag jw):=⟨rfl,rfl,rfl,cp,rfl,cp,cp⟩
theorem qN:aV ["_law_deeds","_law_by","_law_others","_law_due","_law_name","_law_day","_law_leave"] ["_law_deeds","_law_by"] (ag gO):=⟨rfl,rfl,rfl,cp,rfl,cp,cp⟩
theorem xN:aV ["_law_script","_law_xs","_law_deeds"] ["_law_script"] (ag jx):=⟨rfl,rfl,rfl,cp,rfl,cp,cp⟩
theorem cX{α:Type}{us:List α}(h:us.length=1):∃a,us=[a]:=List.length_eq_one_iff.mp h
theorem cD{α:Type}{us:List α}(h0:us.length=2):∃a b,us=[a,b]:=by
 cases us with
 | nil=>cases h0
 | cons a us=>
  obtain⟨b,z0⟩:=cX (us:=us) (Sz h0);exact⟨a,b,by rw [z0]⟩
theorem gi{α:Type}{us:List α}(h0:us.length=3):∃a b c,us=[a,b,c]:=by
 cases us with
 | nil=>cases h0
 | cons a us=>
  obtain⟨b,c,z0⟩:=cD (us:=us) (Sz h0);exact⟨a,b,c,by rw [z0]⟩
theorem tu{α:Type}{us:List α}(h0:us.length=4):∃a b c d,us=[a,b,c,d]:=by
 cases us with
 | nil=>cases h0
 | cons a us=>
  obtain⟨b,c,d,z0⟩:=gi (us:=us) (Sz h0);exact⟨a,b,c,d,by rw [z0]⟩
theorem KN{α:Type}{us:List α}(h0:us.length=5):∃a b c d p,us=[a,b,c,d,p]:=by
 cases us with
 | nil=>cases h0
 | cons a us=>
  obtain⟨b,c,d,p,z0⟩:=tu (us:=us) (Sz h0);exact⟨a,b,c,d,p,by rw [z0]⟩
theorem KO{α:Type}{us:List α}(h0:us.length=6):∃a b c d p q,us=[a,b,c,d,p,q]:=by
 cases us with
 | nil=>cases h0
 | cons a us=>
  obtain⟨b,c,d,p,q,z0⟩:=KN (us:=us) (Sz h0);exact⟨a,b,c,d,p,q,by rw [z0]⟩
theorem KP{α:Type}{us:List α}(h0:us.length=7):∃a b c d p q r,us=[a,b,c,d,p,q,r]:=by
 cases us with
 | nil=>cases h0
 | cons a us=>
  obtain⟨b,c,d,p,q,r,z0⟩:=KO (us:=us) (Sz h0);exact⟨a,b,c,d,p,q,r,by rw [z0]⟩
theorem txt_mk{K:Oe}{h:V0}{mg:Str->Option VM}(X:K.In h)(G:h.Ns VR mg)
 {f0 f1 f2 f3 f4 f5 f6 f7 f8 f9 f10 f11 f12 f13 f14 f15 f16 f17 f18 f19 f20 f21 f22 f23 f24 f25 f26 f27 f28 f29 f30 f31 f32 f33 f34 f35 f36 f37 f38 f39 f40 f41 f42 f43 f44 f45 f46 f47 f48 f49 f50 f51 f52 f53 f54 f55 f56 f57:VO}{od0 an0 od1 an1 od2 an2 od3 an3 od4 an4 od5 an5 od6 an6 od7 an7 od8 an8 od9 an9 od10 an10 od11 an11 od12 an12 od13 an13 od14 an14 od15 an15 od16 an16 od17 an17 od18 an18 od19 an19 od20 an20 od21 an21 od22 an22 od23 an23 od24 an24 od25 an25 od26 an26 od27 an27 od28 an28 od29 an29 od30 an30 od31 an31 od32 an32 od33 an33 od34 an34 od35 an35 od36 an36 od37 an37 od38 an38 od39 an39 od40 an40 od41 an41 od42 an42 od43 an43 od44 an44 od45 an45 od46 an46 od47 an47 od48 an48 od49 an49 od50 an50 od51 an51 od52 an52 od53 an53 od54 an54 od55 an55 od56 an56 od57 an57:Option VO}{sl0 sl1 sl2 sl3 sl4 sl5 sl6 sl7 sl8 sl9 sl10 sl11 sl12 sl13 sl14 sl15 sl16 sl17 sl18 sl19 sl20 sl21 sl22 sl23 sl24 sl25 sl26 sl27 sl28 sl29 sl30 sl31 sl32 sl33 sl34 sl35 sl36 sl37 sl38 sl39 sl40 sl41 sl42 sl43 sl44 sl45 sl46 sl47 sl48 sl49 sl50 sl51 sl52 sl53 sl54 sl55 sl56 sl57:Array (Option VM)}{oc0 kV0 dc0 pm0 cd0 ct0 oc1 kV1 dc1 pm1 cd1 ct1 oc2 kV2 dc2 pm2 cd2 ct2 oc3 kV3 dc3 pm3 cd3 ct3 oc4 kV4 dc4 pm4 cd4 ct4 oc5 kV5 dc5 pm5 cd5 ct5 oc6 kV6 dc6 pm6 cd6 ct6 oc7 kV7 dc7 pm7 cd7 ct7 oc8 kV8 dc8 pm8 cd8 ct8 oc9 kV9 dc9 pm9 cd9 ct9 oc10 kV10 dc10 pm10 cd10 ct10 oc11 kV11 dc11 pm11 cd11 ct11 oc12 kV12 dc12 pm12 cd12 ct12 oc13 kV13 dc13 pm13 cd13 ct13 oc14 kV14 dc14 pm14 cd14 ct14 oc15 kV15 dc15 pm15 cd15 ct15 oc16 kV16 dc16 pm16 cd16 ct16 oc17 kV17 dc17 pm17 cd17 ct17 oc18 kV18 dc18 pm18 cd18 ct18 oc19 kV19 dc19 pm19 cd19 ct19 oc20 kV20 dc20 pm20 cd20 ct20 oc21 kV21 dc21 pm21 cd21 ct21 oc22 kV22 dc22 pm22 cd22 ct22 oc23 kV23 dc23 pm23 cd23 ct23 oc24 kV24 dc24 pm24 cd24 ct24 oc25 kV25 dc25 pm25 cd25 ct25 oc26 kV26 dc26 pm26 cd26 ct26 oc27 kV27 dc27 pm27 cd27 ct27 oc28 kV28 dc28 pm28 cd28 ct28 oc29 kV29 dc29 pm29 cd29 ct29 oc30 kV30 dc30 pm30 cd30 ct30 oc31 kV31 dc31 pm31 cd31 ct31 oc32 kV32 dc32 pm32 cd32 ct32 oc33 kV33 dc33 pm33 cd33 ct33 oc34 kV34 dc34 pm34 cd34 ct34 oc35 kV35 dc35 pm35 cd35 ct35 oc36 kV36 dc36 pm36 cd36 ct36 oc37 kV37 dc37 pm37 cd37 ct37 oc38 kV38 dc38 pm38 cd38 ct38 oc39 kV39 dc39 pm39 cd39 ct39 oc40 kV40 dc40 pm40 cd40 ct40 oc41 kV41 dc41 pm41 cd41 ct41 oc42 kV42 dc42 pm42 cd42 ct42 oc43 kV43 dc43 pm43 cd43 ct43 oc44 kV44 dc44 pm44 cd44 ct44 oc45 kV45 dc45 pm45 cd45 ct45 oc46 kV46 dc46 pm46 cd46 ct46 oc47 kV47 dc47 pm47 cd47 ct47 oc48 kV48 dc48 pm48 cd48 ct48 oc49 kV49 dc49 pm49 cd49 ct49 oc50 kV50 dc50 pm50 cd50 ct50 oc51 kV51 dc51 pm51 cd51 ct51 oc52 kV52 dc52 pm52 cd52 ct52 oc53 kV53 dc53 pm53 cd53 ct53 oc54 kV54 dc54 pm54 cd54 ct54 oc55 kV55 dc55 pm55 cd55 ct55 oc56 kV56 dc56 pm56 cd56 ct56 oc57 kV57 dc57 pm57 cd57 ct57:VM}
 {u_NoPaper u_Paper u_Look u_Round:VO}
 {u_FIRST_YEAR u_ROUND_DAYS u_ROUND_YEARS:VM}
 {A_MONTH_DAYS:VO}{dd_MONTH_DAYS:Option VO}{its_MONTH_DAYS:Array VM}{n_MONTH_DAYS:Nat}{sl_MONTH_DAYS:Array (Option VM)}
 (a0:Ow K VR "is_leap"=some (some (.ref f0)))(l0:K.lookup f0=some ⟨oc0,od0,.func (Oh "is_leap" "is_leap" (av pR) (au pR) (ag pR) .none kV0 dc0 pm0 an0 cd0 ct0),sl0⟩)(c0:Oy K cd0 "is_leap"=true)(k0:Ot K (.ref f0)=true)
 (a1:Ow K VR "month_length"=some (some (.ref f1)))(l1:K.lookup f1=some ⟨oc1,od1,.func (Oh "month_length" "month_length" (av pT) (au pT) (ag pT) .none kV1 dc1 pm1 an1 cd1 ct1),sl1⟩)(c1:Oy K cd1 "month_length"=true)(k1:Ot K (.ref f1)=true)
 (a2:Ow K VR "leaps_before"=some (some (.ref f2)))(l2:K.lookup f2=some ⟨oc2,od2,.func (Oh "leaps_before" "leaps_before" (av pU) (au pU) (ag pU) .none kV2 dc2 pm2 an2 cd2 ct2),sl2⟩)(c2:Oy K cd2 "leaps_before"=true)(k2:Ot K (.ref f2)=true)
 (a3:Ow K VR "year_start"=some (some (.ref f3)))(l3:K.lookup f3=some ⟨oc3,od3,.func (Oh "year_start" "year_start" (av pV) (au pV) (ag pV) .none kV3 dc3 pm3 an3 cd3 ct3),sl3⟩)(c3:Oy K cd3 "year_start"=true)(k3:Ot K (.ref f3)=true)
 (a4:Ow K VR "year_of"=some (some (.ref f4)))(l4:K.lookup f4=some ⟨oc4,od4,.func (Oh "year_of" "year_of" (av pW) (au pW) (ag pW) .none kV4 dc4 pm4 an4 cd4 ct4),sl4⟩)(c4:Oy K cd4 "year_of"=true)(k4:Ot K (.ref f4)=true)
 (a5:Ow K VR "parts_of"=some (some (.ref f5)))(l5:K.lookup f5=some ⟨oc5,od5,.func (Oh "parts_of" "parts_of" (av pX) (au pX) (ag pX) .none kV5 dc5 pm5 an5 cd5 ct5),sl5⟩)(c5:Oy K cd5 "parts_of"=true)(k5:Ot K (.ref f5)=true)
 (a6:Ow K VR "number_of"=some (some (.ref f6)))(l6:K.lookup f6=some ⟨oc6,od6,.func (Oh "number_of" "number_of" (av pY) (au pY) (ag pY) .none kV6 dc6 pm6 an6 cd6 ct6),sl6⟩)(c6:Oy K cd6 "number_of"=true)(k6:Ot K (.ref f6)=true)
 (a7:Ow K VR "later"=some (some (.ref f7)))(l7:K.lookup f7=some ⟨oc7,od7,.func (Oh "later" "later" (av lQ) (au lQ) (ag lQ) .none kV7 dc7 pm7 an7 cd7 ct7),sl7⟩)(c7:Oy K cd7 "later"=true)(k7:Ot K (.ref f7)=true)
 (a8:OP K (.ref u_Paper) "__init__"=some (some (.ref f8)))(i8:QK K (.ref f8)=true)(l8:K.lookup f8=some ⟨oc8,od8,.func (Oh "__init__" "Paper.__init__" (av i9) (au i9) (ag i9) .none kV8 dc8 pm8 an8 cd8 ct8),sl8⟩)(c8:Oy K cd8 "Paper.__init__"=true)(k8:Ot K (.ref f8)=true)
 (a9:Ow K VR "place_of"=some (some (.ref f9)))(l9:K.lookup f9=some ⟨oc9,od9,.func (Oh "place_of" "place_of" (av lR) (au lR) (ag lR) .none kV9 dc9 pm9 an9 cd9 ct9),sl9⟩)(c9:Oy K cd9 "place_of"=true)(k9:Ot K (.ref f9)=true)
 (a10:Ow K VR "comings"=some (some (.ref f10)))(l10:K.lookup f10=some ⟨oc10,od10,.func (Oh "comings" "comings" (av ja) (au ja) (ag ja) .none kV10 dc10 pm10 an10 cd10 ct10),sl10⟩)(c10:Oy K cd10 "comings"=true)(k10:Ot K (.ref f10)=true)
 (a11:Ow K VR "coming_of"=some (some (.ref f11)))(jM:K.lookup f11=some ⟨oc11,od11,.func (Oh "coming_of" "coming_of" (av lT) (au lT) (ag lT) .none kV11 dc11 pm11 an11 cd11 ct11),sl11⟩)(c11:Oy K cd11 "coming_of"=true)(k11:Ot K (.ref f11)=true)
 (a12:Ow K VR "papers"=some (some (.ref f12)))(l12:K.lookup f12=some ⟨oc12,od12,.func (Oh "papers" "papers" (av jb) (au jb) (ag jb) .none kV12 dc12 pm12 an12 cd12 ct12),sl12⟩)(c12:Oy K cd12 "papers"=true)(k12:Ot K (.ref f12)=true)
 (a13:Ow K VR "maker_comings"=some (some (.ref f13)))(l13:K.lookup f13=some ⟨oc13,od13,.func (Oh "maker_comings" "maker_comings" (av iw) (au iw) (ag iw) .none kV13 dc13 pm13 an13 cd13 ct13),sl13⟩)(c13:Oy K cd13 "maker_comings"=true)(k13:Ot K (.ref f13)=true)
 (a14:Ow K VR "makers"=some (some (.ref f14)))(l14:K.lookup f14=some ⟨oc14,od14,.func (Oh "makers" "makers" (av jc) (au jc) (ag jc) .none kV14 dc14 pm14 an14 cd14 ct14),sl14⟩)(c14:Oy K cd14 "makers"=true)(k14:Ot K (.ref f14)=true)
 (a15:Ow K VR "line_of"=some (some (.ref f15)))(l15:K.lookup f15=some ⟨oc15,od15,.func (Oh "line_of" "line_of" (av jd) (au jd) (ag jd) .none kV15 dc15 pm15 an15 cd15 ct15),sl15⟩)(c15:Oy K cd15 "line_of"=true)(k15:Ot K (.ref f15)=true)
 (a16:Ow K VR "latest"=some (some (.ref f16)))(l16:K.lookup f16=some ⟨oc16,od16,.func (Oh "latest" "latest" (av je) (au je) (ag je) .none kV16 dc16 pm16 an16 cd16 ct16),sl16⟩)(c16:Oy K cd16 "latest"=true)(k16:Ot K (.ref f16)=true)
 (a17:Ow K VR "rules_on"=some (some (.ref f17)))(l17:K.lookup f17=some ⟨oc17,od17,.func (Oh "rules_on" "rules_on" (av jf) (au jf) (ag jf) .none kV17 dc17 pm17 an17 cd17 ct17),sl17⟩)(c17:Oy K cd17 "rules_on"=true)(k17:Ot K (.ref f17)=true)
 (a18:Ow K VR "holds_on"=some (some (.ref f18)))(l18:K.lookup f18=some ⟨oc18,od18,.func (Oh "holds_on" "holds_on" (av jg) (au jg) (ag jg) .none kV18 dc18 pm18 an18 cd18 ct18),sl18⟩)(c18:Oy K cd18 "holds_on"=true)(k18:Ot K (.ref f18)=true)
 (a19:Ow K VR "is_told"=some (some (.ref f19)))(l19:K.lookup f19=some ⟨oc19,od19,.func (Oh "is_told" "is_told" (av lU) (au lU) (ag lU) .none kV19 dc19 pm19 an19 cd19 ct19),sl19⟩)(c19:Oy K cd19 "is_told"=true)(k19:Ot K (.ref f19)=true)
 (a20:Ow K VR "holding"=some (some (.ref f20)))(l20:K.lookup f20=some ⟨oc20,od20,.func (Oh "holding" "holding" (av jh) (au jh) (ag jh) .none kV20 dc20 pm20 an20 cd20 ct20),sl20⟩)(c20:Oy K cd20 "holding"=true)(k20:Ot K (.ref f20)=true)
 (a21:Ow K VR "happened"=some (some (.ref f21)))(l21:K.lookup f21=some ⟨oc21,od21,.func (Oh "happened" "happened" (av ji) (au ji) (ag ji) .none kV21 dc21 pm21 an21 cd21 ct21),sl21⟩)(c21:Oy K cd21 "happened"=true)(k21:Ot K (.ref f21)=true)
 (a22:Ow K VR "base_of"=some (some (.ref f22)))(l22:K.lookup f22=some ⟨oc22,od22,.func (Oh "base_of" "base_of" (av jj) (au jj) (ag jj) .none kV22 dc22 pm22 an22 cd22 ct22),sl22⟩)(c22:Oy K cd22 "base_of"=true)(k22:Ot K (.ref f22)=true)
 (a23:Ow K VR "reckoned"=some (some (.ref f23)))(l23:K.lookup f23=some ⟨oc23,od23,.func (Oh "reckoned" "reckoned" (av lV) (au lV) (ag lV) .none kV23 dc23 pm23 an23 cd23 ct23),sl23⟩)(c23:Oy K cd23 "reckoned"=true)(k23:Ot K (.ref f23)=true)
 (a24:Ow K VR "rules_over"=some (some (.ref f24)))(l24:K.lookup f24=some ⟨oc24,od24,.func (Oh "rules_over" "rules_over" (av jk) (au jk) (ag jk) .none kV24 dc24 pm24 an24 cd24 ct24),sl24⟩)(c24:Oy K cd24 "rules_over"=true)(k24:Ot K (.ref f24)=true)
 (a25:Ow K VR "has_gone"=some (some (.ref f25)))(l25:K.lookup f25=some ⟨oc25,od25,.func (Oh "has_gone" "has_gone" (av lW) (au lW) (ag lW) .none kV25 dc25 pm25 an25 cd25 ct25),sl25⟩)(c25:Oy K cd25 "has_gone"=true)(k25:Ot K (.ref f25)=true)
 (a26:Ow K VR "staying"=some (some (.ref f26)))(l26:K.lookup f26=some ⟨oc26,od26,.func (Oh "staying" "staying" (av jm) (au jm) (ag jm) .none kV26 dc26 pm26 an26 cd26 ct26),sl26⟩)(c26:Oy K cd26 "staying"=true)(k26:Ot K (.ref f26)=true)
 (a27:Ow K VR "going"=some (some (.ref f27)))(l27:K.lookup f27=some ⟨oc27,od27,.func (Oh "going" "going" (av jn) (au jn) (ag jn) .none kV27 dc27 pm27 an27 cd27 ct27),sl27⟩)(c27:Oy K cd27 "going"=true)(k27:Ot K (.ref f27)=true)
 (a28:Ow K VR "leave_rules"=some (some (.ref f28)))(l28:K.lookup f28=some ⟨oc28,od28,.func (Oh "leave_rules" "leave_rules" (av jo) (au jo) (ag jo) .none kV28 dc28 pm28 an28 cd28 ct28),sl28⟩)(c28:Oy K cd28 "leave_rules"=true)(k28:Ot K (.ref f28)=true)
 (a29:Ow K VR "bases"=some (some (.ref f29)))(l29:K.lookup f29=some ⟨oc29,od29,.func (Oh "bases" "bases" (av lX) (au lX) (ag lX) .none kV29 dc29 pm29 an29 cd29 ct29),sl29⟩)(c29:Oy K cd29 "bases"=true)(k29:Ot K (.ref f29)=true)
 (a30:Ow K VR "reckonings"=some (some (.ref f30)))(l30:K.lookup f30=some ⟨oc30,od30,.func (Oh "reckonings" "reckonings" (av jq) (au jq) (ag jq) .none kV30 dc30 pm30 an30 cd30 ct30),sl30⟩)(c30:Oy K cd30 "reckonings"=true)(k30:Ot K (.ref f30)=true)
 (a31:Ow K VR "turning_days"=some (some (.ref f31)))(l31:K.lookup f31=some ⟨oc31,od31,.func (Oh "turning_days" "turning_days" (av ix) (au ix) (ag ix) .none kV31 dc31 pm31 an31 cd31 ct31),sl31⟩)(c31:Oy K cd31 "turning_days"=true)(k31:Ot K (.ref f31)=true)
 (a32:OP K (.ref u_Look) "__init__"=some (some (.ref f32)))(i32:QK K (.ref f32)=true)(l32:K.lookup f32=some ⟨oc32,od32,.func (Oh "__init__" "Look.__init__" (av lY) (au lY) (ag lY) .none kV32 dc32 pm32 an32 cd32 ct32),sl32⟩)(c32:Oy K cd32 "Look.__init__"=true)(k32:Ot K (.ref f32)=true)
 (a33:OP K (.ref u_Look) "lets_go"=some (some (.ref f33)))(i33:QK K (.ref f33)=true)(l33:K.lookup f33=some ⟨oc33,od33,.func (Oh "lets_go" "Look.lets_go" (av lZ) (au lZ) (ag lZ) .none kV33 dc33 pm33 an33 cd33 ct33),sl33⟩)(c33:Oy K cd33 "Look.lets_go"=true)(k33:Ot K (.ref f33)=true)
 (a34:OP K (.ref u_Look) "as_row"=some (some (.ref f34)))(i34:QK K (.ref f34)=true)(l34:K.lookup f34=some ⟨oc34,od34,.func (Oh "as_row" "Look.as_row" (av md) (au md) (ag md) .none kV34 dc34 pm34 an34 cd34 ct34),sl34⟩)(c34:Oy K cd34 "Look.as_row"=true)(k34:Ot K (.ref f34)=true)
 (a35:OP K (.ref u_Round) "__init__"=some (some (.ref f35)))(i35:QK K (.ref f35)=true)(l35:K.lookup f35=some ⟨oc35,od35,.func (Oh "__init__" "Round.__init__" (av jr) (au jr) (ag jr) .none kV35 dc35 pm35 an35 cd35 ct35),sl35⟩)(c35:Oy K cd35 "Round.__init__"=true)(k35:Ot K (.ref f35)=true)
 (a36:OP K (.ref u_Round) "mark"=some (some (.ref f36)))(i36:QK K (.ref f36)=true)(l36:K.lookup f36=some ⟨oc36,od36,.func (Oh "mark" "Round.mark" (av me) (au me) (ag me) .none kV36 dc36 pm36 an36 cd36 ct36),sl36⟩)(c36:Oy K cd36 "Round.mark"=true)(k36:Ot K (.ref f36)=true)
 (a37:OP K (.ref u_Round) "unused"=some (some (.ref f37)))(i37:QK K (.ref f37)=true)(l37:K.lookup f37=some ⟨oc37,od37,.func (Oh "unused" "Round.unused" (av mf) (au mf) (ag mf) .none kV37 dc37 pm37 an37 cd37 ct37),sl37⟩)(c37:Oy K cd37 "Round.unused"=true)(k37:Ot K (.ref f37)=true)
 (a38:OP K (.ref u_Round) "look"=some (some (.ref f38)))(i38:QK K (.ref f38)=true)(l38:K.lookup f38=some ⟨oc38,od38,.func (Oh "look" "Round.look" (av gM) (au gM) (ag gM) .none kV38 dc38 pm38 an38 cd38 ct38),sl38⟩)(c38:Oy K cd38 "Round.look"=true)(k38:Ot K (.ref f38)=true)
 (a39:Ow K VR "shelf_of"=some (some (.ref f39)))(l39:K.lookup f39=some ⟨oc39,od39,.func (Oh "shelf_of" "shelf_of" (av js) (au js) (ag js) .none kV39 dc39 pm39 an39 cd39 ct39),sl39⟩)(c39:Oy K cd39 "shelf_of"=true)(k39:Ot K (.ref f39)=true)
 (a40:Ow K VR "looks_on"=some (some (.ref f40)))(l40:K.lookup f40=some ⟨oc40,od40,.func (Oh "looks_on" "looks_on" (av mh) (au mh) (ag mh) .none kV40 dc40 pm40 an40 cd40 ct40),sl40⟩)(c40:Oy K cd40 "looks_on"=true)(k40:Ot K (.ref f40)=true)
 (a41:Ow K VR "walk"=some (some (.ref f41)))(l41:K.lookup f41=some ⟨oc41,od41,.func (Oh "walk" "walk" (av mi) (au mi) (ag mi) .none kV41 dc41 pm41 an41 cd41 ct41),sl41⟩)(c41:Oy K cd41 "walk"=true)(k41:Ot K (.ref f41)=true)
 (a42:Ow K VR "rows_of"=some (some (.ref f42)))(l42:K.lookup f42=some ⟨oc42,od42,.func (Oh "rows_of" "rows_of" (av jt) (au jt) (ag jt) .none kV42 dc42 pm42 an42 cd42 ct42),sl42⟩)(c42:Oy K cd42 "rows_of"=true)(k42:Ot K (.ref f42)=true)
 (a43:Ow K VR "plan_looks"=some (some (.ref f43)))(l43:K.lookup f43=some ⟨oc43,od43,.func (Oh "plan_looks" "plan_looks" (av mj) (au mj) (ag mj) .none kV43 dc43 pm43 an43 cd43 ct43),sl43⟩)(c43:Oy K cd43 "plan_looks"=true)(k43:Ot K (.ref f43)=true)
 (a44:Ow K VR "plan"=some (some (.ref f44)))(l44:K.lookup f44=some ⟨oc44,od44,.func (Oh "plan" "plan" (av ju) (au ju) (ag ju) .none kV44 dc44 pm44 an44 cd44 ct44),sl44⟩)(c44:Oy K cd44 "plan"=true)(k44:Ot K (.ref f44)=true)
 (a45:Ow K VR "days_of"=some (some (.ref f45)))(l45:K.lookup f45=some ⟨oc45,od45,.func (Oh "days_of" "days_of" (av mm) (au mm) (ag mm) .none kV45 dc45 pm45 an45 cd45 ct45),sl45⟩)(c45:Oy K cd45 "days_of"=true)(k45:Ot K (.ref f45)=true)
 (a46:Ow K VR "there"=some (some (.ref f46)))(l46:K.lookup f46=some ⟨oc46,od46,.func (Oh "there" "there" (av iy) (au iy) (ag iy) .none kV46 dc46 pm46 an46 cd46 ct46),sl46⟩)(c46:Oy K cd46 "there"=true)(k46:Ot K (.ref f46)=true)
 (a47:Ow K VR "_law_cell"=some (some (.ref f47)))(l47:K.lookup f47=some ⟨oc47,od47,.func (Oh "_law_cell" "_law_cell" (av mq) (au mq) (ag mq) .none kV47 dc47 pm47 an47 cd47 ct47),sl47⟩)(c47:Oy K cd47 "_law_cell"=true)(k47:Ot K (.ref f47)=true)
 (a48:Ow K VR "_law_numbers"=some (some (.ref f48)))(l48:K.lookup f48=some ⟨oc48,od48,.func (Oh "_law_numbers" "_law_numbers" (av mr) (au mr) (ag mr) .none kV48 dc48 pm48 an48 cd48 ct48),sl48⟩)(c48:Oy K cd48 "_law_numbers"=true)(k48:Ot K (.ref f48)=true)
 (a49:Ow K VR "_law_pool"=some (some (.ref f49)))(l49:K.lookup f49=some ⟨oc49,od49,.func (Oh "_law_pool" "_law_pool" (av gN) (au gN) (ag gN) .none kV49 dc49 pm49 an49 cd49 ct49),sl49⟩)(c49:Oy K cd49 "_law_pool"=true)(k49:Ot K (.ref f49)=true)
 (a50:Ow K VR "_law_quarrel"=some (some (.ref f50)))(l50:K.lookup f50=some ⟨oc50,od50,.func (Oh "_law_quarrel" "_law_quarrel" (av mw) (au mw) (ag mw) .none kV50 dc50 pm50 an50 cd50 ct50),sl50⟩)(c50:Oy K cd50 "_law_quarrel"=true)(k50:Ot K (.ref f50)=true)
 (a51:Ow K VR "_law_parts"=some (some (.ref f51)))(l51:K.lookup f51=some ⟨oc51,od51,.func (Oh "_law_parts" "_law_parts" (av mx) (au mx) (ag mx) .none kV51 dc51 pm51 an51 cd51 ct51),sl51⟩)(c51:Oy K cd51 "_law_parts"=true)(k51:Ot K (.ref f51)=true)
 (a52:Ow K VR "_law_deed"=some (some (.ref f52)))(l52:K.lookup f52=some ⟨oc52,od52,.func (Oh "_law_deed" "_law_deed" (av jv) (au jv) (ag jv) .none kV52 dc52 pm52 an52 cd52 ct52),sl52⟩)(c52:Oy K cd52 "_law_deed"=true)(k52:Ot K (.ref f52)=true)
 (a53:Ow K VR "_law_pools"=some (some (.ref f53)))(l53:K.lookup f53=some ⟨oc53,od53,.func (Oh "_law_pools" "_law_pools" (av my) (au my) (ag my) .none kV53 dc53 pm53 an53 cd53 ct53),sl53⟩)(c53:Oy K cd53 "_law_pools"=true)(k53:Ot K (.ref f53)=true)
 (a54:Ow K VR "_law_sort"=some (some (.ref f54)))(l54:K.lookup f54=some ⟨oc54,od54,.func (Oh "_law_sort" "_law_sort" (av mz) (au mz) (ag mz) .none kV54 dc54 pm54 an54 cd54 ct54),sl54⟩)(c54:Oy K cd54 "_law_sort"=true)(k54:Ot K (.ref f54)=true)
 (a55:Ow K VR "_law_set"=some (some (.ref f55)))(l55:K.lookup f55=some ⟨oc55,od55,.func (Oh "_law_set" "_law_set" (av jw) (au jw) (ag jw) .none kV55 dc55 pm55 an55 cd55 ct55),sl55⟩)(c55:Oy K cd55 "_law_set"=true)(k55:Ot K (.ref f55)=true)
 (a56:Ow K VR "_law_moved_right"=some (some (.ref f56)))(l56:K.lookup f56=some ⟨oc56,od56,.func (Oh "_law_moved_right" "_law_moved_right" (av gO) (au gO) (ag gO) .none kV56 dc56 pm56 an56 cd56 ct56),sl56⟩)(c56:Oy K cd56 "_law_moved_right"=true)(k56:Ot K (.ref f56)=true)
 (a57:Ow K VR "law"=some (some (.ref f57)))(l57:K.lookup f57=some ⟨oc57,od57,.func (Oh "law" "law" (av jx) (au jx) (ag jx) .none kV57 dc57 pm57 an57 cd57 ct57),sl57⟩)(c57:Oy K cd57 "law"=true)(k57:Ot K (.ref f57)=true)
 (x_MONTH_DAYS:Ow K VR "MONTH_DAYS"=some (some (.ref A_MONTH_DAYS)))(y_MONTH_DAYS:K.lookup A_MONTH_DAYS=some ⟨.type "tuple",dd_MONTH_DAYS,.seq its_MONTH_DAYS n_MONTH_DAYS,sl_MONTH_DAYS⟩)(z_MONTH_DAYS:aK [V.int 31,V.int 28,V.int 31,V.int 30,V.int 31,V.int 30,V.int 31,V.int 31,V.int 30,V.int 31,V.int 30,V.int 31] its_MONTH_DAYS.toList)(w_MONTH_DAYS:its_MONTH_DAYS.size<=VW)
 (x_FIRST_YEAR:Ow K VR "FIRST_YEAR"=some (some u_FIRST_YEAR))(r_FIRST_YEAR:aE (.int 2000) u_FIRST_YEAR)
 (x_ROUND_DAYS:Ow K VR "ROUND_DAYS"=some (some u_ROUND_DAYS))(r_ROUND_DAYS:aE (.int 146097) u_ROUND_DAYS)
 (x_ROUND_YEARS:Ow K VR "ROUND_YEARS"=some (some u_ROUND_YEARS))(r_ROUND_YEARS:aE (.int 400) u_ROUND_YEARS)
 (x_NoPaper:Ow K VR "NoPaper"=some (some (.ref u_NoPaper)))
 (x_Paper:Ow K VR "Paper"=some (some (.ref u_Paper)))
 (x_Look:Ow K VR "Look"=some (some (.ref u_Look)))
 (x_Round:Ow K VR "Round"=some (some (.ref u_Round)))
 (pg_Paper:Rb K u_Paper Uv=true)
 (hd_Paper:RA K u_Paper=true)
 (po_Paper:RW K u_Paper=true)
 (sa_Paper:OP K (.ref u_Paper) "__setattr__"=some (some (.builtin "object.__setattr__")))
 (mk_Paper:Se K u_Paper=true)
 (kc_Paper:Ot K (.ref u_Paper)=true)
 (na_Paper_name:OP K (.ref u_Paper) "name"=some none)
 (na_Paper_coming:OP K (.ref u_Paper) "coming"=some none)
 (na_Paper_kind:OP K (.ref u_Paper) "kind"=some none)
 (na_Paper_makers:OP K (.ref u_Paper) "makers"=some none)
 (na_Paper_happenings:OP K (.ref u_Paper) "happenings"=some none)
 (pg_Look:Rb K u_Look Uv=true)
 (hd_Look:RA K u_Look=true)
 (po_Look:RW K u_Look=true)
 (sa_Look:OP K (.ref u_Look) "__setattr__"=some (some (.builtin "object.__setattr__")))
 (mk_Look:Se K u_Look=true)
 (kc_Look:Ot K (.ref u_Look)=true)
 (na_Look_day:OP K (.ref u_Look) "day"=some none)
 (na_Look_paper:OP K (.ref u_Look) "paper"=some none)
 (na_Look_to_stay:OP K (.ref u_Look) "to_stay"=some none)
 (na_Look_to_go:OP K (.ref u_Look) "to_go"=some none)
 (na_Look_bars:OP K (.ref u_Look) "bars"=some none)
 (na_Look_leave:OP K (.ref u_Look) "leave"=some none)
 (pg_Round:Rb K u_Round Uv=true)
 (hd_Round:RA K u_Round=true)
 (po_Round:RW K u_Round=true)
 (sa_Round:OP K (.ref u_Round) "__setattr__"=some (some (.builtin "object.__setattr__")))
 (mk_Round:Se K u_Round=true)
 (kc_Round:Ot K (.ref u_Round)=true)
 (na_Round_day:OP K (.ref u_Round) "day"=some none)
 (na_Round_rules:OP K (.ref u_Round) "rules"=some none)
 (na_Round_holds:OP K (.ref u_Round) "holds"=some none)
 (na_Round_leaves:OP K (.ref u_Round) "leaves"=some none)
 (na_Round_gone:OP K (.ref u_Round) "gone"=some none)
 (na_Round_used:OP K (.ref u_Round) "used"=some none)
 (n_abs:Ow K VR "abs"=some none)
 (n_all:Ow K VR "all"=some none)
 (n_any:Ow K VR "any"=some none)
 (n_enumerate:Ow K VR "enumerate"=some none)
 (n_int:Ow K VR "int"=some none)
 (n_len:Ow K VR "len"=some none)
 (n_list:Ow K VR "list"=some none)
 (n_max:Ow K VR "max"=some none)
 (n_min:Ow K VR "min"=some none)
 (n_range:Ow K VR "range"=some none)
 (n_set:Ow K VR "set"=some none)
 (n_sorted:Ow K VR "sorted"=some none)
 (n_sum:Ow K VR "sum"=some none)
 (n_tuple:Ow K VR "tuple"=some none):∃t:cm,Txt K mg t:=by
 have F0:=aW (st:=pR) l0 c0 k0;have F1:=aW (st:=pT) l1 c1 k1;have F2:=aW (st:=pU) l2 c2 k2;have F3:=aW (st:=pV) l3 c3 k3;have F4:=aW (st:=pW) l4 c4 k4;have F5:=aW (st:=pX) l5 c5 k5;have F6:=aW (st:=pY) l6 c6 k6;have F7:=aW (st:=lQ) l7 c7 k7;have F8:=aW (st:=i9) l8 c8 k8;have F9:=aW (st:=lR) l9 c9 k9;have F10:=aW (st:=ja) l10 c10 k10;have F11:=aW (st:=lT) jM c11 k11;have F12:=aW (st:=jb) l12 c12 k12;have F13:=aW (st:=iw) l13 c13 k13;have F14:=aW (st:=jc) l14 c14 k14;have F15:=aW (st:=jd) l15 c15 k15;have F16:=aW (st:=je) l16 c16 k16;have F17:=aW (st:=jf) l17 c17 k17;have F18:=aW (st:=jg) l18 c18 k18;have F19:=aW (st:=lU) l19 c19 k19;have F20:=aW (st:=jh) l20 c20 k20;have F21:=aW (st:=ji) l21 c21 k21;have F22:=aW (st:=jj) l22 c22 k22;have F23:=aW (st:=lV) l23 c23 k23;have F24:=aW (st:=jk) l24 c24 k24;have F25:=aW (st:=lW) l25 c25 k25;have F26:=aW (st:=jm) l26 c26 k26;have F27:=aW (st:=jn) l27 c27 k27;have F28:=aW (st:=jo) l28 c28 k28;have F29:=aW (st:=lX) l29 c29 k29;have F30:=aW (st:=jq) l30 c30 k30;have F31:=aW (st:=ix) l31 c31 k31;have F32:=aW (st:=lY) l32 c32 k32;have F33:=aW (st:=lZ) l33 c33 k33;have F34:=aW (st:=md) l34 c34 k34;have F35:=aW (st:=jr) l35 c35 k35;have F36:=aW (st:=me) l36 c36 k36;have F37:=aW (st:=mf) l37 c37 k37;have F38:=aW (st:=gM) l38 c38 k38;have F39:=aW (st:=js) l39 c39 k39;have F40:=aW (st:=mh) l40 c40 k40;have F41:=aW (st:=mi) l41 c41 k41;have F42:=aW (st:=jt) l42 c42 k42;have F43:=aW (st:=mj) l43 c43 k43;have F44:=aW (st:=ju) l44 c44 k44;have F45:=aW (st:=mm) l45 c45 k45
 have F46:=aW (st:=iy) l46 c46 k46;have F47:=aW (st:=mq) l47 c47 k47;have F48:=aW (st:=mr) l48 c48 k48;have F49:=aW (st:=gN) l49 c49 k49;have F50:=aW (st:=mw) l50 c50 k50;have F51:=aW (st:=mx) l51 c51 k51;have F52:=aW (st:=jv) l52 c52 k52;have F53:=aW (st:=my) l53 c53 k53;have F54:=aW (st:=mz) l54 c54 k54;have F55:=aW (st:=jw) l55 c55 k55;have F56:=aW (st:=gO) l56 c56 k56;have F57:=aW (st:=jx) l57 c57 k57;refine⟨⟨f0,Oh "is_leap" "is_leap" (av pR) (au pR) (ag pR) .none kV0 dc0 pm0 an0 cd0 ct0,f1,Oh "month_length" "month_length" (av pT) (au pT) (ag pT) .none kV1 dc1 pm1 an1 cd1 ct1,f2,Oh "leaps_before" "leaps_before" (av pU) (au pU) (ag pU) .none kV2 dc2 pm2 an2 cd2 ct2,f3,Oh "year_start" "year_start" (av pV) (au pV) (ag pV) .none kV3 dc3 pm3 an3 cd3 ct3,f4,Oh "year_of" "year_of" (av pW) (au pW) (ag pW) .none kV4 dc4 pm4 an4 cd4 ct4,f5,Oh "parts_of" "parts_of" (av pX) (au pX) (ag pX) .none kV5 dc5 pm5 an5 cd5 ct5,f6,Oh "number_of" "number_of" (av pY) (au pY) (ag pY) .none kV6 dc6 pm6 an6 cd6 ct6,f7,Oh "later" "later" (av lQ) (au lQ) (ag lQ) .none kV7 dc7 pm7 an7 cd7 ct7,f8,Oh "__init__" "Paper.__init__" (av i9) (au i9) (ag i9) .none kV8 dc8 pm8 an8 cd8 ct8,f9,Oh "place_of" "place_of" (av lR) (au lR) (ag lR) .none kV9 dc9 pm9 an9 cd9 ct9,f10,Oh "comings" "comings" (av ja) (au ja) (ag ja) .none kV10 dc10 pm10 an10 cd10 ct10,f11,Oh "coming_of" "coming_of" (av lT) (au lT) (ag lT) .none kV11 dc11 pm11 an11 cd11 ct11,f12,Oh "papers" "papers" (av jb) (au jb) (ag jb) .none kV12 dc12 pm12 an12 cd12 ct12,f13,Oh "maker_comings" "maker_comings" (av iw) (au iw) (ag iw) .none kV13 dc13 pm13 an13 cd13 ct13,f14,Oh "makers" "makers" (av jc) (au jc) (ag jc) .none kV14 dc14 pm14 an14 cd14 ct14,f15,Oh "line_of" "line_of" (av jd) (au jd) (ag jd) .none kV15 dc15 pm15 an15 cd15 ct15,f16,Oh "latest" "latest" (av je) (au je) (ag je) .none kV16 dc16 pm16 an16 cd16 ct16,f17,Oh "rules_on" "rules_on" (av jf) (au jf) (ag jf) .none kV17 dc17 pm17 an17 cd17 ct17,f18,Oh "holds_on" "holds_on" (av jg) (au jg) (ag jg) .none kV18 dc18 pm18 an18 cd18 ct18,f19,Oh "is_told" "is_told" (av lU) (au lU) (ag lU) .none kV19 dc19 pm19 an19 cd19 ct19,f20,Oh "holding" "holding" (av jh) (au jh) (ag jh) .none kV20 dc20 pm20 an20 cd20 ct20,f21,Oh "happened" "happened" (av ji) (au ji) (ag ji) .none kV21 dc21 pm21 an21 cd21 ct21,f22,Oh "base_of" "base_of" (av jj) (au jj) (ag jj) .none kV22 dc22 pm22 an22 cd22 ct22,f23,Oh "reckoned" "reckoned" (av lV) (au lV) (ag lV) .none kV23 dc23 pm23 an23 cd23 ct23,f24,Oh "rules_over" "rules_over" (av jk) (au jk) (ag jk) .none kV24 dc24 pm24 an24 cd24 ct24,f25,Oh "has_gone" "has_gone" (av lW) (au lW) (ag lW) .none kV25 dc25 pm25 an25 cd25 ct25,f26,Oh "staying" "staying" (av jm) (au jm) (ag jm) .none kV26 dc26 pm26 an26 cd26 ct26,f27,Oh "going" "going" (av jn) (au jn) (ag jn) .none kV27 dc27 pm27 an27 cd27 ct27,f28,Oh "leave_rules" "leave_rules" (av jo) (au jo) (ag jo) .none kV28 dc28 pm28 an28 cd28 ct28,f29,Oh "bases" "bases" (av lX) (au lX) (ag lX) .none kV29 dc29 pm29 an29 cd29 ct29,f30,Oh "reckonings" "reckonings" (av jq) (au jq) (ag jq) .none kV30 dc30 pm30 an30 cd30 ct30,f31,Oh "turning_days" "turning_days" (av ix) (au ix) (ag ix) .none kV31 dc31 pm31 an31 cd31 ct31,f32,Oh "__init__" "Look.__init__" (av lY) (au lY) (ag lY) .none kV32 dc32 pm32 an32 cd32 ct32,f33,Oh "lets_go" "Look.lets_go" (av lZ) (au lZ) (ag lZ) .none kV33 dc33 pm33 an33 cd33 ct33,f34,Oh "as_row" "Look.as_row" (av md) (au md) (ag md) .none kV34 dc34 pm34 an34 cd34 ct34,f35,Oh "__init__" "Round.__init__" (av jr) (au jr) (ag jr) .none kV35 dc35 pm35 an35 cd35 ct35,f36,Oh "mark" "Round.mark" (av me) (au me) (ag me) .none kV36 dc36 pm36 an36 cd36 ct36,f37,Oh "unused" "Round.unused" (av mf) (au mf) (ag mf) .none kV37 dc37 pm37 an37 cd37 ct37,f38,Oh "look" "Round.look" (av gM) (au gM) (ag gM) .none kV38 dc38 pm38 an38 cd38 ct38,f39,Oh "shelf_of" "shelf_of" (av js) (au js) (ag js) .none kV39 dc39 pm39 an39 cd39 ct39,f40,Oh "looks_on" "looks_on" (av mh) (au mh) (ag mh) .none kV40 dc40 pm40 an40 cd40 ct40,f41,Oh "walk" "walk" (av mi) (au mi) (ag mi) .none kV41 dc41 pm41 an41 cd41 ct41,f42,Oh "rows_of" "rows_of" (av jt) (au jt) (ag jt) .none kV42 dc42 pm42 an42 cd42 ct42,f43,Oh "plan_looks" "plan_looks" (av mj) (au mj) (ag mj) .none kV43 dc43 pm43 an43 cd43 ct43,f44,Oh "plan" "plan" (av ju) (au ju) (ag ju) .none kV44 dc44 pm44 an44 cd44 ct44,f45,Oh "days_of" "days_of" (av mm) (au mm) (ag mm) .none kV45 dc45 pm45 an45 cd45 ct45,f46,Oh "there" "there" (av iy) (au iy) (ag iy) .none kV46 dc46 pm46 an46 cd46 ct46,f47,Oh "_law_cell" "_law_cell" (av mq) (au mq) (ag mq) .none kV47 dc47 pm47 an47 cd47 ct47,f48,Oh "_law_numbers" "_law_numbers" (av mr) (au mr) (ag mr) .none kV48 dc48 pm48 an48 cd48 ct48,f49,Oh "_law_pool" "_law_pool" (av gN) (au gN) (ag gN) .none kV49 dc49 pm49 an49 cd49 ct49,f50,Oh "_law_quarrel" "_law_quarrel" (av mw) (au mw) (ag mw) .none kV50 dc50 pm50 an50 cd50 ct50,f51,Oh "_law_parts" "_law_parts" (av mx) (au mx) (ag mx) .none kV51 dc51 pm51 an51 cd51 ct51,f52,Oh "_law_deed" "_law_deed" (av jv) (au jv) (ag jv) .none kV52 dc52 pm52 an52 cd52 ct52,f53,Oh "_law_pools" "_law_pools" (av my) (au my) (ag my) .none kV53 dc53 pm53 an53 cd53 ct53,f54,Oh "_law_sort" "_law_sort" (av mz) (au mz) (ag mz) .none kV54 dc54 pm54 an54 cd54 ct54,f55,Oh "_law_set" "_law_set" (av jw) (au jw) (ag jw) .none kV55 dc55 pm55 an55 cd55 ct55,f56,Oh "_law_moved_right" "_law_moved_right" (av gO) (au gO) (ag gO) .none kV56 dc56 pm56 an56 cd56 ct56,f57,Oh "law" "law" (av jx) (au jx) (ag jx) .none kV57 dc57 pm57 an57 cd57 ct57,.ref A_MONTH_DAYS,u_FIRST_YEAR,u_ROUND_DAYS,u_ROUND_YEARS,u_NoPaper,u_Paper,u_Look,u_Round⟩,?_⟩
 exact⟨(F0),
  (OC X G a0),
  (F0.binds (ps:=["year"]) λ_ _ _ _ _ _ us hl=>by obtain⟨a,rfl⟩:=cX (us:=us) hl;rfl),
  (F1),
  (OC X G a1),
  (F1.binds (ps:=["year","month"]) λ_ _ _ _ _ _ us hl=>by obtain⟨a,b,rfl⟩:=cD (us:=us) hl;rfl),
  (F2),
  (OC X G a2),
  (F2.binds (ps:=["year"]) λ_ _ _ _ _ _ us hl=>by obtain⟨a,rfl⟩:=cX (us:=us) hl;rfl),
  (F3),
  (OC X G a3),
  (F3.binds (ps:=["year"]) λ_ _ _ _ _ _ us hl=>by obtain⟨a,rfl⟩:=cX (us:=us) hl;rfl),
  (F4),
  (OC X G a4),
  (F4.binds (ps:=["day"]) λ_ _ _ _ _ _ us hl=>by obtain⟨a,rfl⟩:=cX (us:=us) hl;rfl),
  (F5),
  (OC X G a5),
  (F5.binds (ps:=["day"]) λ_ _ _ _ _ _ us hl=>by obtain⟨a,rfl⟩:=cX (us:=us) hl;rfl),
  (F6),
  (OC X G a6),
  (F6.binds (ps:=["year","month","day"]) λ_ _ _ _ _ _ us hl=>by obtain⟨a,b,c,rfl⟩:=gi (us:=us) hl;rfl),
  (F7),
  (OC X G a7),
  (F7.binds (ps:=["day","many","unit"]) λ_ _ _ _ _ _ us hl=>by obtain⟨a,b,c,rfl⟩:=gi (us:=us) hl;rfl),
  (F8),
  (F8.binds (ps:=["self","deeds","name"]) λ_ _ _ _ _ _ us hl=>by obtain⟨a,b,c,rfl⟩:=gi (us:=us) hl;rfl),
  (F9),
  (OC X G a9),
  (F9.binds (ps:=["deed"]) λ_ _ _ _ _ _ us hl=>by obtain⟨a,rfl⟩:=cX (us:=us) hl;rfl),
  (F10),
  (OC X G a10),
  (F10.binds (ps:=["deeds"]) λ_ _ _ _ _ _ us hl=>by obtain⟨a,rfl⟩:=cX (us:=us) hl;rfl),
  (F11),
  (OC X G a11),
  (F11.binds (ps:=["deeds","paper"]) λ_ _ _ _ _ _ us hl=>by obtain⟨a,b,rfl⟩:=cD (us:=us) hl;rfl),
  (F12),
  (OC X G a12),
  (F12.binds (ps:=["deeds"]) λ_ _ _ _ _ _ us hl=>by obtain⟨a,rfl⟩:=cX (us:=us) hl;rfl),
  (F13),
  (OC X G a13),
  (F13.binds (ps:=["deeds","coming"]) λ_ _ _ _ _ _ us hl=>by obtain⟨a,b,rfl⟩:=cD (us:=us) hl;rfl),
  (F14),
  (OC X G a14),
  (F14.binds (ps:=["deeds","paper"]) λ_ _ _ _ _ _ us hl=>by obtain⟨a,b,rfl⟩:=cD (us:=us) hl;rfl),
  (F15),
  (OC X G a15),
  (F15.binds (ps:=["deeds","paper"]) λ_ _ _ _ _ _ us hl=>by obtain⟨a,b,rfl⟩:=cD (us:=us) hl;rfl),
  (F16),
  (OC X G a16),
  (F16.binds (ps:=["deeds","words","day"]) λ_ _ _ _ _ _ us hl=>by obtain⟨a,b,c,rfl⟩:=gi (us:=us) hl;rfl),
  (F17),
  (OC X G a17),
  (F17.binds (ps:=["deeds","day"]) λ_ _ _ _ _ _ us hl=>by obtain⟨a,b,rfl⟩:=cD (us:=us) hl;rfl),
  (F18),
  (OC X G a18),
  (F18.binds (ps:=["deeds","day"]) λ_ _ _ _ _ _ us hl=>by obtain⟨a,b,rfl⟩:=cD (us:=us) hl;rfl),
  (F19),
  (OC X G a19),
  (F19.binds (ps:=["target","coming"]) λ_ _ _ _ _ _ us hl=>by obtain⟨a,b,rfl⟩:=cD (us:=us) hl;rfl),
  (F20),
  (OC X G a20),
  (F20.binds (ps:=["holds","line"]) λ_ _ _ _ _ _ us hl=>by obtain⟨a,b,rfl⟩:=cD (us:=us) hl;rfl),
  (F21),
  (OC X G a21),
  (F21.binds (ps:=["paper","happening"]) λ_ _ _ _ _ _ us hl=>by obtain⟨a,b,rfl⟩:=cD (us:=us) hl;rfl),
  (F22),
  (OC X G a22),
  (F22.binds (ps:=["paper","since","day"]) λ_ _ _ _ _ _ us hl=>by obtain⟨a,b,c,rfl⟩:=gi (us:=us) hl;rfl),
  (F23),
  (OC X G a23),
  (F23.binds (ps:=["paper","parts","day"]) λ_ _ _ _ _ _ us hl=>by obtain⟨a,b,c,rfl⟩:=gi (us:=us) hl;rfl),
  (F24),
  (OC X G a24),
  (F24.binds (ps:=["paper","rules","day"]) λ_ _ _ _ _ _ us hl=>by obtain⟨a,b,c,rfl⟩:=gi (us:=us) hl;rfl),
  (F25),
  (OC X G a25),
  (F25.binds (ps:=["gone","paper","day"]) λ_ _ _ _ _ _ us hl=>by obtain⟨a,b,c,rfl⟩:=gi (us:=us) hl;rfl),
  (F26),
  (OC X G a26),
  (F26.binds (ps:=["paper","rules","day","gone"]) λ_ _ _ _ _ _ us hl=>by obtain⟨a,b,c,d,rfl⟩:=tu (us:=us) hl;rfl),
  (F27),
  (OC X G a27),
  (F27.binds (ps:=["paper","rules","day","gone"]) λ_ _ _ _ _ _ us hl=>by obtain⟨a,b,c,d,rfl⟩:=tu (us:=us) hl;rfl),
  (F28),
  (OC X G a28),
  (F28.binds (ps:=["kind","rules"]) λ_ _ _ _ _ _ us hl=>by obtain⟨a,b,rfl⟩:=cD (us:=us) hl;rfl),
  (F29),
  (OC X G a29),
  (F29.binds (ps:=["since","paper"]) λ_ _ _ _ _ _ us hl=>by obtain⟨a,b,rfl⟩:=cD (us:=us) hl;rfl),
  (F30),
  (OC X G a30),
  (F30.binds (ps:=["ready","parts"]) λ_ _ _ _ _ _ us hl=>by obtain⟨a,b,rfl⟩:=cD (us:=us) hl;rfl),
  (F31),
  (OC X G a31),
  (F31.binds (ps:=["deeds"]) λ_ _ _ _ _ _ us hl=>by obtain⟨a,rfl⟩:=cX (us:=us) hl;rfl),
  (F32),
  (F32.binds (ps:=["self","day","paper","to_stay","to_go","bars","leave"]) λ_ _ _ _ _ _ us hl=>by obtain⟨a,b,c,d,p,q,r,rfl⟩:=KP (us:=us) hl;rfl),
  (F33),
  (F33.binds (ps:=["self"]) λ_ _ _ _ _ _ us hl=>by obtain⟨a,rfl⟩:=cX (us:=us) hl;rfl),
  (F34),
  (F34.binds (ps:=["self"]) λ_ _ _ _ _ _ us hl=>by obtain⟨a,rfl⟩:=cX (us:=us) hl;rfl),
  (F35),
  (F35.binds (ps:=["self","deeds","day","done"]) λ_ _ _ _ _ _ us hl=>by obtain⟨a,b,c,d,rfl⟩:=tu (us:=us) hl;rfl),
  (F36),
  (F36.binds (ps:=["self","row"]) λ_ _ _ _ _ _ us hl=>by obtain⟨a,b,rfl⟩:=cD (us:=us) hl;rfl),
  (F37),
  (F37.binds (ps:=["self","kind"]) λ_ _ _ _ _ _ us hl=>by obtain⟨a,b,rfl⟩:=cD (us:=us) hl;rfl),
  (F38),
  (F38.binds (ps:=["self","paper","line"]) λ_ _ _ _ _ _ us hl=>by obtain⟨a,b,c,rfl⟩:=gi (us:=us) hl;rfl),
  (F39),
  (OC X G a39),
  (F39.binds (ps:=["deeds"]) λ_ _ _ _ _ _ us hl=>by obtain⟨a,rfl⟩:=cX (us:=us) hl;rfl),
  (F40),
  (OC X G a40),
  (F40.binds (ps:=["deeds","shelf","day","done"]) λ_ _ _ _ _ _ us hl=>by obtain⟨a,b,c,d,rfl⟩:=tu (us:=us) hl;rfl),
  (F41),
  (OC X G a41),
  (F41.binds (ps:=["deeds","days","done"]) λ_ _ _ _ _ _ us hl=>by obtain⟨a,b,c,rfl⟩:=gi (us:=us) hl;rfl),
  (F42),
  (OC X G a42),
  (F42.binds (ps:=["looks"]) λ_ _ _ _ _ _ us hl=>by obtain⟨a,rfl⟩:=cX (us:=us) hl;rfl),
  (F43),
  (OC X G a43),
  (F43.binds (ps:=["deeds"]) λ_ _ _ _ _ _ us hl=>by obtain⟨a,rfl⟩:=cX (us:=us) hl;rfl),
  (F44),
  (OC X G a44),
  (F44.binds (ps:=["deeds"]) λ_ _ _ _ _ _ us hl=>by obtain⟨a,rfl⟩:=cX (us:=us) hl;rfl),
  (F45),
  (OC X G a45),
  (F45.binds (ps:=["deeds"]) λ_ _ _ _ _ _ us hl=>by obtain⟨a,rfl⟩:=cX (us:=us) hl;rfl),
  (F46),
  (OC X G a46),
  (F46.binds (ps:=["deeds","day"]) λ_ _ _ _ _ _ us hl=>by obtain⟨a,b,rfl⟩:=cD (us:=us) hl;rfl),
  (F47),
  (OC X G a47),
  (F47.binds (ps:=["_law_script","_law_k"]) λ_ _ _ _ _ _ us hl=>by obtain⟨a,b,rfl⟩:=cD (us:=us) hl;rfl),
  (F48),
  (OC X G a48),
  (F48.binds (ps:=["_law_cell_here","_law_many"]) λ_ _ _ _ _ _ us hl=>by obtain⟨a,b,rfl⟩:=cD (us:=us) hl;rfl),
  (F49),
  (OC X G a49),
  (F49.binds (ps:=["_law_x","_law_many"]) λ_ _ _ _ _ _ us hl=>by obtain⟨a,b,rfl⟩:=cD (us:=us) hl;rfl),
  (F50),
  (OC X G a50),
  (F50.binds (ps:=["_law_one","_law_other"]) λ_ _ _ _ _ _ us hl=>by obtain⟨a,b,rfl⟩:=cD (us:=us) hl;rfl),
  (F51),
  (OC X G a51),
  (F51.binds (ps:=["_law_xs","_law_kinds","_law_words"]) λ_ _ _ _ _ _ us hl=>by obtain⟨a,b,c,rfl⟩:=gi (us:=us) hl;rfl),
  (F52),
  (OC X G a52),
  (F52.binds (ps:=["_law_sort_here","_law_xs","_law_pools_here"]) λ_ _ _ _ _ _ us hl=>by obtain⟨a,b,c,rfl⟩:=gi (us:=us) hl;rfl),
  (F53),
  (OC X G a53),
  (F53.binds (ps:=["_law_x"]) λ_ _ _ _ _ _ us hl=>by obtain⟨a,rfl⟩:=cX (us:=us) hl;rfl),
  (F54),
  (OC X G a54),
  (F54.binds (ps:=["_law_k","_law_xs"]) λ_ _ _ _ _ _ us hl=>by obtain⟨a,b,rfl⟩:=cD (us:=us) hl;rfl),
  (F55),
  (OC X G a55),
  (F55.binds (ps:=["_law_script"]) λ_ _ _ _ _ _ us hl=>by obtain⟨a,rfl⟩:=cX (us:=us) hl;rfl),
  (F56),
  (OC X G a56),
  (F56.binds (ps:=["_law_deeds","_law_by"]) λ_ _ _ _ _ _ us hl=>by obtain⟨a,b,rfl⟩:=cD (us:=us) hl;rfl),
  (F57),
  (OC X G a57),
  (F57.binds (ps:=["_law_script"]) λ_ _ _ _ _ _ us hl=>by obtain⟨a,rfl⟩:=cX (us:=us) hl;rfl),
  (λs v=>.of_eq rfl),
  (OC X G x_MONTH_DAYS),
  (⟨A_MONTH_DAYS,rfl,λH=>.inr ⟨_,_,_,y_MONTH_DAYS,rfl,rfl,w_MONTH_DAYS,z_MONTH_DAYS⟩⟩),
  (OC X G x_FIRST_YEAR),
  (r_FIRST_YEAR),
  (OC X G x_ROUND_DAYS),
  (r_ROUND_DAYS),
  (OC X G x_ROUND_YEARS),
  (r_ROUND_YEARS),
  (OC X G x_NoPaper),
  (OC X G x_Paper),
  (OC X G x_Look),
  (OC X G x_Round),
  (⟨pg_Paper,hd_Paper,po_Paper,sa_Paper⟩),
  (⟨mk_Paper,a8,i8,kc_Paper⟩),
  (na_Paper_name),
  (na_Paper_coming),
  (na_Paper_kind),
  (na_Paper_makers),
  (na_Paper_happenings),
  (⟨pg_Look,hd_Look,po_Look,sa_Look⟩),
  (⟨mk_Look,a32,i32,kc_Look⟩),
  (na_Look_day),
  (na_Look_paper),
  (na_Look_to_stay),
  (na_Look_to_go),
  (na_Look_bars),
  (na_Look_leave),
  (⟨a33,i33,k33⟩),
  (⟨a34,i34,k34⟩),
  (⟨pg_Round,hd_Round,po_Round,sa_Round⟩),
  (⟨mk_Round,a35,i35,kc_Round⟩),
  (na_Round_day),
  (na_Round_rules),
  (na_Round_holds),
  (na_Round_leaves),
  (na_Round_gone),
  (na_Round_used),
  (⟨a36,i36,k36⟩),
  (⟨a37,i37,k37⟩),
  (⟨a38,i38,k38⟩),
  (PJ X G n_abs),
  (PJ X G n_all),
  (PJ X G n_any),
  (PJ X G n_enumerate),
  (PJ X G n_int),
  (PJ X G n_len),
  (PJ X G n_list),
  (PJ X G n_max),
  (PJ X G n_min),
  (PJ X G n_range),
  (PJ X G n_set),
  (PJ X G n_sorted),
  (PJ X G n_sum),
  (PJ X G n_tuple)⟩
end K78
open PySem L2
local macro_rules | `(tactic| walk_at "o")=>`(tactic| first | exact T9 rfl | exact SX rfl)
local macro_rules | `(tactic| walk_at "rz") =>do let a <- rzT "d9 Ol PD Oz Pn Qh Qi OX PN PM"; let b <- rzT rzS; `(tactic| ((try $a:tactic); $b:tactic))
namespace K78
section
variable {P:VY} {w:VZ} {K:Oe} {mg:Str->Option VM} {base:V0} {t:cm}
def vk(u:Str):Prop:=u=Od "days"\/u=Od "days"\/u=Od "days"
def rP(d k:Int)(u:Str)(r:Int):Prop:=r=d+k
def F_x7:List VL->(VL->Prop)->Prop:=λds Q=>∃(d i:Int)(u:Str),ds=[.int d,.int i,.str u]/\vk u/\∀r,rP d i u r->Q (.int r)
theorem BS(T:Txt K mg t):aF P w K mg base CX0 5 t.a_x7 t.d_x7 ["day","many","unit"] (ba K F_x7):=by
 refine T.F_x7.okD Ko (λds Q h=>?_) (λcdv A outer s H O ds Q E hr h=>?_)
 ·obtain⟨d,i,u,rfl,_⟩:=h;rfl
 ·obtain⟨d,i,u,rfl,hu,q⟩:=h;obtain rfl:u=Od "days":=by rcases hu with h | h | h <;> exact h
  refine'⟨_,?body,?read⟩
  case body=>
   refine' aq ?s1 ?r1
   case s1=>
    refine' bF ?c2 ?a2 bE
    case c2=>exact(aQ (cz hr) cA (df (dv 2)) (df aY) (aM _))
    case' a2=>refine' aA ?s3
    case s3=>exact(aU (aH dY cQ (df (dv 0)) (df (dv 1))))
   case' r1=>refine' aq qK ?r5
   case' r5=>refine' aq qK ?r7
   case' r7=>refine' aq qK ?r9
   case' r9=>refine' aq qK ?r11
   case' r11=>refine' aq qK ?r13
   case r13=>refine' aA qK
  case read=>
  clear hr T;walk_at "rz";exact q _ rfl
theorem KQ{d k:Int}{u:Str}{r r':Int}(h:rP d k u r)(h':rP d k u r'):r=r':=by
 rw [show r=d+k from h,show r'=d+k from h']
end
end K78
namespace Day
end Day
open PySem L2
namespace K78
structure Pp where
 d:Int
 nm:Str
 kd:Str
 ms:List Str
def Pp.enc(p:Pp):VL:= .tuple [.str (Od "paper"),.int p.d,.str p.nm,.str p.kd,.tuple (p.ms.map .str)]
def Pp.key(p:Pp):Int×Str:=(p.d,p.nm)
def gj:VL->Int×Str
 | .tuple (_:: .int d:: .str n::_)=>(d,n)
 | _=>(0,Od "")
def Pp.lt(a b:Pp):Prop:=aT a.key b.key=true
instance (a b:Pp):Decidable (a.lt b):=by unfold Pp.lt;infer_instance
theorem KR(p:Int×Str):aT p p=false:=by unfold aT;simp [List.lt_irrefl]
theorem BU{a b c:Int×Str}(h1:aT a b=true)(h2:aT b c=true):aT a c=true:=by
 unfold aT at h1 h2⊢;simp only [So,Pw,decide_eq_true_eq] at h1 h2⊢;rcases h1 with h1 | ⟨h1,h1'⟩ <;> rcases h2 with h2 | ⟨h2,h2'⟩
 ·left;omega
 ·left;omega
 ·left;omega
 ·right;exact⟨h1.trans h2,Vi h1' h2'⟩
theorem vo{a b:Int×Str}(h:aT a b=true):¬aT b a=true:=λz=>by
 have:=BU h z;rw [KR] at this;cases this
theorem KS{a b:Int×Str}(h:a≠b):aT a b=true\/aT b a=true:=by
 have T:=A7 (n:=2) (kp:=λi=>if i=0 then a else b) (λi j hi hj e=>by
  have:i=0\/i=1:=VH
  have:j=0\/j=1:=VH
  rcases ‹i=0\/i=1› with rfl | rfl <;> rcases ‹j=0\/j=1› with rfl | rfl
  ·rfl
  ·exact absurd e h
  ·exact absurd e.symm h
  ·rfl)
 have:=T.tot 0 1 VH VH VH;simp at this;cases hb:aT b a with
 | true=>exact .inr rfl
 | false=>rw [hb] at this;exact .inl (by simpa using this)
theorem Pp.lt_tr{a b c:Pp}(h1:a.lt b)(h2:b.lt c):a.lt c:=BU h1 h2
theorem p8{α:Type}{r:α->α->Prop}(as:∀a b,r a b->¬r b a):∀{l1 l2:List α},l1.Perm l2->l1.Pairwise r->l2.Pairwise r->l1=l2
 | [],l2,p,_,_=>by rw [p.nil_eq]
 | a::l1,[],p,_,_=>by have:=p.length_eq;simp at this
 | a::l1,b::l2,p,h1,h2=>by
  have e:a=b:=by
   have m1:a∈b::l2:=p.mem_iff.mp (by simp);have m2:b∈a::l1:=p.mem_iff.mpr (by simp);rcases OA.mp m1 with e | m1
   ·exact e
   ·rcases OA.mp m2 with e | m2
    ·exact e.symm
    ·exact absurd ((P8.mp h1).1 b m2) (as _ _ ((P8.mp h2).1 a m1))
  subst e;rw [p8 as ((List.perm_cons a).mp p) (P8.mp h1).2 (P8.mp h2).2]
def gP(x:Pp):List Pp->List Pp
 | []=>[x]
 | y::l=>if x.lt y then x::y::l else y::gP x l
def bB(ps:List Pp):List Pp:=ps.foldr gP []
theorem xO(x:Pp):∀l,(gP x l).Perm (x::l)
 | []=>.refl _
 | y::l=>by
  unfold gP;split
  ·exact .refl _
  ·exact((xO x l).cons y).trans (.swap x y l)
theorem mB:∀ps:List Pp,(bB ps).Perm ps
 | []=>.refl _
 | x::ps=>(xO x (bB ps)).trans ((mB ps).cons x)
theorem BV{x:Pp}:∀{l:List Pp},(∀y∈l,y.nm≠x.nm)->l.Pairwise Pp.lt->(gP x l).Pairwise Pp.lt
 | [],_,_=>TZ _ _
 | y::l,hn,h=>by
  have hp:=P8.mp h;unfold gP;split
  ·rename_i hl;refine P8.mpr ⟨λz hz=>?_,h⟩;rcases OA.mp hz with e | e
   ·subst e;exact hl
   ·exact Pp.lt_tr hl (hp.1 z e)
  ·rename_i hl;refine P8.mpr ⟨λz hz=>?_,BV (λz hz=>hn z (by simp [hz])) hp.2⟩;rcases OA.mp ((xO x l).mem_iff.mp hz) with e | e
   ·subst e;rcases KS (a:=y.key) (b:=z.key) (λz=>hn y (by simp) (congrArg Prod.snd z)) with w | w
    ·exact w
    ·exact absurd w hl
   ·exact hp.1 z e
theorem tw:∀{ps:List Pp},(ps.map (·.nm)).Nodup->(bB ps).Pairwise Pp.lt
 | [],_=>.nil
 | x::ps,h=>by
  rw [Ol,Qj] at h;exact BV (λy hy e=>h.1 (by rw [<-e];exact Oq.mpr ⟨y,(mB ps).mem_iff.mp hy,rfl⟩)) (tw h.2)
theorem gQ{ps:List Pp}{x:Pp}:x∈bB ps↔x∈ps:=(mB ps).mem_iff
theorem iz{ps:List Pp}:(bB ps).length=ps.length:=(mB ps).length_eq
theorem Pp.asym(a b:Pp)(h:a.lt b):¬b.lt a:=vo h
theorem KU{ps os:List Pp}(nd:(ps.map (·.nm)).Nodup)(hp:os.Perm ps)(hs:os.Pairwise Pp.lt):os=bB ps:=
 p8 Pp.asym (hp.trans (mB ps).symm) hs (tw nd)
theorem xP{ps:List Pp}{f:Pp->Bool}(nd:(ps.map (·.nm)).Nodup):((ps.filter f).map (·.nm)).Nodup:=nd.sublist (Sd.map _)
theorem BW{ps:List Pp}{f:Pp->Bool}(nd:(ps.map (·.nm)).Nodup):bB (ps.filter f)=(bB ps).filter f:=
 (KU (xP nd) ((mB ps).filter f) ((tw nd).sublist Sd)).symm
theorem KW{ps:List Pp}{ds:List VL}(nd:(ps.map (·.nm)).Nodup)(hp:ds.Perm (ps.map Pp.enc))(hs:ds.Pairwise λa b=>aT (gj a) (gj b)=true):ds=(bB ps).map Pp.enc:=by
 refine p8 (λa b h=>vo h) (hp.trans ((mB ps).symm.map _)) hs ?_;rw [Px];exact tw nd
theorem KY{ps:List Pp}(nd:(ps.map (·.nm)).Nodup){a b:Pp}(ha:a∈ps)(hb:b∈ps)(e:a.nm=b.nm):a=b:=by
 induction ps with
 | nil=>cases ha
 | cons x ps ih=>
  rw [Ol,Qj] at nd;rcases OA.mp ha with ea | ha1 <;> rcases OA.mp hb with eb | hb1
  ·rw [ea,eb]
  ·subst ea;exact absurd (Oq.mpr ⟨b,hb1,e.symm⟩) nd.1
  ·subst eb;exact absurd (Oq.mpr ⟨a,ha1,e⟩) nd.1
  ·exact ih nd.2 ha1 hb1
structure p9 (ps:List Pp):Prop where
 ln:ps.length<=41
 nd:(ps.map (·.nm)).Nodup
 nm:∀p∈ps,Om p.nm=true
 kd:∀p∈ps,Om p.kd=true
 ms:∀p∈ps,(∀m∈p.ms,Om m=true)/\p.ms.length<=50
theorem p9.filter{ps:List Pp}(g:p9 ps)(f:Pp->Bool):p9 (ps.filter f):=
 ⟨O6 (Ph _ _) g.ln,xP g.nd,λp hp=>g.nm p (Pa.mp hp).1,λp hp=>g.kd p (Pa.mp hp).1,λp hp=>g.ms p (Pa.mp hp).1⟩
def vp(c p:Pp):Bool:=c.ms.contains p.nm && aT p.key c.key
def fz(ps:List Pp)(c:Pp):List Pp:=(bB ps).filter (vp c)
inductive De where
 | pap (p:Pp)
 | oth (w:Str) (d:Int) (nm:Str) (r:List VL)
def De.enc:De->VL
 | .pap p=>p.enc
 | .oth w d nm r=>.tuple (.str w:: .int d:: .str nm::r)
def De.w:De->Str
 | .pap _=>Od "paper"
 | .oth w _ _ _=>w
def De.d:De->Int
 | .pap p=>p.d
 | .oth _ d _ _=>d
def De.nm:De->Str
 | .pap p=>p.nm
 | .oth _ _ nm _=>nm
def De.pp:De->Option Pp
 | .pap p=>some p
 | _=>none
def aD(xs:List De):List Pp:=xs.filterMap De.pp
structure jy (xs:List De):Prop where
 gp:p9 (aD xs)
 np:∀w d nm r,De.oth w d nm r∈xs->w≠Od "paper"
 ln:xs.length<=41
 w:∀x∈xs,Om x.w=true
 nm:∀x∈xs,Om x.nm=true
theorem xQ{xs:List De}{p:Pp}:p∈aD xs↔De.pap p∈xs:=by
 unfold aD;rw [RQ];constructor
 ·rintro⟨x,hx,e⟩;cases x with
  | pap q=>cases e;exact hx
  | oth w d nm r=>cases e
 ·intro h;exact⟨_,h,rfl⟩
theorem BX(ps:List Pp):aD (ps.map De.pap)=ps:=by
 unfold aD;rw [Uz];exact List.filterMap_some
theorem KZ(ps:List Pp):ps.map Pp.enc=(ps.map De.pap).map De.enc:=by rw [Ov];rfl
theorem xR:Om (Od "paper")=true:=cp
theorem jy.of{ps:List Pp}(g:p9 ps):jy (ps.map De.pap):=by
 refine⟨by rw [BX];exact g,λw d nm r h=>?_,by rw [Of];exact g.ln,λx hx=>?_,λx hx=>?_⟩
 ·obtain⟨p,_,e⟩:=Oq.mp h;cases e
 ·obtain⟨p,_,rfl⟩:=Oq.mp hx;exact xR
 ·obtain⟨p,hp,rfl⟩:=Oq.mp hx;exact g.nm p hp
end K78
open PySem L2
namespace K78
theorem BY:bb (ag ja) ["deeds"] ["deed"] 1 [] {kind:=Ou,names:=[(Og ".0",PySem.NameKind.local),(Og "deed",PySem.NameKind.local)],isGenerator:=false,isCoroutine:=false,more:=[]:O3}:=⟨rfl,cp,cp,cp,rfl,cp,cp,cp,rfl⟩
theorem BZ:bb (ag jb) ["deeds"] ["deed"] 1 [] {kind:=Ou,names:=[(Og ".0",PySem.NameKind.local),(Og "deed",PySem.NameKind.local)],isGenerator:=false,isCoroutine:=false,more:=[]:O3}:=⟨rfl,cp,cp,cp,rfl,cp,cp,cp,rfl⟩
theorem B0:bb (ag iw) ["deeds","coming","named"] ["deed","coming"] 1 [1] {kind:=Ou,names:=[ (Og ".0",PySem.NameKind.local),(Og "deed",PySem.NameKind.local),(Og "coming",OE)],isGenerator:=false,isCoroutine:=false,more:=[]:O3}:=⟨rfl,cp,cp,cp,rfl,cp,cp,cp,rfl⟩
theorem B1:bb (ag iw) ["deeds","coming","named"] ["deed","coming"] 1 [1] {kind:=Ou,names:=[ (Og ".0",PySem.NameKind.local),(Og "deed",PySem.NameKind.local),(Og "place_of",O9),(Og "coming",OE)],isGenerator:=false,isCoroutine:=false,more:=[]:O3}:=⟨rfl,cp,cp,cp,rfl,cp,cp,cp,rfl⟩
theorem B2:bb (ag jc) ["deeds","paper"] ["deed"] 1 [] {kind:=Ou,names:=[(Og ".0",PySem.NameKind.local),(Og "deed",PySem.NameKind.local)],isGenerator:=false,isCoroutine:=false,more:=[]:O3}:=⟨rfl,cp,cp,cp,rfl,cp,cp,cp,rfl⟩
section
variable {P:VY} {w:VZ} {K:Oe} {mg:Str->Option VM} {base:V0} {t:cm}
theorem cY{α:Type}{enc:α->VL}{g:DG}{tc:DB}{te:DT}{δ0:Dl}{xs:List α}{Q:List VL->Prop}(p:α->Bool)(f:α->VL)
 (h:∀x∈xs,∀(R:VL->Prop) (S:Prop),(if p x=true then R (f x) else S)->g (enc x) δ0 λδ2=>tc δ2 λok=>if ok=true then te δ2 R else S)(q:Q ((xs.filter p).map f)):gb g tc te δ0 (xs.map enc) Q:=by
 refine⟨λi acc=>acc=((xs.take i).filter p).map f,rfl,?_,?_⟩
 ·rintro i z acc hz rfl;rw [OD] at hz;cases hz':xs[i]? with
  | none=>rw [hz'] at hz;cases hz
  | some x=>
   rw [hz'] at hz;cases hz;refine h x (OY hz') (λy=>((xs.take i).filter p).map f++[y]=((xs.take (i+1)).filter p).map f) (((xs.take i).filter p).map f=((xs.take (i+1)).filter p).map f) ?_;rw [Pk,hz'];by_cases e:p x=true
   ·rw [VJ e];simp [e]
   ·rw [VI e];simp [e]
 ·rintro acc rfl;rw [Of,O7 (Oj _)];exact q
theorem jz{α:Type}{enc:α->VL}{g:DG}{tc:DB}{te:DT}{δ0:Dl}{xs:List α}{Q:List VL->Prop}(p:α->Bool)(f:α->VL)
 (h:∀x∈xs,∀(R:VL->Prop) (S:Prop),(p x=true->R (f x))->(p x=false->S)->g (enc x) δ0 λδ2=>tc δ2 λok=>if ok=true then te δ2 R else S)(q:Q ((xs.filter p).map f)):gb g tc te δ0 (xs.map enc) Q:=
 cY p f (λx hx R S z=>h x hx R S (λe=>by rw [VJ e] at z;exact z) (λe=>by rw [VI (by rw [e];exact OF)] at z;exact z)) q
theorem gm{α:Type}(l:List α):l.filter (λ_=>true)=l:=List.filter_eq_self.mpr λ_ _=>rfl
theorem bI{a b:Str}(h:a≠b):(a==b)=false:=by simpa using h
theorem K0{ws:List Str}{w:Str}:((ws.map Oi).any λd=>ON d (.str w))=ws.contains w:=by
 induction ws with
 | nil=>rfl
 | cons a ws ih=>
  rw [Ol,PQ,ih,cL,Td];congr 1;by_cases h:a=w
  ·simp [h]
  ·rw [bI h,bI (Ne.symm h)]
theorem K1{ms:List Str}(h:∀m∈ms,Om m=true):Qe (ms.map .str)=true:=(uM (n:=1) (uP h)).1
def jA(f:Pp->Bool):De->Bool
 | .pap p=>f p
 | _=>false
theorem tD{f:Pp->Bool}:∀xs:List De,(xs.filter (jA f)).map De.enc=((aD xs).filter f).map Pp.enc
 | []=>rfl
 | .pap p::xs=>by
  have ih:=tD (f:=f) xs;show _=(QN f (p::aD xs)).map Pp.enc;rw [PH,PH];by_cases h:f p=true
  ·rw [VJ h,VJ (show jA f (.pap p)=true from h),Ol,Ol,ih];rfl
  ·rw [VI h,VI (show ¬jA f (.pap p)=true from h),ih]
 | .oth w d nm r::xs=>by
  have ih:=tD (f:=f) xs;show _=(QN f (aD xs)).map Pp.enc;rw [PH,VI (show ¬jA f (.oth w d nm r)=true from OF),ih]
def xS:List VL->(VL->Prop)->Prop:=λds Q=>∃p:De,ds=[p.enc]/\Q (cw (p.d,p.nm))
theorem xT(T:Txt K mg t):aF P w K mg base CX0 1 t.a_x9 t.d_x9 ["deed"] (ba K xS):=by
 refine T.F_x9.okD Kp (λds Q h=>?_) (λcdv A outer s H O ds Q E hr h=>?_)
 ·obtain⟨p,rfl,_⟩:=h;rfl
 ·obtain⟨p,rfl,q⟩:=h;refine'⟨_,?body,?read⟩
  case body=>
   refine' aA ?s1
   case' s1=>refine' aU ?e2
   case' e2=>refine' bD ?t3
   case' t3=>refine' aa ?u4 ?w4
   case u4=>exact(ar aC aI (df (dv 0)) (df ah))
   case' w4=>refine' aa ?u6 ao
   case u6=>exact(ar aC aI (df (dv 0)) (df ah))
  case read=>
  clear hr T;cases p <;> simp only [De.enc,Pp.enc] <;> walk_at "rz" <;> exact q
theorem K2{d:VL}{ps:List Pp}(h:d∈ps.map Pp.enc)(R:VL->Prop)(q:R (cw (gj d))):xS [d] R:=by
 obtain⟨p,hp,rfl⟩:=Oq.mp h;exact⟨.pap p,rfl,q⟩
theorem B3{ps:List Pp}(nd:(ps.map (·.nm)).Nodup):(ps.map Pp.key).Nodup:=by
 rw [SD,Px] at nd⊢;exact nd.imp λh e=>h (congrArg Prod.snd e)
def F_x10:List VL->(VL->Prop)->Prop:=λds Q=>∃xs:List De,(ds=[.list (xs.map De.enc)]\/ds=[.tuple (xs.map De.enc)])/\jy xs/\Q (.list ((bB (aD xs)).map Pp.enc))
theorem xU(T:Txt K mg t):aF P w K mg base CX0 4 t.a_x10 t.d_x10 ["deeds"] (ba K F_x10):=by
 have G_x9:=xT (P:=P) (w:=w) (base:=base) T;refine T.F_x10.okD Kq (λds Q h=>?_) (λcdv A outer s H O ds Q E hr h=>?_)
 ·obtain⟨ps,h | h,_⟩:=h <;> subst h <;> rfl
 ·obtain⟨xs,e,gd,q⟩:=h;refine'⟨_,?body,?read⟩
  case body=>
   refine' aA ?s1
   case' s1=>refine' aU ?e2
   case e2=>exact(fe (Bd gj rfl G_x9 (bf.in1 (bf.in1 (hr.mono VG))) T.b_x9 rfl T.m_x9 rfl T.n_sorted QD (bu (df (fe (Jr rfl BY (df (dv 0)) aO bL VG (λ_ _ _ _=>(aL (i:=0) BY.nd rfl (by walk_at "o"))) (λ_ _ _ _=>(dJ (aQ (cz hr) cA (df (ar aC aI (df (dv 0)) (df ah))) (df aY) (aM _)))) (λ_ _ _ _=>(dv 0))))) bC)))
  case read=>
  clear hr T G_x9;have ln:=gd.ln;have pl:=gd.gp.ln;have step:∀x∈xs,∀(R:VL->Prop)(S:Prop),(if jA (λ_=>true) x=true then R x.enc else S)->(if (x.w==Od "paper")=true then R x.enc else S):=λx hx R S h=>by
   cases x with
   | pap p=>exact h
   | oth w d nm r=>
    rw [show((De.oth w d nm r).w==Od "paper")=false from bI (gd.np w d nm r hx),VI OF];rw [VI (show ¬jA (λ_=>true) (.oth w d nm r)=true from OF)] at h;exact h
  have fin:∀ds':List VL,ds'.Perm ((aD xs).map Pp.enc)->ds'.Pairwise (λa b=>aT (gj a) (gj b)=true)->Q (.list ds'):=λds' h1 h2=>by
   rw [KW gd.gp.nd h1 h2];exact q
  have tail:(∀d∈(aD xs).map Pp.enc,∀R:VL->Prop,R (cw (gj d))->xS [d] R)/\((aD xs).map Pp.enc).length < 64/\(((aD xs).map Pp.enc).map gj).Nodup:=by
   refine⟨λd hd R z=>K2 hd R z,by rw [Of];omega,?_⟩;rw [Ov];exact B3 gd.gp.nd
  rcases e with e | e <;> subst e <;> walk_at "rz"
  ·refine⟨by rw [Of];omega,cY (jA λ_=>true) De.enc (λx hx R S h=>?_) ?_⟩
   ·have h:=step x hx R S h;cases x <;> simp only [De.enc,De.w,Pp.enc] at h⊢<;> walk_at "rz" <;> exact h
   ·rw [tD,gm];exact⟨tail.1,tail.2.1,tail.2.2,fin⟩
  ·refine⟨by rw [Of];omega,cY (jA λ_=>true) De.enc (λx hx R S h=>?_) ?_⟩
   ·have h:=step x hx R S h;cases x <;> simp only [De.enc,De.w,Pp.enc] at h⊢<;> walk_at "rz" <;> exact h
   ·rw [tD,gm];exact⟨tail.1,tail.2.1,tail.2.2,fin⟩
def K3:List VL->(VL->Prop)->Prop:=λds Q=>∃(xs:List De)(c:Pp),ds=[.tuple (xs.map De.enc),.str c.nm]/\jy xs/\c∈aD xs/\Q c.enc
theorem xV(T:Txt K mg t):aF P w K mg base CX0 1 t.a_x11 t.d_x11 ["deeds","paper"] (ba K K3):=by
 refine T.F_x11.okD BK (λds Q h=>?_) (λcdv A outer s H O ds Q E hr h=>?_)
 ·obtain⟨ps,c,rfl,_⟩:=h;rfl
 ·obtain⟨xs,c,rfl,gd,hc,q⟩:=h;refine'⟨_,?body,?read⟩
  case body=>
   refine' aq ?s1 ?r1
   case s1=>
    refine' qB Pz rfl (dv 0) ?a2 aO ?b2
    case a2=>exact(aL (i:=2) BK.nd rfl (by walk_at "o"))
    case' b2=>refine' aA ?s3
    case' s3=>refine' bF ?c4 ?a4 bE
    case c4=>exact(PW.pt (fH (aQ (cz hr) cA (df (ar aC aI (df (dv 2)) (df ah))) (df aY) (aM _)) (fG (aQ (dB hr.units) dD (df (ar aC aI (df (dv 2)) (df ah))) (df (dv 1)) (aM _)))))
    case' a4=>refine' aA ?s5
    case s5=>exact(aU (dv 2))
   case r1=>refine' aA qK
  case read=>
  clear hr T;walk_at "rz";refine⟨λi δ=>(∀x∈aD (xs.take i),x.nm≠c.nm)/\∃o2,δ=[some (Sl.v (.tuple (xs.map De.enc))),some (Sl.v (.str c.nm)),o2],⟨by simp [aD],_,rfl⟩,?_,?_⟩
  ·rintro i z δ hz ⟨hn,o2,rfl⟩;rw [OD] at hz;cases hz':xs[i]? with
   | none=>rw [hz'] at hz;cases hz
   | some x=>
    rw [hz'] at hz;cases hz;have hx:=OY hz';cases x with
    | pap p=>
     simp only [De.enc,Pp.enc];walk_at "rz";refine⟨cH.mpr (gd.nm _ hx),cH.mpr (gd.gp.nm c hc),?_⟩;split
     ·rename_i h;have e:=KY gd.gp.nd (xQ.mpr hx) hc (eq_of_beq h);subst e;exact q
     ·rename_i h;refine⟨λy hy=>?_,_,rfl⟩;rw [Pk,hz'] at hy;unfold aD at hy;rw [Ud] at hy;rcases OL.mp hy with z | z
      ·exact hn y z
      ·have:y=p:=by simpa [De.pp] using z
       rw [this];exact λe=>h (by rw [e];exact beq_self_eq_true _)
    | oth w d nm r=>
     simp only [De.enc];walk_at "rz";rw [bI (gd.np w d nm r hx),VI OF];refine⟨λy hy=>?_,_,rfl⟩;rw [Pk,hz'] at hy;unfold aD at hy;rw [Ud] at hy;rcases OL.mp hy with z | z
     ·exact hn y z
     ·simp [De.pp] at z
  ·rintro δ ⟨hn,o2,rfl⟩;rw [Of,O7 (Oj _)] at hn;exact absurd rfl (hn c hc)
def F_x12:List VL->(VL->Prop)->Prop:=λds Q=>∃xs:List De,ds=[.tuple (xs.map De.enc)]/\jy xs/\Q (.tuple (((bB (aD xs)).map (·.nm)).map .str))
theorem xW(T:Txt K mg t):aF P w K mg base CX0 5 t.a_x12 t.d_x12 ["deeds"] (ba K F_x12):=by
 have G_x10:=xU (P:=P) (w:=w) (base:=base) T;refine T.F_x12.okD Kr (λds Q h=>?_) (λcdv A outer s H O ds Q E hr h=>?_)
 ·obtain⟨ps,rfl,_⟩:=h;rfl
 ·obtain⟨xs,rfl,gd,q⟩:=h;refine'⟨_,?body,?read⟩
  case body=>
   refine' aA ?s1
   case' s1=>refine' aU ?e2
   case e2=>exact(PE.imp (dA fc rfl T.n_tuple fg (bu (df (fe (d8 rfl BZ (df (PE.imp (aR G_x10 (hr.mono VG) rfl T.m_x10 T.F_x10.kp T.b_x10 .nil aG (aa (dv 0) ao)) aS)) aO bL VG (λ_ _ _ _=>(aL (i:=0) BZ.nd rfl (by walk_at "o"))) (λ_ _ _ _=>cS) (λ_ _ _ _=>(ar aC aI (df (dv 0)) (df ah)))))) bC)) (bU fj))
  case read=>
  clear hr T G_x10;walk_at "rz";refine⟨xs,.inr rfl,gd,_,rfl,by rw [Of,iz];have:=gd.gp.ln;omega,cY (λ_=>true) (λp:Pp=>.str p.nm) (λx hx R S h=>?_) ?_⟩
  ·simp only [Pp.enc];walk_at "rz";rw [VJ rfl] at h;exact h
  ·rw [gm];rw [Ov] at q;exact q
def K4:List VL->(VL->Prop)->Prop:=λds Q=>∃(xs:List De)(c:Pp),ds=[.tuple (xs.map De.enc),c.enc]/\jy xs/\c∈aD xs/\Q (.list ((fz (aD xs) c).map Pp.enc))
theorem B4(T:Txt K mg t):aF P w K mg base CX0 5 t.a_x13 t.d_x13 ["deeds","coming"] (ba K K4):=by
 have G_x10:=xU (P:=P) (w:=w) (base:=base) T;have G_x9:=xT (P:=P) (w:=w) (base:=base) T;refine T.F_x13.okD BL (λds Q h=>?_) (λcdv A outer s H O ds Q E hr h=>?_)
 ·obtain⟨ps,c,rfl,_⟩:=h;rfl
 ·obtain⟨xs,c,rfl,gd,hc,q⟩:=h;refine'⟨_,?body,?read⟩
  case body=>
   refine' aq ?s1 ?r1
   case s1=>exact(kH (i:=2) BL.nd rfl (by walk_at "o") (qL rfl B0 (df (dv 0)) aO bL VG (λ_ _ _ _=>(aL (i:=0) B0.nd rfl (by walk_at "o"))) (λ_ _ _ _=>(dJ (PW.pt (fH (aQ (cz hr) cA (df (ar aC aI (df (dv 0)) (df ah))) (df aY) (aM _)) (fG (aQ (Ax hr) wB (df (ar aC aI (df (dv 0)) (df ah))) (df (ar aC aI (df (dv 1)) (df ah))) rfl)))))) (λ_ _ _ _=>(dv 0))))
   case' r1=>refine' aA ?s3
   case' s3=>refine' aU ?e4
   case e4=>exact(PE.imp (aR G_x10 (hr.mono VG) rfl T.m_x10 T.F_x10.kp T.b_x10 .nil aG (aa (fe (d8 rfl B1 (df (dv 2)) aO bL VG (λ_ _ _ _=>(aL (i:=0) B1.nd rfl (by walk_at "o"))) (λ_ _ _ _=>(dJ (aQ (Jm hr.units0) Jn (df (PE.imp (aR G_x9 (hr.mono VG) rfl T.m_x9 T.F_x9.kp T.b_x9 .nil aG (aa (dv 0) ao)) aS)) (df (PE.imp (aR G_x9 (hr.mono VG) rfl T.m_x9 T.F_x9.kp T.b_x9 .nil aG (aa (dv 1) ao)) aS)) (aM _)))) (λ_ _ _ _=>(dv 0)))) ao)) aS)
  case read=>
  clear hr T G_x10 G_x9;have ln:=gd.ln;have pl:=gd.gp.ln;obtain⟨hm1,hm2⟩:=gd.gp.ms c hc;walk_at "rz";refine⟨by rw [Of];omega,cY (jA λp=>c.ms.contains p.nm) De.enc (λx hx R S h=>?_) ?_⟩
  ·cases x with
   | pap p=>
    simp only [De.enc,Pp.enc];walk_at "rz";refine⟨cH.mpr (gd.nm _ hx),K1 hm1,?_⟩;rw [K0];exact h
   | oth w d nm r=>
    simp only [De.enc];walk_at "rz";rw [bI (gd.np w d nm r hx),VI OF];rw [VI (show ¬jA _ (.oth w d nm r)=true from OF)] at h;exact h
  ·rw [tD];have fl:=Ph (λp:Pp=>c.ms.contains p.nm) (aD xs);refine⟨by rw [Of];omega,cY (λp=>aT p.key c.key) Pp.enc (λx hx R S h=>?_) ?_⟩
   ·walk_at "rz";exact⟨.pap x,rfl,.pap c,rfl,x.key,rfl,c.key,rfl,h⟩
   ·rw [KZ];refine⟨_,.inl rfl,jy.of ((gd.gp.filter _).filter _),?_⟩;rw [BX,BW (xP gd.gp.nd),BW gd.gp.nd,List.filter_filter];have e:(bB (aD xs)).filter (λa=>aT a.key c.key && c.ms.contains a.nm)=fz (aD xs) c:=by
     unfold fz vp;congr 1;funext a;rw [Vk]
    rw [e];exact q
theorem xX{ps:List Pp}{c:Pp}(g:p9 ps):(fz ps c).length<=41:=by
 unfold fz;have h1:=Ph (vp c) (bB ps);have h2:=iz (ps:=ps);have h3:=g.ln;omega
def F_x14:List VL->(VL->Prop)->Prop:=λds Q=>∃(xs:List De)(c:Pp),ds=[.tuple (xs.map De.enc),.str c.nm]/\jy xs/\c∈aD xs/\Q (.tuple (((fz (aD xs) c).map (·.nm)).map .str))
theorem K5(T:Txt K mg t):aF P w K mg base CX0 6 t.a_x14 t.d_x14 ["deeds","paper"] (ba K F_x14):=by
 have G_x13:=B4 (P:=P) (w:=w) (base:=base) T;have G_x11:=xV (P:=P) (w:=w) (base:=base) T;refine T.F_x14.okD Ks (λds Q h=>?_) (λcdv A outer s H O ds Q E hr h=>?_)
 ·obtain⟨ps,c,rfl,_⟩:=h;rfl
 ·obtain⟨xs,c,rfl,gd,hc,q⟩:=h;refine'⟨_,?body,?read⟩
  case body=>
   refine' aA ?s1
   case' s1=>refine' aU ?e2
   case e2=>exact(PE.imp (dA fc rfl T.n_tuple fg (bu (df (fe (d8 rfl B2 (df (PE.imp (aR G_x13 (hr.mono VG) rfl T.m_x13 T.F_x13.kp T.b_x13 .nil aG (aa (dv 0) (aa (PE.imp (aR G_x11 (hr.mono VG) rfl T.m_x11 T.F_x11.kp T.b_x11 .nil aG (aa (dv 0) (aa (dv 1) ao))) aS) ao))) aS)) aO bL VG (λ_ _ _ _=>(aL (i:=0) B2.nd rfl (by walk_at "o"))) (λ_ _ _ _=>cS) (λ_ _ _ _=>(ar aC aI (df (dv 0)) (df ah)))))) bC)) (bU fj))
  case read=>
  clear hr T G_x13 G_x11;walk_at "rz";refine⟨xs,c,rfl,gd,hc,xs,c,rfl,gd,hc,⟨_,rfl,by rw [Of];have:=xX (c:=c) gd.gp;omega,cY (λ_=>true) (λp:Pp=>.str p.nm) (λx hx R S h=>?_) ?_⟩⟩
  ·simp only [Pp.enc];walk_at "rz";rw [VJ rfl] at h;exact h
  ·rw [gm];rw [Ov] at q;exact q
end
end K78
open PySem L2
local macro_rules | `(tactic| walk_at "rzi") =>rzT (rzS++" Sl.i.injEq exists_and_left")
namespace K78
open Day
theorem B5:bb (ag i9) ["self","deeds","name","coming"] ["deed","name"] 1 [2] {kind:=Ou,names:=[ (Og ".0",PySem.NameKind.local),(Og "deed",PySem.NameKind.local),(Og "name",OE)],isGenerator:=false,isCoroutine:=false,more:=[]:O3}:=⟨rfl,cp,cp,cp,rfl,cp,cp,cp,rfl⟩
theorem xY:bb (ag ji) ["paper","happening"] ["day","other","happening"] 2 [1] {kind:=Ou,names:=[ (Og ".0",PySem.NameKind.local),(Og "day",PySem.NameKind.local),(Og "other",PySem.NameKind.local),(Og "happening",OE)],isGenerator:=false,isCoroutine:=false,more:=[]:O3}:=⟨rfl,cp,cp,cp,rfl,cp,cp,cp,rfl⟩
section
variable {P:VY} {w:VZ} {K:Oe} {mg:Str->Option VM} {base:V0} {t:cm}
inductive bS where
 | com
 | fst (wd:Str)
 | lst (wd:Str)
def bS.enc:bS->VL
 | .com=>.tuple [.str (Od "coming")]
 | .fst wd=>.tuple [.str (Od "first"),.str wd]
 | .lst wd=>.tuple [.str (Od "last"),.str wd]
def bS.Ok:bS->Prop
 | .com=>True
 | .fst wd=>Om wd=true
 | .lst wd=>Om wd=true
inductive Pt where
 | two (w kd:Str)
 | five (w kd:Str) (s:bS) (k:Int) (u:Str)
def Pt.enc:Pt->VL
 | .two w kd=>.tuple [.str w,.str kd]
 | .five w kd s k u=>.tuple [.str w,.str kd,s.enc,.int k,.str u]
def KG(w:Str):Prop:=w=Od "keep"\/w=Od "gone"
def Pt.Ok:Pt->Prop
 | .two w kd=>¬KG w/\Om w=true/\Om kd=true
 | .five w kd s k u=>KG w/\Om kd=true/\s.Ok/\0<=k/\k < 1000/\vk u
def De.isR:De->Bool
 | .oth w _ _ _=>w==Od "rule"
 | _=>false
def De.isH:De->Bool
 | .oth w _ _ _=>w==Od "happens"
 | _=>false
def De.isE:De->Bool
 | .oth w _ _ _=>w==Od "rule" || w==Od "end"
 | _=>false
structure gS (xs:List De):Prop where
 gx:jy xs
 hp:∀d nm r,De.oth (Od "happens") d nm r∈xs->∃wd,r=[.str wd]/\Om wd=true
 ru:∀d nm r,De.oth (Od "rule") d nm r∈xs->∃pt:Pt,r=[pt.enc]/\pt.Ok
 nd:xs.Nodup
 d0:∀x∈xs,0<=x.d/\x.d < 100000
 re:∀x∈xs,∀y∈xs,x.isE=true->y.isE=true->x.d=y.d->x.nm=y.nm->x=y
def iA(nm:Str):De->Bool
 | .oth w _ n _=>w==Od "happens" && n==nm
 | _=>false
def rQ:De->Int×Str
 | .oth _ d _ [.str wd]=>(d,wd)
 | x=>(x.d,Od "")
def cZ(xs:List De)(nm:Str):List (Int×Str):=(xs.filter (iA nm)).map rQ
theorem K6{xs:List De}(g:gS xs)(nm:Str):(cZ xs nm).Nodup:=by
 unfold cZ;rw [SD,Px];refine List.Pairwise.imp_of_mem (λ{a b} ha hb h e=>?_) (g.nd.sublist Sd);obtain⟨a1,a2⟩:=Pa.mp ha;obtain⟨b1,b2⟩:=Pa.mp hb;cases a with
 | pap p=>cases a2
 | oth w d n r=>
  cases b with
  | pap p=>cases b2
  | oth w' d' n' r'=>
   simp only [iA,Pw,beq_iff_eq] at a2 b2;obtain⟨rfl,rfl⟩:=a2;obtain⟨rfl,rfl⟩:=b2;obtain⟨wd,rfl,_⟩:=g.hp _ _ _ a1;obtain⟨wd',rfl,_⟩:=g.hp _ _ _ b1;simp only [rQ,SK] at e;exact h (by rw [e.1,e.2])
structure Rp where
 c:Pp
 ts:List Str
 hs:List (Int×Str)
def Rp.enc(C:VO)(r:Rp):VL:=Bi C [(Od "name",.str r.c.nm),(Od "coming",.int r.c.d),(Od "kind",.str r.c.kd),(Od "makers",.tuple (r.ts.map .str)),(Od "happenings",.list (r.hs.map cw))]
open Classical in
noncomputable def fP(l:List (Int×Str)):List (Int×Str):=if h:∃s:List (Int×Str),s.Perm l/\s.Pairwise (λa b=>aT a b=true) then h.choose else []
theorem xZ{s l:List (Int×Str)}(h1:s.Perm l)(h2:s.Pairwise λa b=>aT a b=true):s=fP l:=by
 unfold fP;have h:∃s:List (Int×Str),s.Perm l/\s.Pairwise (λa b=>aT a b=true):=⟨s,h1,h2⟩;rw [dif_pos h];exact p8 (λa b z=>vo z) (h1.trans h.choose_spec.1.symm) h2 h.choose_spec.2
noncomputable def eV(xs:List De)(c:Pp):Rp:=⟨c,(fz (aD xs) c).map (·.nm),fP (cZ xs c.nm)⟩
theorem jB{f g:Str}{d x:VL}{r:List (Str×VL)}(h:g≠f):cW f d ((g,x)::r)=(g,x)::cW f d r:=by rw [cW,VI h]
theorem K7{a b:VL}:cW (Od "coming") b (cW (Od "name") a [])=[(Od "name",a),(Od "coming",b)]:=by
 rw [show cW (Od "name") a []=[(Od "name",a)] from rfl,jB cp];rfl
theorem K8{a b c:VL}:cW (Od "kind") c [(Od "name",a),(Od "coming",b)]=[(Od "name",a),(Od "coming",b),(Od "kind",c)]:=by
 rw [jB cp,jB cp];rfl
theorem K9{a b c d:VL}:cW (Od "makers") d [(Od "name",a),(Od "coming",b),(Od "kind",c)]=[(Od "name",a),(Od "coming",b),(Od "kind",c),(Od "makers",d)]:=by
 rw [jB cp,jB cp,jB cp];rfl
theorem La{a b c d e:VL}:cW (Od "happenings") e [(Od "name",a),(Od "coming",b),(Od "kind",c),(Od "makers",d)]=[(Od "name",a),(Od "coming",b),(Od "kind",c),(Od "makers",d),(Od "happenings",e)]:=by
 rw [jB cp,jB cp,jB cp,jB cp];rfl
def Lb(C:VO):List VL->(VL->Prop)->Prop:=λds Q=>∃(xs:List De)(c:Pp),ds=[.tuple (xs.map De.enc),.str c.nm]/\gS xs/\c∈aD xs/\((∀z,z∈fP (cZ xs c.nm)↔z∈cZ xs c.nm)->(fP (cZ xs c.nm)).Pairwise (λa b=>aT a b=true)->(fP (cZ xs c.nm)).length<=41->Q ((eV xs c).enc C))
theorem B6(T:Txt K mg t):aF P w K mg base CX0 7 t.a_x8 t.d_x8 ["self","deeds","name"] (uZ K t.u_Paper (Lb t.u_Paper)):=by
 have G_x11:=xV (P:=P) (w:=w) (base:=base) T;have G_x14:=K5 (P:=P) (w:=w) (base:=base) T;refine T.F_x8.okI BJ (λds Q h=>?_) (λcdv A outer s H H1 O ds Q E l hr h=>?_)
 ·obtain⟨xs,c,rfl,_⟩:=h;rfl
 ·obtain⟨xs,c,rfl,gd,hc,q⟩:=h;refine'⟨_,?body,?read⟩
  case body=>
   refine' aq ?s1 ?r1
   case s1=>exact(bw (i:=3) BJ.nd rfl (by walk_at "o") (PE.imp (aR G_x11 (hr.mono VG) rfl T.m_x11 T.F_x11.kp T.b_x11 .nil aG (aa (dv 1) (aa (dv 2) ao))) aS))
   case' r1=>refine' aq ?s3 ?r3
   case s3=>exact(fx (C:=t.u_Paper) (i:=0) T.cl_Paper T.na_Paper_name (pv 0) (ar aC aI (df (dv 3)) (df ah)))
   case' r3=>refine' aq ?s5 ?r5
   case s5=>exact(fx (C:=t.u_Paper) (i:=0) T.cl_Paper T.na_Paper_coming (pv 0) (ar aC aI (df (dv 3)) (df ah)))
   case' r5=>refine' aq ?s7 ?r7
   case s7=>exact(fx (C:=t.u_Paper) (i:=0) T.cl_Paper T.na_Paper_kind (pv 0) (ar aC aI (df (dv 3)) (df ah)))
   case' r7=>refine' aq ?s9 ?r9
   case s9=>exact(fx (C:=t.u_Paper) (i:=0) T.cl_Paper T.na_Paper_makers (pv 0) (PE.imp (aR G_x14 (hr.mono VG) rfl T.m_x14 T.F_x14.kp T.b_x14 .nil aG (aa (dv 1) (aa (dv 2) ao))) aS))
   case' r9=>refine' aA ?s11
   case s11=>exact(fx (C:=t.u_Paper) (i:=0) T.cl_Paper T.na_Paper_happenings (pv 0) (fe (Jk rfl T.n_sorted QD (bu (df (fe (kc rfl B5 (df (dv 1)) aO bL VG (λ_ _ _ _=>(aL (i:=0) B5.nd rfl (by walk_at "o"))) (λ_ _ _ _=>(dJ (PW.pt (fH (aQ (cz hr) cA (df (ar aC aI (df (dv 0)) (df ah))) (df aY) (aM _)) (fG (aQ (dB hr.units) dD (df (ar aC aI (df (dv 0)) (df ah))) (df (dv 1)) (aM _))))))) (λ_ _ _ _=>(bD (aa (ar aC aI (df (dv 0)) (df ah)) (aa (ar aC aI (df (dv 0)) (df ah)) ao))))))) bC))))
  case read=>
  clear hr T G_x11 G_x14;simp only [u5,d9,Ol,PD,PN,PM,Ta,Oz,Pn,Qh,Qi,OX];walk_at "rzi";refine⟨xs,c,rfl,gd.gx,hc,?_⟩;simp only [Pp.enc];walk_at "rzi";simp only [K7,K8,K9,La];have ln:=gd.gx.ln;have lt:∀n:Nat,n < 10->n < 1000:=λn h=>by omega
  refine⟨lt 1 VG,lt 2 VG,xs,c,rfl,gd.gx,hc,⟨lt 3 VG,by rw [Of];omega,jz (iA c.nm) (λx=>cw (rQ x)) (λx hx R S h1 h0=>?_) ?_⟩⟩
  ·cases x with
   | pap p=>
    simp only [De.enc,Pp.enc];walk_at "rz";exact h0 rfl
   | oth w d nm r=>
    simp only [De.enc];walk_at "rz";by_cases e:w=Od "happens"
    ·subst e;obtain⟨wd,rfl,_⟩:=gd.hp _ _ _ hx;rw [VJ (beq_self_eq_true _)];refine⟨cH.mpr (gd.gx.nm _ hx),cH.mpr (gd.gx.gp.nm c hc),?_⟩;split
     ·rename_i h2;exact⟨_,fo,h1 (by simp only [iA,beq_self_eq_true,P9];exact h2)⟩
     ·rename_i h2;exact h0 (by simp only [iA,beq_self_eq_true,P9];simpa using h2)
    ·rw [bI e,VI OF];exact h0 (by simp only [iA,bI e,R1])
  ·have hl:(cZ xs c.nm).length<=41:=by
    unfold cZ;rw [Of];have:=Ph (iA c.nm) xs;omega
   refine⟨cZ xs c.nm,by unfold cZ;rw [Ov];rfl,VH,K6 gd c.nm,λhs h1 h2=>⟨lt 4 VG,?_⟩⟩;have e:=xZ h1 h2;have q:=q (λz=>by rw [<-e];exact h1.mem_iff) (by rw [<-e];exact h2) (by rw [<-e,h1.length_eq];exact hl);rw [e];exact q
def tE(hs:List (Int×Str)):Prop:=hs.length<=41/\∀z∈hs,Om z.2=true
def dh(hs:List (Int×Str))(wd:Str):List Int:=(hs.filter λz=>z.2==wd).map (·.1)
def F_x21(C:VO):List VL->(VL->Prop)->Prop:=λds Q=>∃(r:Rp)(wd:Str),ds=[r.enc C,.str wd]/\tE r.hs/\Om wd=true/\Q (.list ((dh r.hs wd).map .int))
theorem Lc{a b c d e:VL}:aZ [Od "name",Od "coming",Od "kind",Od "makers",Od "happenings"] [a,b,c,d,e] (Od "happenings")=some e:=by
 simp only [aZ];rw [VI cp,VI cp,VI cp,VI cp,VJ trivial]
theorem vq{a b c d e:VL}:aZ [Od "name",Od "coming",Od "kind",Od "makers",Od "happenings"] [a,b,c,d,e] (Od "coming")=some b:=by
 simp only [aZ];rw [VI cp,VJ trivial]
theorem vt{a b c d e:VL}:aZ [Od "name",Od "coming",Od "kind",Od "makers",Od "happenings"] [a,b,c,d,e] (Od "kind")=some c:=by
 simp only [aZ];rw [VI cp,VI cp,VJ trivial]
theorem B7(T:Txt K mg t):aF P w K mg base CX0 1 t.a_x21 t.d_x21 ["paper","happening"] (ba K (F_x21 t.u_Paper)):=by
 refine T.F_x21.okD Kw (λds Q h=>?_) (λcdv A outer s H O ds Q E hr h=>?_)
 ·obtain⟨r,wd,rfl,_⟩:=h;rfl
 ·obtain⟨r,wd,rfl,⟨hl,hok⟩,wok,q⟩:=h;refine'⟨_,?body,?read⟩
  case body=>
   refine' aA ?s1
   case' s1=>refine' aU ?e2
   case' e2=>refine' fe ?f3
   case f3=>exact(d8 rfl xY (df (bZ (C:=t.u_Paper) T.cl_Paper T.na_Paper_happenings (dv 0))) (ic (cf aO (cf aO ib))) uY VG (λ_ _ _ _=>(g6 (n:=2) rfl (cc (aL (i:=0) xY.nd rfl (by walk_at "o")) (cc (aL (i:=1) xY.nd rfl (by walk_at "o")) gZ)))) (λ_ _ _ _=>(dJ (aQ (dB hr.units) dD (df (dv 1)) (df (dv 2)) (aM _)))) (λ_ _ _ _=>(dv 0)))
  case read=>
  clear hr T;walk_at "rz";refine⟨[Od "name",Od "coming",Od "kind",Od "makers",Od "happenings"],_,rfl,_,Lc,_,rfl,by rw [Of];omega,cY (λz:Int×Str=>z.2==wd) (λz=>.int z.1) (λx hx R S h=>?_) ?_⟩
  ·simp only [cw];walk_at "rz";exact⟨cH.mpr (hok x hx),cH.mpr wok,h⟩
  ·unfold dh at q;rw [Ov] at q;exact q
end
end K78
open PySem L2
namespace K78
theorem B8:bb (ag je) ["deeds","words","day","found","deed","known"] ["name","found"] 1 [3] {kind:=Ou,names:=[ (Og ".0",PySem.NameKind.local),(Og "name",PySem.NameKind.local),(Og "found",OE)],isGenerator:=false,isCoroutine:=false,more:=[]:O3}:=⟨rfl,cp,cp,cp,rfl,cp,cp,cp,rfl⟩
section
variable {P:VY} {w:VZ} {K:Oe} {mg:Str->Option VM} {base:V0} {t:cm}
def F_x16:List VL->(VL->Prop)->Prop:=λds Q=>∃(xs:List Rw)(ws:List Str)(n:Int),ds=[.tuple (xs.map Rw.enc),.tuple (ws.map .str),.int n]/\(∀x∈xs,Om x.w=true)/\Qe (ws.map .str)=true/\xs.length < 64/\∀res,eU ws n xs res->Q (.list (res.map Rw.enc))
theorem Ld{ws:List Str}{w:Str}:((ws.map Oi).any λd=>ON d (.str w))=decide (w∈ws):=by
 induction ws with
 | nil=>simp
 | cons a ws ih=>
  rw [Ol,PQ,ih,cL];by_cases h:a=w
  ·simp [h]
  ·have h':(a==w)=false:=by simpa using h
   rw [h'];simp [Ne.symm h]
theorem B9(T:Txt K mg t):aF P w K mg base CX0 1 t.a_x16 t.d_x16 ["deeds","words","day"] (ba K F_x16):=by
 refine T.F_x16.okD vh (λds Q h=>?_) (λcdv A outer s H O ds Q E hr h=>?_)
 ·obtain⟨xs,ws,n,rfl,_⟩:=h;rfl
 ·obtain⟨xs,ws,n,rfl,hw,hws,h64,q⟩:=h;refine'⟨_,?body,?read⟩
  case body=>
   refine' aq ?s1 ?r1
   case s1=>exact(wH (i:=3) vh.nd rfl (by walk_at "o") wG)
   case' r1=>refine' aq ?s3 ?r3
   case s3=>
    refine' qB Pz rfl (dv 0) ?a4 aO ?b4
    case a4=>exact(aL (i:=4) vh.nd rfl (by walk_at "o"))
    case' b4=>refine' aA ?s5
    case' s5=>refine' bF ?c6 ?a6 bE
    case c6=>exact(PW.pt (fH (aQ (Ax hr) wB (df (ar aC aI (df (dv 4)) (df ah))) (df (dv 1)) rfl) (fG (aQ qt dO (df (ar aC aI (df (dv 4)) (df ah))) (df (dv 2)) (aM _)))))
    case' a6=>refine' aq ?s7 ?r7
    case s7=>exact(bw (i:=5) vh.nd rfl (by walk_at "o") (IB (i:=3) hr.units (pv 3) (ar aC aI (df (dv 4)) (df ah)) ⟨rfl,rfl,rfl,rfl⟩))
    case' r7=>refine' aA ?s9
    case' s9=>refine' bF ?c10 ?a10 bE
    case c10=>exact(PW.pt (sP (aQ sI tf (df (dv 5)) (df fE) (aM _)) (sO (aQ sG dO (df (ar aC aI (df (dv 5)) (df ah))) (df (ar aC aI (df (dv 4)) (df ah))) (aM _)))))
    case' a10=>refine' aA ?s11
    case s11=>exact(wI (i:=3) hr.units (pv 3) (ar aC aI (df (dv 4)) (df ah)) (dv 4))
   case' r3=>refine' aA ?s13
   case' s13=>refine' aU ?e14
   case' e14=>refine' fe ?f15
   case f15=>exact(d8 rfl B8 (df (fe (IE (i:=3) rfl rfl T.n_sorted QD (pv 3)))) aO bL VG (λ_ _ _ _=>(aL (i:=0) B8.nd rfl (by walk_at "o"))) (λ_ _ _ _=>cS) (λ_ _ _ _=>(IA (i:=1) hr.units (pv 1) (dv 0) (λ_ _=>rfl))))
  case read=>
  clear hr T;walk_at "rz";refine⟨λi δ=>∃L o4 o5,eT ws n (xs.take i) L/\δ=[some (Sl.v (.tuple (xs.map Rw.enc))),some (Sl.v (.tuple (ws.map .str))),some (Sl.v (.int n)),some (Sl.k (gK L)),o4,o5],⟨[],_,_,eT.nil _ _,rfl⟩,?_,?_⟩
  ·rintro i x δ hx ⟨L,o4,o5,hL,rfl⟩;rw [OD] at hx;cases hx':xs[i]? with
   | none=>rw [hx'] at hx;cases hx
   | some y=>
    rw [hx'] at hx;cases hx;have hy:y∈xs:=OY hx';have tk:xs.take (i+1)=xs.take i++[y]:=by rw [Pk,hx'];rfl
    simp only [Rw.enc];walk_at "rz";have hle:L.length < 64:=by have:=hL.le;rw [PF] at this;omega
    have hk:(gK L).length < 16777216:=by unfold gK;rw [Of];omega
    have en:OW (Oi y.w::OZ y.n::Oi y.nm::y.r)=y.enc:=rfl;refine⟨cH.mpr (hw y hy),hws,?_⟩;rw [Ld];by_cases hin:y.w∈ws
    ·rw [VJ (decide_eq_true hin)];by_cases hn:y.n<=n
     ·rw [VJ hn,wK,en];cases hl:dP L y.nm with
      | none=>
       rw [VJ (show dF ((TC Rw.enc none).getD RV)=true from rfl)];exact⟨hk,_,by rw [tk];exact hL.put ⟨hin,hn⟩ (λz e=>by rw [hl] at e;cases e),AR L y.nm y,_,rfl⟩
      | some z=>
       rw [VI (by simp [dF,Rw.enc])];refine⟨_,rfl,_,fk,_,rfl,?_⟩;split
       ·rename_i hlt;exact⟨hk,_,by rw [tk];exact hL.put ⟨hin,hn⟩ (λz' e=>by rw [hl] at e;cases e;exact hlt),AR L y.nm y,_,rfl⟩
       ·rename_i hlt;exact⟨L,by rw [tk];exact hL.keep hl hlt,rfl,_,rfl⟩
     ·rw [VI hn];exact⟨L,by rw [tk];exact hL.skip (λz=>hn z.2),rfl,_,rfl⟩
    ·rw [VI (by simpa using hin)];exact⟨L,by rw [tk];exact hL.skip (λz=>hin z.1),rfl,_,rfl⟩
  ·rintro δ ⟨L,o4,o5,hL,rfl⟩;walk_at "rz";rw [Of,O7 (Oj _)] at hL;have hle:L.length < 64:=by have:=hL.le;omega
   refine⟨L.map (·.1),by unfold gK;rw [Ov,Ov];rfl,by rw [Of];exact hle,by rw [Of,(kK _).length_eq,Of];omega,?_⟩;refine AK (λx=>match x with | .str nm=>((dP L nm).map Rw.enc).getD .none | _=>.none) (λx hx R hR=>?_) ?_
   ·obtain⟨nm,hnm,rfl⟩:=Oq.mp hx;obtain⟨z,hz⟩:=wL ((kK _).mem_iff.mp hnm);walk_at "rz";refine⟨z.enc,by rw [wK,hz];rfl,?_⟩;have hR:R (((dP L nm).map Rw.enc).getD .none):=hR;rw [hz] at hR;exact hR
   ·have e:∀l:List Str,(∀a∈l,a∈L.map (·.1))->(l.map Oi).map (λx=>match x with | .str nm=>((dP L nm).map Rw.enc).getD .none | _=>.none)=(l.filterMap (dP L)).map Rw.enc:=by
     intro l
     induction l with
     | nil=>intro _;rfl
     | cons a l ih=>
      intro hl;obtain⟨z,hz⟩:=wL (hl a (by simp));rw [Ol,Ol,Pu,hz,ih λb hb=>hl b (by simp [hb])];simp [hz]
    rw [e _ λa ha=>(kK _).mem_iff.mp ha];exact q _ hL.res
end
end K78
open PySem L2
namespace K78
theorem Ca:bb (ag jf) ["deeds","day"] ["deed"] 1 [] {kind:=Ou,names:=[(Og ".0",PySem.NameKind.local),(Og "deed",PySem.NameKind.local)],isGenerator:=false,isCoroutine:=false,more:=[]:O3}:=⟨rfl,cp,cp,cp,rfl,cp,cp,cp,rfl⟩
section
variable {P:VY} {w:VZ} {K:Oe} {mg:Str->Option VM} {base:V0} {t:cm}
def iB:List Str:=["rule","end"]
def mC(res:List Rw):List VL:=(res.filter λx=>x.w==Od "rule").map λx=>.tuple [.str x.nm,x.r.headD .none]
structure Cb (xs:List Rw):Prop where
 st:∀x∈xs,Om x.w=true
 ru:∀x∈xs,x.w=Od "rule"->∃p,x.r=[p]
 le:xs.length < 64
def Le:List VL->(VL->Prop)->Prop:=λds Q=>∃(xs:List Rw)(n:Int),ds=[.tuple (xs.map Rw.enc),.int n]/\Cb xs/\∀res,eU iB n xs res->Q (.tuple (mC res))
theorem Lf(T:Txt K mg t):aF P w K mg base CX0 2 t.a_x17 t.d_x17 ["deeds","day"] (ba K Le):=by
 have G_x16:=B9 (P:=P) (w:=w) (base:=base) T;refine T.F_x17.okD Kt (λds Q h=>?_) (λcdv A outer s H O ds Q E hr h=>?_)
 ·obtain⟨xs,n,rfl,_⟩:=h;rfl
 ·obtain⟨xs,n,rfl,ok,q⟩:=h;refine'⟨_,?body,?read⟩
  case body=>
   refine' aA ?s1
   case' s1=>generalize hG2:VF _ _ _ _=eg2
   refine' aU ?e2
   case' e2=>subst hG2
   exact(PE.imp (dA fc rfl T.n_tuple fg (bu (df (fe (d8 rfl Ca (df (PE.imp (aR G_x16 (hr.mono VG) rfl T.m_x16 T.F_x16.kp T.b_x16 .nil aG (aa (dv 0) (aa (bD (aa aY (aa aY ao))) (aa (dv 1) ao)))) aS)) aO bL VG (λ_ _ _ _=>(aL (i:=0) Ca.nd rfl (by walk_at "o"))) (λ_ _ _ _=>(dJ (aQ (cz hr) cA (df (ar aC aI (df (dv 0)) (df ah))) (df aY) (aM _)))) (λ_ _ _ _=>(bD (aa (ar aC aI (df (dv 0)) (df ah)) (aa (ar aC aI (df (dv 0)) (df ah)) ao))))))) bC)) (bU fj))
  case read=>
  clear hr T G_x16;walk_at "rz";refine⟨xs,iB,n,rfl,ok.st,cp,ok.le,λres hres=>⟨_,rfl,?_,?_⟩⟩
  ·rw [Of];have:=hres.le;have:=ok.le;omega
  refine Iu (λx=>match x with | .tuple (.str w:: .int n:: .str nm::r)=>if (w==Od "rule")=true then some (.tuple [.str nm,r.headD .none]) else none | _=>none) (λx hx R S h=>?_) ?_
  ·obtain⟨y,hy,rfl⟩:=Oq.mp hx;simp only [Rw.enc] at h⊢;walk_at "rz";by_cases hr:(y.w==Od "rule")=true
   ·rw [VJ hr] at h⊢;obtain⟨p,hp⟩:=ok.ru y (hres.it y hy).1 (eq_of_beq hr);rw [hp] at h⊢;exact⟨p,fo,h⟩
   ·rw [VI hr] at h⊢;exact h
  ·have e:∀l:List Rw,(l.map Rw.enc).filterMap (λx=>match x with | .tuple (.str w:: .int n:: .str nm::r)=>if (w==Od "rule")=true then some (.tuple [.str nm,r.headD .none]) else none | _=>none)=mC l:=by
    intro l
    induction l with
    | nil=>rfl
    | cons a l ih=>
     rw [Ol,Pu,ih];unfold mC;simp only [Rw.enc,PH];by_cases hr:(a.w==Od "rule")=true
     ·rw [VJ hr,VJ hr];rfl
     ·rw [VI hr,VI hr]
   rw [e];exact q res hres
theorem Lg{s s':bS}(h:s.enc=s'.enc):s=s':=by
 have n1:Od "first"≠Od "last":=cp
 cases s <;> cases s' <;> simp only [bS.enc,P0,Pb,P4,and_true,reduceCtorEq,and_false] at h
 ·rfl
 ·rw [h.2]
 ·exact absurd h.1 n1
 ·exact absurd h.1.symm n1
 ·rw [h.2]
theorem Cc{a b:Pt}(h:a.enc=b.enc):a=b:=by
 cases a <;> cases b <;> simp only [Pt.enc,P0,Pb,P4,PV,and_true,reduceCtorEq,and_false] at h
 ·rw [h.1,h.2]
 ·obtain⟨h1,h2,h3,h4,h5⟩:=h;rw [h1,h2,Lg h3,h4,h5]
theorem Cd{α β:Type}{f:α->β}:∀{l:List α},(l.map f).Nodup->∀{a b:α},a∈l->b∈l->f a=f b->a=b
 | x::l,nd,a,b,ha,hb,e=>by
  rw [Ol,Qj] at nd;rcases OA.mp ha with ea | ha1 <;> rcases OA.mp hb with eb | hb1
  ·rw [ea,eb]
  ·subst ea;exact absurd (Oq.mpr ⟨b,hb1,e.symm⟩) nd.1
  ·subst eb;exact absurd (Oq.mpr ⟨a,ha1,e⟩) nd.1
  ·exact Cd nd.2 ha1 hb1 e
def De.rw:De->Rw
 | .pap p=>⟨Od "paper",p.d,p.nm,[.str p.kd,.tuple (p.ms.map .str)]⟩
 | .oth w d nm r=>⟨w,d,nm,r⟩
theorem De.rw_enc(x:De):x.rw.enc=x.enc:=by cases x <;> rfl
theorem Ce(xs:List De):(xs.map De.rw).map Rw.enc=xs.map De.enc:=by
 rw [Ov];congr 1;funext x;exact x.rw_enc
def tF(xs:List De)(n:Int)(z:Str×Pt):Prop:=∃d,d<=n/\De.oth (Od "rule") d z.1 [z.2.enc]∈xs/\∀x∈xs,x.isE=true->x.nm=z.1->x.d<=n->x.d<=d
def rR(a b:Str×Pt):Prop:=cU a.1 b.1=true/\a.1≠b.1
def iC(xs:List De)(n:Int)(L:List (Str×Pt)):Prop:=L.Pairwise rR/\∀z,z∈L↔tF xs n z
theorem Lh(a b:Str×Pt)(h:rR a b):¬rR b a:=λz=>h.2 (wC h.1 z.1)
theorem Cf{L:List (Str×Pt)}(h:L.Pairwise rR):L.Nodup:=h.imp λ{a b} z e=>z.2 (by rw [e])
theorem Li{L M:List (Str×Pt)}(h1:L.Pairwise rR)(h2:M.Pairwise rR)(h:∀z,z∈L↔z∈M):L=M:=
 p8 Lh ((R9 (Cf h1) (Cf h2)).mpr h) h1 h2
open Classical in
noncomputable def gT(xs:List De)(n:Int):List (Str×Pt):=if h:∃L,iC xs n L then h.choose else []
theorem ya{xs:List De}{n:Int}{L:List (Str×Pt)}(h:iC xs n L):L=gT xs n:=by
 unfold gT;have e:∃L,iC xs n L:=⟨L,h⟩;rw [dif_pos e];exact Li h.1 e.choose_spec.1 λz=>(h.2 z).trans (e.choose_spec.2 z).symm
def di(z:Str×Pt):VL:= .tuple [.str z.1,z.2.enc]
theorem Lj{x:De}(np:x.rw.w∈iB)(hp:∀p,x≠ .pap p):x.isE=true:=by
 cases x with
 | pap p=>exact absurd rfl (hp p)
 | oth w d nm r=>
  have:w=Od "rule"\/w=Od "end":=by
   have h:w∈iB:=np;unfold iB at h;rcases OA.mp h with e | h
   ·exact .inl e
   ·rcases OA.mp h with e | h
    ·exact .inr e
    ·cases h
  rcases this with e | e
  ·simp [De.isE,e]
  ·simp [De.isE,e]
theorem Cg{x:De}(h:x.isE=true):x.rw.w∈iB/\x.rw.nm=x.nm/\x.rw.n=x.d:=by
 cases x with
 | pap p=>cases h
 | oth w d nm r=>
  refine⟨?_,rfl,rfl⟩;simp only [De.isE,So,beq_iff_eq] at h;show w∈iB;unfold iB;rcases h with e | e
  ·rw [e];exact O8
  ·rw [e];exact OQ _ O8
theorem Ll:Od "paper" ∉ iB:=cp
theorem Lm{xs:List De}{n:Int}{res:List Rw}(g:gS xs)(h:eU iB n (xs.map De.rw) res):∃L,iC xs n L/\mC res=L.map di:=by
 have from1:∀x∈res,x.w=Od "rule"->∃pt:Pt,pt.Ok/\x.r=[pt.enc]/\De.oth (Od "rule") x.n x.nm [pt.enc]∈xs:=λx hx hw=>by
  obtain⟨h1,_,_⟩:=h.it x hx;obtain⟨y,hy,rfl⟩:=Oq.mp h1;cases y with
  | pap p=>exact absurd hw (by show Od "paper"≠_;decide+kernel)
  | oth w d nm r=>
   have hw:w=Od "rule":=hw;subst hw;obtain⟨pt,e,ok⟩:=g.ru _ _ _ hy;subst e;exact⟨pt,ok,rfl,hy⟩
 have pick:∀l:List Rw,(∀x∈l,x∈res)->∃L:List (Str×Pt),mC l=L.map di/\L.map (·.1)=(l.filter λx=>x.w==Od "rule").map (·.nm)/\∀z∈L,∃x∈l,x.w=Od "rule"/\x.nm=z.1/\x.r=[z.2.enc]:=by
  intro l
  induction l with
  | nil=>intro _;exact⟨[],rfl,rfl,by simp⟩
  | cons a l ih=>
   intro hl;obtain⟨L,e1,e2,e3⟩:=ih λx hx=>hl x (by simp [hx]);by_cases hr:(a.w==Od "rule")=true
   ·obtain⟨pt,_,er,_⟩:=from1 a (hl a (by simp)) (eq_of_beq hr);refine⟨(a.nm,pt)::L,?_,?_,?_⟩
    ·unfold mC at e1⊢;rw [PH,VJ hr,Ol,Ol,e1,er];rfl
    ·rw [PH,VJ hr,Ol,Ol,e2]
    ·intro z hz;rcases OA.mp hz with rfl | hz
     ·exact⟨a,by simp,eq_of_beq hr,rfl,er⟩
     ·obtain⟨x,hx,h'⟩:=e3 z hz;exact⟨x,by simp [hx],h'⟩
   ·refine⟨L,?_,?_,?_⟩
    ·unfold mC at e1⊢;rw [PH,VI hr,e1]
    ·rw [PH,VI hr,e2]
    ·intro z hz;obtain⟨x,hx,h'⟩:=e3 z hz;exact⟨x,by simp [hx],h'⟩
 obtain⟨L,e1,e2,e3⟩:=pick res λ_ h=>h;have key:∀x∈res,∀pt:Pt,x.r=[pt.enc]->x.w=Od "rule"->tF xs n (x.nm,pt):=λx hx pt er hw=>by
  obtain⟨pt',_,er',hm⟩:=from1 x hx hw;obtain⟨h1,⟨_,h2⟩,h3⟩:=h.it x hx;rw [er] at er';rw [<-(Tp er').1] at hm;refine⟨x.n,h2,hm,λy hy ye yn yd=>?_⟩;obtain⟨a,b,c⟩:=Cg ye;have:=h3 y.rw (Oq.mpr ⟨y,hy,rfl⟩) ⟨a,by rw [c];exact yd⟩ (by rw [b];exact yn);rw [c] at this;exact this
 refine⟨L,⟨?_,λz=>⟨λhz=>?_,λhz=>?_⟩⟩,e1⟩
 ·have up:(L.map (·.1)).Pairwise λa b=>cU a b=true:=by
   rw [e2];exact h.up.sublist (Sd.map _)
  have nd:(L.map (·.1)).Nodup:=by
   rw [e2];exact h.nd.sublist (Sd.map _)
  rw [Px] at up;rw [SD,Px] at nd;exact up.and nd
 ·obtain⟨x,hx,hw,hn,hr⟩:=e3 z hz;have:=key x hx z.2 hr hw;rw [hn] at this;exact this
 ·obtain⟨d,hd,hm,hal⟩:=hz;have hmr:(De.oth (Od "rule") d z.1 [z.2.enc]).rw∈xs.map De.rw:=Oq.mpr ⟨_,hm,rfl⟩;have hok:fJ iB n (De.oth (Od "rule") d z.1 [z.2.enc]).rw:=⟨O8,hd⟩;obtain⟨x,hx,xn⟩:=h.al _ hmr hok;have xn:x.nm=z.1:=xn;obtain⟨h1,⟨h2a,h2b⟩,h3⟩:=h.it x hx;obtain⟨y,hy,ey⟩:=Oq.mp h1;have hyE:y.isE=true:=Lj (by rw [ey];exact h2a) λp hp=>by
   rw [hp] at ey;rw [<-ey] at h2a;exact Ll h2a
  obtain⟨_,yb,yc⟩:=Cg hyE;have dd:d<=x.n:=h3 _ hmr hok xn.symm;have dd2:x.n<=d:=by
   have:=hal y hy hyE (by rw [<-yb,ey];exact xn) (by rw [<-yc,ey];exact h2b);rw [<-yc,ey] at this;exact this
  have ee:y=De.oth (Od "rule") d z.1 [z.2.enc]:=g.re y hy _ hm hyE (by simp [De.isE]) (by rw [<-yc,ey];exact U9 dd2 dd) (by rw [<-yb,ey];exact xn);subst ee;have hw:x.w=Od "rule":=by rw [<-ey];rfl
  have hr:x.r=[z.2.enc]:=by rw [<-ey];rfl
  have:z.1∈L.map (·.1):=by
   rw [e2];exact Oq.mpr ⟨x,Pa.mpr ⟨hx,by rw [hw];exact beq_self_eq_true _⟩,xn⟩
  obtain⟨v,hv,vn⟩:=Oq.mp this;obtain⟨x',hx',hw',hn',hr'⟩:=e3 v hv;have exx:x'=x:=Cd h.nd hx' hx (hn'.trans (vn.trans xn.symm));rw [exx,hr] at hr';have:v=z:=by
   obtain⟨v1,v2⟩:=v;obtain⟨z1,z2⟩:=z;have a1:v1=z1:=vn;have a2:z2.enc=v2.enc:=(Tp hr').1;rw [a1,Cc a2.symm]
  rw [<-this];exact hv
def Ln:List VL->(VL->Prop)->Prop:=λds Q=>∃(xs:List De)(n:Int),ds=[.tuple (xs.map De.enc),.int n]/\gS xs/\(iC xs n (gT xs n)->(gT xs n).length<=41->Q (.tuple ((gT xs n).map di)))
theorem Ci{xs:List De}(g:gS xs)(wok:∀w d nm r,De.oth w d nm r∈xs->Om w=true):Cb (xs.map De.rw):=by
 refine⟨λx hx=>?_,λx hx hw=>?_,?_⟩
 ·obtain⟨y,hy,rfl⟩:=Oq.mp hx;cases y with
  | pap p=>show Om (Od "paper")=true;decide+kernel
  | oth w d nm r=>exact wok _ _ _ _ hy
 ·obtain⟨y,hy,rfl⟩:=Oq.mp hx;cases y with
  | pap p=>exact absurd hw (by show Od "paper"≠_;decide+kernel)
  | oth w d nm r=>
   have hw:w=Od "rule":=hw;subst hw;obtain⟨pt,e,_⟩:=g.ru _ _ _ hy;exact⟨_,e⟩
 ·rw [Of];have:=g.gx.ln;omega
theorem Lo(T:Txt K mg t):aF P w K mg base CX0 2 t.a_x17 t.d_x17 ["deeds","day"] (ba K Ln):=
 (Lf T).imp λvs H Q E ⟨O,ds,Qd,tr,hs,⟨xs,n,e,g,q⟩,k⟩=>⟨O,ds,Qd,tr,hs,⟨xs.map De.rw,n,by rw [Ce];exact e,Ci g (λw d nm r h=>g.gx.w _ h),λres hres=>by
  obtain⟨L,h1,h2⟩:=Lm g hres;have e:=ya h1;rw [h2,e];refine q (by rw [<-e];exact h1) ?_;have hl:(mC res).length<=res.length:=by unfold mC;rw [Of];exact Ph _ _
  have:=hres.le;rw [Of] at this;rw [h2,Of,e] at hl;have:=g.gx.ln;omega⟩,k⟩
end
end K78
open PySem L2
namespace K78
open Day
theorem Cj:bb (ag jj) ["paper","since","day","days"] ["other","day"] 1 [2] {kind:=Ou,names:=[ (Og ".0",PySem.NameKind.local),(Og "other",PySem.NameKind.local),(Og "day",OE)],isGenerator:=false,isCoroutine:=false,more:=[]:O3}:=⟨rfl,cp,cp,cp,rfl,cp,cp,cp,rfl⟩
section
variable {P:VY} {w:VZ} {K:Oe} {mg:Str->Option VM} {base:V0} {t:cm}
open Classical in
noncomputable def qa(d k:Int)(u:Str):Int:=if h:∃r,rP d k u r then h.choose else 0
theorem yf{d k:Int}{u:Str}{r:Int}(h:rP d k u r):r=qa d k u:=by
 unfold qa;rw [dif_pos ⟨r,h⟩];exact KQ h (Exists.choose_spec (⟨r,h⟩:∃r,rP d k u r))
def bN:Option Int->VL
 | none=>.none
 | some i=>.int i
def gr(r:Rp):Prop:=tE r.hs/\Om r.c.kd=true/\r.ts.length<=41/\∀m∈r.ts,Om m=true
def iD(r:Rp)(wd:Str)(n:Int):List Int:=(dh r.hs wd).filter λz=>decide (z<=n)
def qc(r:Rp)(n:Int):bS->Option Int
 | .com=>some r.c.d
 | .fst wd=>(iD r wd n).head?
 | .lst wd=>(iD r wd n).getLast?
theorem Lp{l:List Int}{Q:VL->Prop}(q:Q (bN l.head?)):if (!(l.map λz=>OZ z).isEmpty)=false then Q .none else ∃d,atI (l.map λz=>OZ z) 0=some d/\Q d:=by
 cases l with
 | nil=>rw [VJ (by rfl)];exact q
 | cons a l=>rw [VI (by simp)];exact⟨.int a,cT,q⟩
theorem zJ{l:List VL}{a:VL}:atI (l++[a]) (-1)=some a:=by
 unfold atI iQ;rw [VI VH,VJ (by rw [OH,Qw];omega)];rw [show((-1:Int)+((l++[a]).length:Nat)).toNat=l.length by rw [OH,Qw];omega];simp
theorem Lq{l:List Int}{Q:VL->Prop}(q:Q (bN l.getLast?)):if (!(l.map λz=>OZ z).isEmpty)=false then Q .none else ∃d,atI (l.map λz=>OZ z) (-1)=some d/\Q d:=by
 rcases List.eq_nil_or_concat l with e | ⟨l',a,e⟩
 ·subst e;rw [VJ (by rfl)];exact q
 ·rw [List.concat_eq_append] at e;subst e;rw [VI (by simp)];refine⟨.int a,?_,?_⟩
  ·rw [OM];exact zJ
  ·rw [List.getLast?_concat] at q;exact q
def Lr(C:VO):List VL->(VL->Prop)->Prop:=λds Q=>∃(r:Rp)(s:bS)(n:Int),ds=[r.enc C,s.enc,.int n]/\s.Ok/\gr r/\Q (bN (qc r n s))
theorem Lu(T:Txt K mg t):aF P w K mg base CX0 2 t.a_x22 t.d_x22 ["paper","since","day"] (ba K (Lr t.u_Paper)):=by
 have G_x21:=B7 (P:=P) (w:=w) (base:=base) T;refine T.F_x22.okD BM (λds Q h=>?_) (λcdv A outer s H O ds Q E hr h=>?_)
 ·obtain⟨r,s,n,rfl,_⟩:=h;rfl
 ·obtain⟨r,si,n,rfl,hsi,hh,q⟩:=h;refine'⟨_,?body,?read⟩
  case body=>
   refine' aq ?s1 ?r1
   case s1=>
    refine' bF ?c2 ?a2 bE
    case c2=>exact(aQ (cz hr) cA (df (ar aC aI (df (dv 1)) (df ah))) (df aY) (aM _))
    case' a2=>refine' aA ?s3
    case s3=>exact(aU (bZ (C:=t.u_Paper) T.cl_Paper T.na_Paper_coming (dv 0)))
   case' r1=>refine' aq ?s5 ?r5
   case s5=>exact(kH (i:=3) BM.nd rfl (by walk_at "o") (Aw rfl Cj (df (PE.imp (aR G_x21 (hr.mono VG) rfl T.m_x21 T.F_x21.kp T.b_x21 .nil aG (aa (dv 0) (aa (ar aC aI (df (dv 1)) (df ah)) ao))) aS)) aO bL VG (λ_ _ _ _=>(aL (i:=0) Cj.nd rfl (by walk_at "o"))) (λ_ _ _ _=>(dJ (aQ qt dO (df (dv 0)) (df (dv 1)) (aM _)))) (λ_ _ _ _=>(dv 0))))
   case' r5=>refine' aq ?s7 ?r7
   case s7=>
    refine' bF ?c8 ?a8 bE
    case c8=>exact(wq (va (dv 3)))
    case a8=>refine' aA (aU fE)
   case' r7=>refine' aA ?s11
   case' s11=>refine' aU ?e12
   case e12=>exact(sQ (aQ (cz hr) cA (df (ar aC aI (df (dv 1)) (df ah))) (df aY) (aM _)) (ar bj bq (df (dv 3)) (df ah)) (ar bj bq (df (dv 3)) (df (Iw ah))))
  case read=>
  clear hr T G_x21;have dl:∀wd,(dh r.hs wd).length<=41:=λwd=>by
   unfold dh;rw [Of];exact O6 (Ph _ _) hh.1.1
  cases si with
  | com=>
   simp only [bS.enc];walk_at "rz";exact⟨[Od "name",Od "coming",Od "kind",Od "makers",Od "happenings"],_,rfl,_,vq,q⟩
  | fst wd=>
   simp only [bS.enc];walk_at "rz";rw [bI (show Od "first"≠Od "coming" by decide+kernel),VI OF];have dl:=dl wd;refine⟨r,wd,rfl,hh.1,hsi,_,rfl,by rw [Of];omega,cY (λz=>decide (z<=n)) (λz=>.int z) (λx hx R S h=>?_) ?_⟩
   ·walk_at "rz";simpa using h
   ·have q:Q (bN (iD r wd n).head?):=q;unfold iD at q;exact Lp q
  | lst wd=>
   simp only [bS.enc];walk_at "rz";rw [bI (show Od "last"≠Od "coming" by decide+kernel),VI OF];have dl:=dl wd;refine⟨r,wd,rfl,hh.1,hsi,_,rfl,by rw [Of];omega,cY (λz=>decide (z<=n)) (λz=>.int z) (λx hx R S h=>?_) ?_⟩
   ·walk_at "rz";simpa using h
   ·have q:Q (bN (iD r wd n).getLast?):=q;unfold iD at q;exact Lq q
noncomputable def eB(r:Rp)(n:Int):Pt->Option Int
 | .five _ _ s k u=>(qc r n s).map λb=>qa b k u
 | .two _ _=>none
def Lv(C:VO):List VL->(VL->Prop)->Prop:=λds Q=>∃(r:Rp)(w kd:Str)(s:bS)(k:Int)(u:Str)(n:Int),ds=[r.enc C,(Pt.five w kd s k u).enc,.int n]/\s.Ok/\vk u/\gr r/\Q (bN (eB r n (.five w kd s k u)))
theorem Ck(T:Txt K mg t):aF P w K mg base CX0 6 t.a_x23 t.d_x23 ["paper","parts","day"] (ba K (Lv t.u_Paper)):=by
 have G_x22:=Lu (P:=P) (w:=w) (base:=base) T;have G_x7:=BS (P:=P) (w:=w) (base:=base) T;refine T.F_x23.okD BN (λds Q h=>?_) (λcdv A outer s H O ds Q E hr h=>?_)
 ·obtain⟨r,w,kd,s,k,u,n,rfl,_⟩:=h;rfl
 ·obtain⟨r,wo,kd,si,k,u,n,rfl,hsi,hu,hh,q⟩:=h;refine'⟨_,?body,?read⟩
  case body=>
   refine' aq ?s1 ?r1
   case s1=>
    refine' bw (i:=3) BN.nd rfl (by walk_at "o") ?e2 (hs:=qJ)
    case e2=>exact(PE.imp (aR G_x22 (hr.mono VG) rfl T.m_x22 T.F_x22.kp T.b_x22 .nil aG (aa (dv 0) (aa (ar aC aI (df (dv 1)) (df ah)) (aa (dv 2) ao)))) aS)
   case' r1=>refine' aq ?s4 ?r4
   case s4=>
    refine' bF ?c5 ?a5 bE
    case c5=>exact(aQ sI tf (df (dv 3)) (df fE) (aM _))
    case a5=>refine' aA (aU fE)
   case' r4=>refine' aA ?s8
   case' s8=>refine' aU ?e9
   case e9=>exact(PE.imp (aR G_x7 (hr.mono VG) rfl T.m_x7 T.F_x7.kp T.b_x7 .nil aG (aa (dv 3) (aa (ar aC aI (df (dv 1)) (df ah)) (aa (ar aC aI (df (dv 1)) (df ah)) ao)))) aS)
  case read=>
  clear hr T G_x22 G_x7;simp only [Pt.enc];walk_at "rz";refine⟨r,si,n,rfl,hsi,hh,?_⟩;have q:Q (bN ((qc r n si).map λb=>qa b k u)):=q;cases hb:qc r n si with
  | none=>
   rw [hb] at q;simp only [bN,dF];walk_at "rz";exact q
  | some b=>
   rw [hb] at q;simp only [bN,dF];walk_at "rz";exact⟨b,k,u,rfl,hu,λx hx=>by rw [yf hx];exact q⟩
theorem Cm{xs:List De}{c:Pp}(g:gS xs)(hc:c∈aD xs)(h1:∀z,z∈fP (cZ xs c.nm)↔z∈cZ xs c.nm)(h3:(fP (cZ xs c.nm)).length<=41):gr (eV xs c):=by
 refine⟨⟨h3,λz hz=>?_⟩,g.gx.gp.kd c hc,?_,λm hm=>?_⟩
 ·have hz:=(h1 z).mp hz;unfold cZ at hz;obtain⟨x,hx,e⟩:=Oq.mp hz;obtain⟨hx1,hx2⟩:=Pa.mp hx;cases x with
  | pap p=>cases hx2
  | oth w d nm r=>
   simp only [iA,Pw,beq_iff_eq] at hx2;obtain⟨rfl,rfl⟩:=hx2;obtain⟨wd,rfl,hw⟩:=g.hp _ _ _ hx1;rw [<-e];exact hw
 ·show((fz (aD xs) c).map (·.nm)).length<=41;rw [Of];exact xX g.gx.gp
 ·obtain⟨p,hp,rfl⟩:=Oq.mp hm;exact g.gx.gp.nm p (gQ.mp (Pa.mp hp).1)
end
end K78
open PySem L2
namespace K78
open Day
theorem Cn:bb (ag jk) ["paper","rules","day"] ["pair","paper"] 1 [0] {kind:=Ou,names:=[ (Og ".0",PySem.NameKind.local),(Og "pair",PySem.NameKind.local),(Og "paper",OE)],isGenerator:=false,isCoroutine:=false,more:=[]:O3}:=⟨rfl,cp,cp,cp,rfl,cp,cp,cp,rfl⟩
theorem Co:bb (ag jm) ["paper","rules","day","gone","left","calls","rule","parts","due"] ["maker","gone","day"] 1 [3,2] {kind:=Ou,names:=[ (Og ".0",PySem.NameKind.local),(Og "maker",PySem.NameKind.local),(Og "has_gone",O9),(Og "day",OE),(Og "gone",OE)],isGenerator:=false,isCoroutine:=false,more:=[]:O3}:=⟨rfl,cp,cp,cp,rfl,cp,cp,cp,rfl⟩
theorem Cp:bb (ag jn) ["paper","rules","day","gone","away","calls","rule","parts","due"] ["maker","gone","day"] 1 [3,2] {kind:=Ou,names:=[ (Og ".0",PySem.NameKind.local),(Og "maker",PySem.NameKind.local),(Og "has_gone",O9),(Og "day",OE),(Og "gone",OE)],isGenerator:=false,isCoroutine:=false,more:=[]:O3}:=⟨rfl,cp,cp,cp,rfl,cp,cp,cp,rfl⟩
theorem yg:bb (ag jo) ["kind","rules"] ["rule","parts","kind"] 2 [0] {kind:=Ou,names:=[ (Og ".0",PySem.NameKind.local),(Og "rule",PySem.NameKind.local),(Og "parts",PySem.NameKind.local),(Og "kind",OE)],isGenerator:=false,isCoroutine:=false,more:=[]:O3}:=⟨rfl,cp,cp,cp,rfl,cp,cp,cp,rfl⟩
section
variable {P:VY} {w:VZ} {K:Oe} {mg:Str->Option VM} {base:V0} {t:cm}
structure Gn where
 ks:List Str
 gs:List Int
def Gn.enc(g:Gn):VL:=fM g.ks (g.gs.map .int)
def jC:List Str->List Int->Str->Option Int
 | k::ks,d::ds,z=>if k=z then some d else jC ks ds z
 | _,_,_=>none
theorem Cq:∀(ks:List Str)(gs:List Int)(z:Str),aZ ks (gs.map .int) z=(jC ks gs z).map .int
 | [],_,_=>rfl
 | _::_,[],_=>rfl
 | k::ks,g::gs,z=>by
  rw [Ol];unfold aZ jC;by_cases h:k=z
  ·rw [VJ h,VJ h];rfl
  ·rw [VI h,VI h];exact Cq ks gs z
def Gn.at(g:Gn)(z:Str):Option Int:=jC g.ks g.gs z
def Gn.has(g:Gn)(n:Int)(z:Str):Bool:=match g.at z with
 | some d=>decide (d<=n)
 | none=>false
def Lw:List VL->(VL->Prop)->Prop:=λds Q=>∃(g:Gn)(z:Str)(n:Int),ds=[g.enc,.str z,.int n]/\Q (.bool (g.has n z))
theorem Cr(T:Txt K mg t):aF P w K mg base CX0 1 t.a_x25 t.d_x25 ["gone","paper","day"] (ba K Lw):=by
 refine T.F_x25.okD BO (λds Q h=>?_) (λcdv A outer s H O ds Q E hr h=>?_)
 ·obtain⟨g,z,n,rfl,_⟩:=h;rfl
 ·obtain⟨g,z,n,rfl,q⟩:=h;refine'⟨_,?body,?read⟩
  case body=>
   refine' aq ?s1 ?r1
   case s1=>exact(bw (i:=3) BO.nd rfl (by walk_at "o") (JZ hr.units (dv 0) (dv 1) ⟨rfl,rfl,rfl,rfl⟩))
   case' r1=>refine' aA ?s3
   case' s3=>refine' aU ?e4
   case e4=>exact(uC (fF vV wJ (df (dv 3)) (df fE) (aM _)) (wt (fF qt dO (df (dv 3)) (df (dv 2)) (aM _))))
  case read=>
  clear hr T;simp only [Gn.enc];walk_at "rz";refine⟨g.ks,_,rfl,?_⟩;rw [Cq];have q:Q (.bool (match g.at z with | some d=>decide (d<=n) | none=>false)):=q;unfold Gn.at at q;cases hd:jC g.ks g.gs z with
  | none=>
   rw [hd] at q;simp only [QJ,TK,dF];walk_at "rz";exact q
  | some d=>
   rw [hd] at q;simp only [QI,Option.getD_some,dF];walk_at "rz";exact q
theorem Cs{a b c d e:VL}:aZ [Od "name",Od "coming",Od "kind",Od "makers",Od "happenings"] [a,b,c,d,e] (Od "makers")=some d:=by
 simp only [aZ];rw [VI cp,VI cp,VI cp,VJ trivial]
def Pt.wd:Pt->Str
 | .two w _=>w
 | .five w _ _ _ _=>w
def Pt.kd:Pt->Str
 | .two _ kd=>kd
 | .five _ kd _ _ _=>kd
theorem Pt.kdOk{p:Pt}(h:p.Ok):Om p.kd=true:=by cases p with | two w kd=>exact h.2.2 | five w kd s k u=>exact h.2.1
theorem Pt.at1(p:Pt):∃l,p.enc= .tuple l/\atI l 1=some (.str p.kd):=by cases p <;> exact⟨_,rfl,fk⟩
def iE(L:List (Str×Pt)):Prop:=L.length<=41/\∀z∈L,z.2.Ok
def gz(r:Rp)(n:Int)(L:List (Str×Pt)):List (Str×Pt):=if r.c.d > n then [] else L.filter λz=>z.2.kd==r.c.kd
def Lx(C:VO):List VL->(VL->Prop)->Prop:=λds Q=>∃(r:Rp)(L:List (Str×Pt))(n:Int),ds=[r.enc C,.tuple (L.map di),.int n]/\gr r/\iE L/\Q (.list ((gz r n L).map di))
theorem Ct(T:Txt K mg t):aF P w K mg base CX0 1 t.a_x24 t.d_x24 ["paper","rules","day"] (ba K (Lx t.u_Paper)):=by
 refine T.F_x24.okD Kx (λds Q h=>?_) (λcdv A outer s H O ds Q E hr h=>?_)
 ·obtain⟨r,L,n,rfl,_⟩:=h;rfl
 ·obtain⟨r,L,n,rfl,hr',hL,q⟩:=h;refine'⟨_,?body,?read⟩
  case body=>
   refine' aq ?s1 ?r1
   case s1=>
    refine' bF ?c2 ?a2 bE
    case c2=>exact(aQ sH dO (df (bZ (C:=t.u_Paper) T.cl_Paper T.na_Paper_coming (dv 0))) (df (dv 2)) (aM _))
    case' a2=>refine' aA ?s3
    case s3=>exact(aU (fe (dN ao)))
   case' r1=>refine' aA ?s5
   case' s5=>refine' aU ?e6
   case' e6=>refine' fe ?f7
   case f7=>exact(kc rfl Cn (df (dv 1)) aO bL VG (λ_ _ _ _=>(aL (i:=0) Cn.nd rfl (by walk_at "o"))) (λ_ _ _ _=>(dJ (aQ (dB hr.units) dD (df (ar aC aI (df (ar aC aI (df (dv 0)) (df ah))) (df ah))) (df (bZ (C:=t.u_Paper) T.cl_Paper T.na_Paper_kind (dv 1))) (aM _)))) (λ_ _ _ _=>(dv 0)))
  case read=>
  clear hr T;walk_at "rz";refine⟨[Od "name",Od "coming",Od "kind",Od "makers",Od "happenings"],_,rfl,_,vq,r.c.d,rfl,?_⟩;unfold gz at q;by_cases hd:r.c.d > n
  ·rw [VJ hd] at q⊢;exact q
  ·rw [VI hd] at q⊢;refine⟨by rw [Of];have:=hL.1;omega,cY (λz:Str×Pt=>z.2.kd==r.c.kd) di (λx hx R S h=>?_) q⟩;simp only [di];obtain⟨l,e1,e2⟩:=Pt.at1 x.2;rw [e1];walk_at "rz";refine⟨_,e2,[Od "name",Od "coming",Od "kind",Od "makers",Od "happenings"],_,rfl,_,vt,cH.mpr (Pt.kdOk (hL.2 x hx)),cH.mpr hr'.2.1,?_⟩;rw [cL];simp only [di] at h;rw [e1] at h;exact h
def cj(z:Str×VL):VL:= .tuple [.str z.1,z.2]
def mD(r:Rp)(n:Int)(g:Gn):List Str:=r.ts.filter λm=>!g.has n m
def mE(r:Rp)(n:Int)(g:Gn):List Str:=r.ts.filter λm=>g.has n m
def qg(n:Int):Option Int->Bool
 | none=>true
 | some d=>decide (d > n)
noncomputable def jD(r:Rp)(n:Int)(g:Gn):Pt->Option VL
 | .five w kd s k u=>if w=Od "keep"/\qg n (eB r n (.five w kd s k u))=true then some (bN (eB r n (.five w kd s k u))) else none
 | .two w kd=>if w=Od "while" then(mD r n g).head?.map .str else none
noncomputable def jE(r:Rp)(n:Int)(g:Gn):Pt->Option VL
 | .five w kd s k u=>if w=Od "gone"/\qg n (eB r n (.five w kd s k u))=false then some (bN (eB r n (.five w kd s k u))) else none
 | .two w kd=>if w=Od "follow" then(mE r n g).head?.map .str else none
noncomputable def vv(r:Rp)(n:Int)(g:Gn)(z:Str×Pt):List (Str×VL):=((jD r n g z.2).map λb=>(z.1,b)).toList
noncomputable def vw(r:Rp)(n:Int)(g:Gn)(z:Str×Pt):List (Str×VL):=((jE r n g z.2).map λb=>(z.1,b)).toList
noncomputable def eD(r:Rp)(n:Int)(g:Gn)(L:List (Str×Pt)):List (Str×VL):=(gz r n L).flatMap (vv r n g)
noncomputable def gA(r:Rp)(n:Int)(g:Gn)(L:List (Str×Pt)):List (Str×VL):=(gz r n L).flatMap (vw r n g)
theorem vz{α β:Type}{f:α->List β}(h:∀x,(f x).length<=1):∀l:List α,(l.flatMap f).length<=l.length
 | []=>by simp
 | x::l=>by
  rw [Qv,OH,Oz];have:=h x;have:=vz h l;omega
theorem yh{α:Type}(o:Option α):o.toList.length<=1:=by cases o <;> simp
theorem Cu{f:Str×Pt->Option VL}(M:List (Str×Pt))(hM:M.length<=41):∃acc:Nat->List VL,acc 0=[]/\(∀i,(acc i).length<=41)/\(∀i x,M[i]?=some x->f x=none->acc (i+1)=acc i)/\(∀i x,M[i]?=some x->∀b,f x=some b->acc (i+1)=acc i++[.tuple [.str x.1,b]])/\acc M.length=(M.flatMap λz=>((f z).map λb=>(z.1,b)).toList).map cj:=by
 refine⟨λi=>((M.take i).flatMap λz=>((f z).map λb=>(z.1,b)).toList).map cj,rfl,λi=>?_,λi x hx e=>?_,λi x hx b e=>?_,?_⟩
 ·show(Pr cj _).length<=41;rw [Of];refine O6 (vz (λz=>yh _) _) ?_;rw [PF];omega
 ·show Pr cj _=Pr cj _;rw [Pk,hx,RN];simp [e]
 ·show Pr cj _=Pr cj _++_;rw [Pk,hx,RN,OM];simp [e,cj]
 ·show Pr cj _=_;rw [O7 (Oj _)]
theorem vA{r:Rp}{n:Int}{L:List (Str×Pt)}(h:iE L):iE (gz r n L):=by
 unfold gz;split
 ·exact⟨by simp,by simp⟩
 ·exact⟨O6 (Ph _ _) h.1,λz hz=>h.2 z (Pa.mp hz).1⟩
def F_x26(C:VO):List VL->(VL->Prop)->Prop:=λds Q=>∃(r:Rp)(L:List (Str×Pt))(n:Int)(g:Gn),ds=[r.enc C,.tuple (L.map di),.int n,g.enc]/\gr r/\iE L/\Q (.tuple ((eD r n g L).map cj))
theorem Ly(T:Txt K mg t):aF P w K mg base CX0 7 t.a_x26 t.d_x26 ["paper","rules","day","gone"] (ba K (F_x26 t.u_Paper)):=by
 have G_x25:=Cr (P:=P) (w:=w) (base:=base) T;have G_x24:=Ct (P:=P) (w:=w) (base:=base) T;have G_x23:=Ck (P:=P) (w:=w) (base:=base) T;refine T.F_x26.okD rJ (λds Q h=>?_) (λcdv A outer s H O ds Q E hr h=>?_)
 ·obtain⟨r,L,n,g,rfl,_⟩:=h;rfl
 ·obtain⟨r,L,n,g,rfl,hr',hL,q⟩:=h;refine'⟨_,?body,?read⟩
  case body=>
   refine' aq ?s1 ?r1
   case s1=>exact(kH (i:=4) rJ.nd rfl (by walk_at "o") (qL rfl Co (df (bZ (C:=t.u_Paper) T.cl_Paper T.na_Paper_makers (dv 0))) aO bL VG (λ_ _ _ _=>(aL (i:=0) Co.nd rfl (by walk_at "o"))) (λ_ _ _ _=>(dJ (wq (qw (PE.imp (aR G_x25 (hr.mono VG) rfl T.m_x25 T.F_x25.kp T.b_x25 .nil aG (aa (dv 1) (aa (dv 0) (aa (dv 2) ao)))) aS))))) (λ_ _ _ _=>(dv 0))))
   case' r1=>refine' aq ?s3 ?r3
   case s3=>exact(ia (i:=5) rJ.nd rfl (by walk_at "o") (dN ao))
   case' r3=>refine' aq ?s5 ?r5
   case s5=>
    refine' qA Pz rfl (PE.imp (aR G_x24 (hr.mono VG) rfl T.m_x24 T.F_x24.kp T.b_x24 .nil aG (aa (dv 0) (aa (dv 1) (aa (dv 2) ao)))) aS) ?a6 (ic (cf aO (cf aO ib))) ?b6
    case a6=>exact(g6 (n:=2) rfl (cc (aL (i:=6) rJ.nd rfl (by walk_at "o")) (cc (aL (i:=7) rJ.nd rfl (by walk_at "o")) gZ)))
    case' b6=>refine' aq ?s7 ?r7
    case s7=>
     refine' bF ?c8 ?a8 bE
     case c8=>exact(aQ (cz hr) cA (df (ar aC aI (df (dv 7)) (df ah))) (df aY) (aM _))
     case' a8=>refine' aq ?s9 ?r9
     case s9=>exact(bw (i:=8) rJ.nd rfl (by walk_at "o") (PE.imp (aR G_x23 (hr.mono VG) rfl T.m_x23 T.F_x23.kp T.b_x23 .nil aG (aa (dv 0) (aa (dv 7) (aa (dv 2) ao)))) aS))
     case' r9=>refine' aA ?s11
     case' s11=>refine' bF ?c12 ?a12 bE
     case c12=>exact(PW.pt (sP (aQ sI tf (df (dv 8)) (df fE) (aM _)) (sO (aQ sH dO (df (dv 8)) (df (dv 2)) (aM _)))))
     case' a12=>refine' aA ?s13
     case s13=>exact(j0 (i:=5) (pv 5) (bD (aa (dv 6) (aa (dv 8) ao))))
    case' r7=>refine' aA ?s15
    case' s15=>refine' bF ?c16 ?a16 bE
    case c16=>exact(PW.pt (fH (aQ (cz hr) cA (df (ar aC aI (df (dv 7)) (df ah))) (df aY) (aM _)) (fG (va (dv 4)))))
    case' a16=>refine' aA ?s17
    case' s17=>refine' j0 (i:=5) (pv 5) ?e18
    case e18=>exact(bD (aa (dv 6) (aa (ar bj bq (df (dv 4)) (df ah)) ao)))
   case' r5=>refine' aA ?s20
   case s20=>exact(aU (PE.imp (dA fc rfl T.n_tuple fg (bu (dw 5) bC)) (bU fj)))
  case read=>
  clear hr T G_x25 G_x24 G_x23;walk_at "rz";refine⟨[Od "name",Od "coming",Od "kind",Od "makers",Od "happenings"],_,rfl,_,Cs,_,rfl,by rw [Of];have:=hr'.2.2.1;omega,cY (λm=>!g.has n m) (λm=>.str m) (λx hx R S h=>?_) ?_⟩
  ·walk_at "rz";exact⟨g,x,n,rfl,by simpa using h⟩
  ·refine⟨r,L,n,rfl,hr',hL,?_⟩;have ok:=vA (r:=r) (n:=n) hL;walk_at "rz";have q:Q (.tuple (((gz r n L).flatMap (vv r n g)).map cj)):=q;generalize hM:gz r n L=M at ok q⊢;obtain⟨acc,a0,al,an,as,ae⟩:=Cu (f:=λz:Str×Pt=>jD r n g z.2) M ok.1;refine⟨λi δ=>∃o6 o7 o8,δ=[some (Sl.v (Rp.enc t.u_Paper r)),some (Sl.v (OW (Pr di L))),some (Sl.v (OZ n)),some (Sl.v g.enc),some (Sl.v (QF ((mD r n g).map λm=>Oi m))),some (Sl.o (acc i)),o6,o7,o8],⟨_,_,_,by rw [a0];rfl⟩,?_,?_⟩
   ·rintro i z δ hz ⟨o6,o7,o8,rfl⟩;rw [OD] at hz;cases hz':M[i]? with
    | none=>rw [hz'] at hz;cases hz
    | some x=>
     rw [hz'] at hz;cases hz;have xo:=ok.2 x (OY hz');have tl:=al i;have none_:=an i x hz';have some_:=as i x hz';obtain⟨nm,pt⟩:=x;simp only [di];cases pt with
     | two w2 kd=>
      have k1:w2≠Od "keep":=λe=>xo.1 (.inl e);simp only [Pt.enc];walk_at "rz";rw [bI k1,VI OF];by_cases hw:w2=Od "while"
      ·subst hw;rw [VJ (beq_self_eq_true _)];cases hl:mD r n g with
       | nil=>
        rw [none_ (by show(if Od "while"=Od "while" then(mD r n g).head?.map Oi else none)=none;rw [VJ rfl,hl];rfl),VI (by simp)];exact⟨rfl,_,rfl⟩
       | cons m l=>
        rw [some_ (.str m) (by show(if Od "while"=Od "while" then(mD r n g).head?.map Oi else none)=some _;rw [VJ rfl,hl];rfl),VJ (by rfl)];exact⟨_,cT,VH,rfl,_,rfl⟩
      ·rw [bI hw,VI OF];rw [none_ (by show(if w2=Od "while" then(mD r n g).head?.map Oi else none)=none;rw [VI hw])];exact⟨rfl,_,rfl⟩
     | five w2 kd si k u=>
      have k1:w2≠Od "while":=λe=>by rcases xo.1 with z | z <;> rw [z] at e <;> exact absurd e cp
      simp only [Pt.enc];walk_at "rz";by_cases hw:w2=Od "keep"
      ·subst hw;rw [VJ (beq_self_eq_true _)];refine⟨r,Od "keep",kd,si,k,u,n,rfl,xo.2.2.1,xo.2.2.2.2.2,hr',?_⟩;have df:jD r n g (.five (Od "keep") kd si k u)=if Od "keep"=Od "keep"/\qg n (eB r n (.five (Od "keep") kd si k u))=true then some (bN (eB r n (.five (Od "keep") kd si k u))) else none:=rfl
       cases hd:eB r n (.five (Od "keep") kd si k u) with
       | none=>
        rw [hd] at df;simp only [bN,dF];walk_at "rz";refine⟨VH,?_⟩;rw [bI (show Od "keep"≠Od "while" by decide+kernel),VI OF];rw [some_ .none (by rw [df,VJ ⟨rfl,rfl⟩];rfl)];exact⟨rfl,_,rfl⟩
       | some d=>
        rw [hd] at df;simp only [bN,dF];walk_at "rz";by_cases hdn:n < d
        ·rw [VJ hdn];refine⟨VH,?_⟩;rw [bI (show Od "keep"≠Od "while" by decide+kernel),VI OF];rw [some_ (.int d) (by rw [df,VJ ⟨rfl,decide_eq_true hdn⟩];rfl)];exact⟨rfl,_,rfl⟩
        ·rw [VI hdn];rw [bI (show Od "keep"≠Od "while" by decide+kernel),VI OF];rw [none_ (by rw [df,VI λz=>hdn (of_decide_eq_true z.2)])];exact⟨rfl,_,rfl⟩
      ·rw [bI hw,VI OF,bI k1,VI OF];rw [none_ (by show(if w2=Od "keep"/\qg n (eB r n (.five w2 kd si k u))=true then some (bN (eB r n (.five w2 kd si k u))) else none)=none;rw [VI λz=>hw z.1])];exact⟨rfl,_,rfl⟩
   ·rintro δ ⟨o6,o7,o8,rfl⟩;walk_at "rz";rw [Of,ae];exact q
def F_x27(C:VO):List VL->(VL->Prop)->Prop:=λds Q=>∃(r:Rp)(L:List (Str×Pt))(n:Int)(g:Gn),ds=[r.enc C,.tuple (L.map di),.int n,g.enc]/\gr r/\iE L/\Q (.tuple ((gA r n g L).map cj))
theorem Lz(T:Txt K mg t):aF P w K mg base CX0 7 t.a_x27 t.d_x27 ["paper","rules","day","gone"] (ba K (F_x27 t.u_Paper)):=by
 have G_x25:=Cr (P:=P) (w:=w) (base:=base) T;have G_x24:=Ct (P:=P) (w:=w) (base:=base) T;have G_x23:=Ck (P:=P) (w:=w) (base:=base) T;refine T.F_x27.okD rK (λds Q h=>?_) (λcdv A outer s H O ds Q E hr h=>?_)
 ·obtain⟨r,L,n,g,rfl,_⟩:=h;rfl
 ·obtain⟨r,L,n,g,rfl,hr',hL,q⟩:=h;refine'⟨_,?body,?read⟩
  case body=>
   refine' aq ?s1 ?r1
   case s1=>exact(kH (i:=4) rK.nd rfl (by walk_at "o") (qL rfl Cp (df (bZ (C:=t.u_Paper) T.cl_Paper T.na_Paper_makers (dv 0))) aO bL VG (λ_ _ _ _=>(aL (i:=0) Cp.nd rfl (by walk_at "o"))) (λ_ _ _ _=>(dJ (qw (PE.imp (aR G_x25 (hr.mono VG) rfl T.m_x25 T.F_x25.kp T.b_x25 .nil aG (aa (dv 1) (aa (dv 0) (aa (dv 2) ao)))) aS)))) (λ_ _ _ _=>(dv 0))))
   case' r1=>refine' aq ?s3 ?r3
   case s3=>exact(ia (i:=5) rK.nd rfl (by walk_at "o") (dN ao))
   case' r3=>refine' aq ?s5 ?r5
   case s5=>
    refine' qA Pz rfl (PE.imp (aR G_x24 (hr.mono VG) rfl T.m_x24 T.F_x24.kp T.b_x24 .nil aG (aa (dv 0) (aa (dv 1) (aa (dv 2) ao)))) aS) ?a6 (ic (cf aO (cf aO ib))) ?b6
    case a6=>exact(g6 (n:=2) rfl (cc (aL (i:=6) rK.nd rfl (by walk_at "o")) (cc (aL (i:=7) rK.nd rfl (by walk_at "o")) gZ)))
    case' b6=>refine' aq ?s7 ?r7
    case s7=>
     refine' bF ?c8 ?a8 bE
     case c8=>exact(aQ (cz hr) cA (df (ar aC aI (df (dv 7)) (df ah))) (df aY) (aM _))
     case' a8=>refine' aq ?s9 ?r9
     case s9=>exact(bw (i:=8) rK.nd rfl (by walk_at "o") (PE.imp (aR G_x23 (hr.mono VG) rfl T.m_x23 T.F_x23.kp T.b_x23 .nil aG (aa (dv 0) (aa (dv 7) (aa (dv 2) ao)))) aS))
     case' r9=>refine' aA ?s11
     case' s11=>refine' bF ?c12 ?a12 bE
     case c12=>exact(PW.pt (fH (aQ vV wJ (df (dv 8)) (df fE) (aM _)) (fG (aQ qt dO (df (dv 8)) (df (dv 2)) (aM _)))))
     case' a12=>refine' aA ?s13
     case s13=>exact(j0 (i:=5) (pv 5) (bD (aa (dv 6) (aa (dv 8) ao))))
    case' r7=>refine' aA ?s15
    case' s15=>refine' bF ?c16 ?a16 bE
    case c16=>exact(PW.pt (fH (aQ (cz hr) cA (df (ar aC aI (df (dv 7)) (df ah))) (df aY) (aM _)) (fG (va (dv 4)))))
    case' a16=>refine' aA ?s17
    case' s17=>refine' j0 (i:=5) (pv 5) ?e18
    case e18=>exact(bD (aa (dv 6) (aa (ar bj bq (df (dv 4)) (df ah)) ao)))
   case' r5=>refine' aA ?s20
   case s20=>exact(aU (PE.imp (dA fc rfl T.n_tuple fg (bu (dw 5) bC)) (bU fj)))
  case read=>
  clear hr T G_x25 G_x24 G_x23;walk_at "rz";refine⟨[Od "name",Od "coming",Od "kind",Od "makers",Od "happenings"],_,rfl,_,Cs,_,rfl,by rw [Of];have:=hr'.2.2.1;omega,cY (λm=>g.has n m) (λm=>.str m) (λx hx R S h=>?_) ?_⟩
  ·walk_at "rz";exact⟨g,x,n,rfl,by simpa using h⟩
  ·refine⟨r,L,n,rfl,hr',hL,?_⟩;have ok:=vA (r:=r) (n:=n) hL;walk_at "rz";have q:Q (.tuple (((gz r n L).flatMap (vw r n g)).map cj)):=q;generalize hM:gz r n L=M at ok q⊢;obtain⟨acc,a0,al,an,as,ae⟩:=Cu (f:=λz:Str×Pt=>jE r n g z.2) M ok.1;refine⟨λi δ=>∃o6 o7 o8,δ=[some (Sl.v (Rp.enc t.u_Paper r)),some (Sl.v (OW (Pr di L))),some (Sl.v (OZ n)),some (Sl.v g.enc),some (Sl.v (QF ((mE r n g).map λm=>Oi m))),some (Sl.o (acc i)),o6,o7,o8],⟨_,_,_,by rw [a0];rfl⟩,?_,?_⟩
   ·rintro i z δ hz ⟨o6,o7,o8,rfl⟩;rw [OD] at hz;cases hz':M[i]? with
    | none=>rw [hz'] at hz;cases hz
    | some x=>
     rw [hz'] at hz;cases hz;have xo:=ok.2 x (OY hz');have tl:=al i;have none_:=an i x hz';have some_:=as i x hz';obtain⟨nm,pt⟩:=x;simp only [di];cases pt with
     | two w2 kd=>
      have k1:w2≠Od "gone":=λe=>xo.1 (.inr e);simp only [Pt.enc];walk_at "rz";rw [bI k1,VI OF];by_cases hw:w2=Od "follow"
      ·subst hw;rw [VJ (beq_self_eq_true _)];cases hl:mE r n g with
       | nil=>
        rw [none_ (by show(if Od "follow"=Od "follow" then(mE r n g).head?.map Oi else none)=none;rw [VJ rfl,hl];rfl),VI (by simp)];exact⟨rfl,_,rfl⟩
       | cons m l=>
        rw [some_ (.str m) (by show(if Od "follow"=Od "follow" then(mE r n g).head?.map Oi else none)=some _;rw [VJ rfl,hl];rfl),VJ (by rfl)];exact⟨_,cT,VH,rfl,_,rfl⟩
      ·rw [bI hw,VI OF];rw [none_ (by show(if w2=Od "follow" then(mE r n g).head?.map Oi else none)=none;rw [VI hw])];exact⟨rfl,_,rfl⟩
     | five w2 kd si k u=>
      have k1:w2≠Od "follow":=λe=>by rcases xo.1 with z | z <;> rw [z] at e <;> exact absurd e cp
      simp only [Pt.enc];walk_at "rz";by_cases hw:w2=Od "gone"
      ·subst hw;rw [VJ (beq_self_eq_true _)];refine⟨r,Od "gone",kd,si,k,u,n,rfl,xo.2.2.1,xo.2.2.2.2.2,hr',?_⟩;have df:jE r n g (.five (Od "gone") kd si k u)=if Od "gone"=Od "gone"/\qg n (eB r n (.five (Od "gone") kd si k u))=false then some (bN (eB r n (.five (Od "gone") kd si k u))) else none:=rfl
       cases hd:eB r n (.five (Od "gone") kd si k u) with
       | none=>
        rw [hd] at df;simp only [bN,dF];walk_at "rz";rw [bI (show Od "gone"≠Od "follow" by decide+kernel),VI OF];rw [none_ (by rw [df,VI λz=>Bool.noConfusion (show true=false from z.2)])];exact⟨rfl,_,rfl⟩
       | some d=>
        rw [hd] at df;simp only [bN,dF];walk_at "rz";by_cases hdn:d<=n
        ·rw [VJ hdn];refine⟨VH,?_⟩;rw [bI (show Od "gone"≠Od "follow" by decide+kernel),VI OF];rw [some_ (.int d) (by rw [df,VJ ⟨rfl,decide_eq_false VH⟩];rfl)];exact⟨rfl,_,rfl⟩
        ·rw [VI hdn];rw [bI (show Od "gone"≠Od "follow" by decide+kernel),VI OF];rw [none_ (by rw [df,VI λz=>hdn (by have:=of_decide_eq_false z.2;omega)])];exact⟨rfl,_,rfl⟩
      ·rw [bI hw,VI OF,bI k1,VI OF];rw [none_ (by show(if w2=Od "gone"/\qg n (eB r n (.five w2 kd si k u))=false then some (bN (eB r n (.five w2 kd si k u))) else none)=none;rw [VI λz=>hw z.1])];exact⟨rfl,_,rfl⟩
   ·rintro δ ⟨o6,o7,o8,rfl⟩;walk_at "rz";rw [Of,ae];exact q
end
end K78
open PySem L2
namespace K78
section
variable {P:VY} {w:VZ} {K:Oe} {mg:Str->Option VM} {base:V0} {t:cm}
def Cv(kd:Str):Pt->Bool
 | .two w k=>w==Od "leave" && k==kd
 | _=>false
def fQ(kd:Str)(L:List (Str×Pt)):List Str:=(L.filter λz=>Cv kd z.2).map (·.1)
theorem LA{a b:Str}:(a==b)=decide (a=b):=by
 by_cases h:a=b
 ·simp [h]
 ·rw [bI h,decide_eq_false h]
def LB:List VL->(VL->Prop)->Prop:=λds Q=>∃(kd:Str)(L:List (Str×Pt)),ds=[.str kd,.tuple (L.map di)]/\Om kd=true/\iE L/\Q (.list ((fQ kd L).map .str))
theorem LC{w:Str}(h:KG w):Om w=true:=by rcases h with h | h <;> rw [h] <;> decide+kernel
theorem LD{w:Str}(h:vk w):Om w=true:=by rcases h with h | h | h <;> rw [h] <;> decide+kernel
theorem bS.lay{s:bS}(h:s.Ok):bV 2 s.enc:=by
 cases s with
 | com=>exact eO (bM (ft cp) fq)
 | fst wd=>exact eO (bM (ft cp) (bM (ft h) fq))
 | lst wd=>exact eO (bM (ft cp) (bM (ft h) fq))
theorem Pt.lay{p:Pt}(h:p.Ok):bV 3 p.enc:=by
 cases p with
 | two w kd=>exact(eO (n:=1) (bM (ft h.2.1) (bM (ft h.2.2) fq))).mono VG
 | five w kd s k u=>exact eO (bM (ft (LC h.1)) (bM (ft h.2.1) (bM (bS.lay h.2.2.1) (bM AM (bM (ft (LD h.2.2.2.2.2)) fq)))))
theorem LF(T:Txt K mg t):aF P w K mg base CX0 1 t.a_x28 t.d_x28 ["kind","rules"] (ba K LB):=by
 refine T.F_x28.okD Ky (λds Q h=>?_) (λcdv A outer s H O ds Q E hr h=>?_)
 ·obtain⟨kd,L,rfl,_⟩:=h;rfl
 ·obtain⟨kd,L,rfl,hk,hL,q⟩:=h;refine'⟨_,?body,?read⟩
  case body=>
   refine' aA ?s1
   case' s1=>refine' aU ?e2
   case' e2=>refine' fe ?f3
   case f3=>exact(kc rfl yg (df (dv 1)) (ic (cf aO (cf aO ib))) uY VG (λ_ _ _ _=>(g6 (n:=2) rfl (cc (aL (i:=0) yg.nd rfl (by walk_at "o")) (cc (aL (i:=1) yg.nd rfl (by walk_at "o")) gZ)))) (λ_ _ _ _=>(dJ (aQ (dB hr.units) dD (df (dv 1)) (df (bD (aa aY (aa (dv 2) ao)))) (aM _)))) (λ_ _ _ _=>(dv 0)))
  case read=>
  clear hr T;walk_at "rz";refine⟨by rw [Of];have:=hL.1;omega,cY (λz:Str×Pt=>Cv kd z.2) (λz=>.str z.1) (λx hx R S h=>?_) ?_⟩
  ·have xo:=hL.2 x hx;obtain⟨nm,pt⟩:=x;have ly:=(Pt.lay xo).shp VG;have ly2:Q1 (OW [Oi (Od "leave"),Oi kd])=true:=(eO (n:=1) (bM (ft cp) (bM (ft hk) fq))).shp VG;simp only [di];cases pt with
   | two w2 kd2=>
    simp only [Pt.enc] at ly⊢;walk_at "rz";refine⟨ly,ly2,?_⟩;have e:(OW [Oi w2,Oi kd2]).eqv (OW [Oi (Od "leave"),Oi kd])=(w2==Od "leave" && kd2==kd):=by simp [ON,Qr,LA]
    rw [e];exact h
   | five w2 kd2 si k u=>
    simp only [Pt.enc] at ly⊢;walk_at "rz";refine⟨ly,ly2,?_⟩;rw [VI (by simp [ON,Qr])];exact h
  ·unfold fQ at q;rw [Ov] at q;exact q
end
section
variable {P:VY} {w:VZ} {K:Oe} {mg:Str->Option VM} {base:V0} {t:cm}
theorem LG{xs:List De}{n:Int}(g:gS xs)(h:iC xs n (gT xs n))(hl:(gT xs n).length<=41):iE (gT xs n):=by
 refine⟨hl,λz hz=>?_⟩;obtain⟨d,_,hm,_⟩:=(h.2 z).mp hz;obtain⟨pt,e,ok⟩:=g.ru _ _ _ hm;rw [Cc (Tp e).1];exact ok
end
end K78
open PySem L2
namespace K78
theorem Cw:bb (ag jq) ["ready","parts","days","paper"] ["base","parts"] 1 [1] {kind:=Ou,names:=[ (Og ".0",PySem.NameKind.local),(Og "base",PySem.NameKind.local),(Og "later",O9),(Og "parts",OE)],isGenerator:=false,isCoroutine:=false,more:=[]:O3}:=⟨rfl,cp,cp,cp,rfl,cp,cp,cp,rfl⟩
theorem Cy:bb (ag ix) ["deeds","ready","days","deed"] ["name","deeds"] 1 [0] {kind:=Ou,names:=[ (Og ".0",PySem.NameKind.local),(Og "name",PySem.NameKind.local),(Og "Paper",O9),(Og "deeds",OE)],isGenerator:=false,isCoroutine:=false,more:=[]:O3}:=⟨rfl,cp,cp,cp,rfl,cp,cp,cp,rfl⟩
theorem Cz:bb (ag ix) ["deeds","ready","days","deed"] ["deed"] 1 [] {kind:=Ou,names:=[(Og ".0",PySem.NameKind.local),(Og "deed",PySem.NameKind.local)],isGenerator:=false,isCoroutine:=false,more:=[]:O3}:=⟨rfl,cp,cp,cp,rfl,cp,cp,cp,rfl⟩
section
variable {P:VY} {w:VZ} {K:Oe} {mg:Str->Option VM} {base:V0} {t:cm}
def qh(r:Rp):bS->List Int
 | .com=>[r.c.d]
 | .fst wd=>(dh r.hs wd).take 1
 | .lst wd=>dh r.hs wd
theorem CA{r:Rp}(s:bS):(qh r s).length<=r.hs.length+1:=by
 have fl:∀wd,(dh r.hs wd).length<=r.hs.length:=λwd=>by
  unfold dh;rw [Of];exact Ph _ _
 cases s with
 | com=>show 1<=_;omega
 | fst wd=>show((dh r.hs wd).take 1).length<=_;rw [PF];have:=fl wd;omega
 | lst wd=>have:=fl wd;show(dh r.hs wd).length<=_;omega
theorem CB(xs:List VL):cg xs none (some 1)=xs.take 1:=by
 cases xs with
 | nil=>rfl
 | cons a l=>rw [sS VG (by simp;omega)];rfl
def F_x29(C:VO):List VL->(VL->Prop)->Prop:=λds Q=>∃(s:bS)(r:Rp),ds=[s.enc,r.enc C]/\s.Ok/\tE r.hs/\Q (.list ((qh r s).map .int))
theorem LH(T:Txt K mg t):aF P w K mg base CX0 2 t.a_x29 t.d_x29 ["since","paper"] (ba K (F_x29 t.u_Paper)):=by
 have G_x21:=B7 (P:=P) (w:=w) (base:=base) T;refine T.F_x29.okD BP (λds Q h=>?_) (λcdv A outer s H O ds Q E hr h=>?_)
 ·obtain⟨s,r,rfl,_⟩:=h;rfl
 ·obtain⟨si,r,rfl,hsi,hh,q⟩:=h;refine'⟨_,?body,?read⟩
  case body=>
   refine' aq ?s1 ?r1
   case s1=>
    refine' bF ?c2 ?a2 bE
    case c2=>exact(aQ (cz hr) cA (df (ar aC aI (df (dv 0)) (df ah))) (df aY) (aM _))
    case' a2=>refine' aA ?s3
    case s3=>exact(aU (fe (dN (aa (bZ (C:=t.u_Paper) T.cl_Paper T.na_Paper_coming (dv 1)) ao))))
   case' r1=>refine' aq ?s5 ?r5
   case s5=>exact(bw (i:=2) BP.nd rfl (by walk_at "o") (PE.imp (aR G_x21 (hr.mono VG) rfl T.m_x21 T.F_x21.kp T.b_x21 .nil aG (aa (dv 1) (aa (ar aC aI (df (dv 0)) (df ah)) ao))) aS))
   case' r5=>refine' aA ?s7
   case' s7=>refine' aU ?e8
   case e8=>exact(sQ (aQ (cz hr) cA (df (ar aC aI (df (dv 0)) (df ah))) (df aY) (aM _)) (fe (qD (df (dv 2)) rj (cR ah))) (dv 2))
  case read=>
  clear hr T G_x21;cases si with
  | com=>
   simp only [bS.enc];walk_at "rz";exact⟨[Od "name",Od "coming",Od "kind",Od "makers",Od "happenings"],_,rfl,_,vq,q⟩
  | fst wd=>
   simp only [bS.enc];walk_at "rz";rw [bI (show Od "first"≠Od "coming" by decide+kernel),VI OF];refine⟨r,wd,rfl,hh,hsi,_,rfl,?_⟩;rw [CB,<-SM];exact q
  | lst wd=>
   simp only [bS.enc];walk_at "rz";rw [bI (show Od "last"≠Od "coming" by decide+kernel),VI OF];refine⟨r,wd,rfl,hh,hsi,?_⟩;show if (Od "last"==Od "first")=true then _ else _
   rw [bI (show Od "last"≠Od "first" by decide+kernel),VI OF];exact q
noncomputable def fA(rs:List Rp)(kd:Str)(s:bS)(k:Int)(u:Str):List Int:=rs.flatMap λr=>if (r.c.kd==kd)=true then(qh r s).map λb=>qa b k u else []
theorem CC{m:Nat}{rs:List Rp}(h:∀r∈rs,r.hs.length<=m)(kd:Str)(s:bS)(k:Int)(u:Str):(fA rs kd s k u).length<=(m+1)*rs.length:=by
 unfold fA
 induction rs with
 | nil=>simp
 | cons r rs ih=>
  have ih:=ih λx hx=>h x (by simp [hx]);have hb:=CA (r:=r) s;have h1:=h r (by simp);rw [Qv,OH,Oz,Vp];split
  ·rw [Of];omega
  ·simp only [Pn];omega
def LI(C:VO):List VL->(VL->Prop)->Prop:=λds Q=>∃(rs:List Rp)(w kd:Str)(s:bS)(k:Int)(u:Str),ds=[.list (rs.map (Rp.enc C)),(Pt.five w kd s k u).enc]/\(Pt.five w kd s k u).Ok/\rs.length<=41/\(∀r∈rs,tE r.hs/\Om r.c.kd=true)/\Q (.list ((fA rs kd s k u).map .int))
theorem LJ(T:Txt K mg t):aF P w K mg base CX0 6 t.a_x30 t.d_x30 ["ready","parts"] (ba K (LI t.u_Paper)):=by
 have G_x29:=LH (P:=P) (w:=w) (base:=base) T;have G_x7:=BS (P:=P) (w:=w) (base:=base) T;refine T.F_x30.okD xG (λds Q h=>?_) (λcdv A outer s H O ds Q E hr h=>?_)
 ·obtain⟨rs,w,kd,s,k,u,rfl,_⟩:=h;rfl
 ·obtain⟨rs,wo,kd,si,k,u,rfl,ok,rl,hr',q⟩:=h;refine'⟨_,?body,?read⟩
  case body=>
   refine' aq ?s1 ?r1
   case s1=>exact(ia (i:=2) xG.nd rfl (by walk_at "o") (dN ao))
   case' r1=>refine' aq ?s3 ?r3
   case s3=>
    refine' qA Pz rfl (dv 0) ?a4 aO ?b4
    case a4=>exact(aL (i:=3) xG.nd rfl (by walk_at "o"))
    case' b4=>refine' aA ?s5
    case' s5=>refine' bF ?c6 ?a6 bE
    case c6=>exact(aQ (dB hr.units) dD (df (bZ (C:=t.u_Paper) T.cl_Paper T.na_Paper_kind (dv 3))) (df (ar aC aI (df (dv 1)) (df ah))) (aM _))
    case' a6=>refine' aA ?s7
    case s7=>exact(uW (i:=2) (pv 2) (d8 rfl Cw (df (PE.imp (aR G_x29 (hr.mono VG) rfl T.m_x29 T.F_x29.kp T.b_x29 .nil aG (aa (ar aC aI (df (dv 1)) (df ah)) (aa (dv 3) ao))) aS)) aO bL VG (λ_ _ _ _=>(aL (i:=0) Cw.nd rfl (by walk_at "o"))) (λ_ _ _ _=>cS) (λ_ _ _ _=>(PE.imp (aR G_x7 (hr.mono VG) rfl T.m_x7 T.F_x7.kp T.b_x7 .nil aG (aa (dv 0) (aa (ar aC aI (df (dv 1)) (df ah)) (aa (ar aC aI (df (dv 1)) (df ah)) ao)))) aS))))
   case' r3=>refine' aA ?s9
   case s9=>exact(sR (pv 2))
  case read=>
  clear hr T G_x29 G_x7;walk_at "rz";refine⟨λi δ=>∃o3,δ=[some (Sl.v (.list (rs.map (Rp.enc t.u_Paper)))),some (Sl.v (Pt.five wo kd si k u).enc),some (Sl.o ((fA (rs.take i) kd si k u).map .int)),o3],⟨_,rfl⟩,?_,?_⟩
  ·rintro i z δ hz ⟨o3,rfl⟩;rw [OD] at hz;cases hz':rs[i]? with
   | none=>rw [hz'] at hz;cases hz
   | some r=>
    rw [hz'] at hz;cases hz;obtain⟨h1,h2⟩:=hr' r (OY hz');have bl:=CA (r:=r) si;have h11:=h1.1;have il:(rs.take i).length<=41:=by rw [PF];omega
    have rk:=CC (m:=41) (rs:=rs.take i) (λx hx=>(hr' x (RH hx)).1.1) kd si k u;have rk2:(41+1)*(rs.take i).length<=42*41:=Nat.mul_le_mul_left _ il;simp only [Pt.enc];walk_at "rz";refine⟨[Od "name",Od "coming",Od "kind",Od "makers",Od "happenings"],_,rfl,_,vt,cH.mpr h2,cH.mpr ok.2.1,?_⟩;rw [cL];have ts:fA (rs.take (i+1)) kd si k u=fA (rs.take i) kd si k u++if (r.c.kd==kd)=true then(qh r si).map λb=>qa b k u else []:=by
     unfold fA;rw [Pk,hz',RN];simp
    split
    ·rename_i hk;rw [VJ hk] at ts;refine⟨si,r,rfl,ok.2.2.1,h1,_,rfl,by rw [Of];omega,jz (λ_=>true) (λb=>.int (qa b k u)) (λb hb R S z1 _=>?_) ?_⟩
     ·walk_at "rz";exact⟨b,k,u,rfl,ok.2.2.2.2.2,λx hx=>by rw [yf hx];exact z1 rfl⟩
     ·rw [gm];refine⟨by rw [Of,Of];omega,?_,_,rfl⟩;rw [ts,OM,Ov];rfl
    ·rename_i hk;rw [VI hk,Pg] at ts;rw [ts];exact⟨rfl,_,rfl⟩
  ·rintro δ ⟨o3,rfl⟩;walk_at "rz";rw [Of,O7 (Oj _)];exact q
noncomputable def dS(xs:List De):List Rp:=(bB (aD xs)).map (eV xs)
noncomputable def bO(xs:List De):De->List Int
 | .oth w d nm [.tuple [.str w2,.str kd,s,.int k,.str u]]=>if (w==Od "rule")=true then(match s with
  | .tuple [.str _]=>fA (dS xs) kd .com k u
  | .tuple [.str f,.str wd]=>if (f==Od "first")=true then fA (dS xs) kd (.fst wd) k u else fA (dS xs) kd (.lst wd) k u
  | _=>[]) else []
 | _=>[]
theorem CD(xs:List De)(d:Int)(nm w2 kd:Str)(s:bS)(k:Int)(u:Str):bO xs (.oth (Od "rule") d nm [(Pt.five w2 kd s k u).enc])=fA (dS xs) kd s k u:=by
 cases s with
 | com=>simp [bO,Pt.enc,bS.enc]
 | fst wd=>simp [bO,Pt.enc,bS.enc]
 | lst wd=>simp [bO,Pt.enc,bS.enc,bI (show Od "last"≠Od "first" by decide+kernel)]
noncomputable def gU(xs:List De):List Int:=xs.map De.d++xs.flatMap (bO xs)
def mF(xs:List De)(ns:List Int):Prop:=(∀z,z∈ns↔z∈gU xs)/\ns.Pairwise (· < ·)
theorem LK{l m:List Int}(h1:l.Pairwise (· < ·))(h2:m.Pairwise (· < ·))(h:∀z,z∈l↔z∈m):l=m:=
 p8 (λa b z=>by omega) ((R9 (h1.imp λz e=>by omega) (h2.imp λz e=>by omega)).mpr h) h1 h2
open Classical in
noncomputable def dU(xs:List De):List Int:=if h:∃ns,mF xs ns then h.choose else []
theorem yi{xs:List De}{ns:List Int}(h:mF xs ns):ns=dU xs:=by
 unfold dU;have e:∃ns,mF xs ns:=⟨ns,h⟩;rw [dif_pos e];exact LK h.2 e.choose_spec.2 λz=>(h.1 z).trans (e.choose_spec.1 z).symm
structure jF (xs:List De):Prop where
 ln:(gU xs).length < 4000
 fw:∃L:List Int,L.length < 64/\∀z∈gU xs,z∈L
theorem CF{l L:List Int}(nd:l.Nodup)(hm:∀z∈l,z∈L):l.length<=L.length:=by
 induction l generalizing L with
 | nil=>simp
 | cons a l ih=>
  rw [Qj] at nd;obtain⟨p,q,e⟩:=UG (hm a (by simp));have:=ih (L:=p++q) nd.2 λb hb=>by
   have hb':=hm b (by simp [hb]);rw [e] at hb';rcases OL.mp hb' with z | z
   ·exact R7 _ z
   ·rcases OA.mp z with z | z
    ·exact absurd (by rw [<-z];exact hb) nd.1
    ·exact Pq _ z
  rw [e,OH,Oz,Oz];rw [OH] at this;omega
theorem LL{xs:List De}(g:gS xs)(h:∀c∈aD xs,gr (eV xs c)):∀r∈dS xs,tE r.hs/\Om r.c.kd=true:=λr hr=>by
 obtain⟨c,hc,rfl⟩:=Oq.mp hr;have hc:=gQ.mp hc;exact⟨(h c hc).1,g.gx.gp.kd c hc⟩
theorem LM{xs:List De}{i:Nat}{x:De}(h:xs[i]?=some x):(xs.map De.d++(xs.take (i+1)).flatMap (bO xs))=(xs.map De.d++(xs.take i).flatMap (bO xs))++bO xs x:=by
 rw [Pk,h,RN,<-SH];simp
def LN:List VL->(VL->Prop)->Prop:=λds Q=>∃xs:List De,ds=[.tuple (xs.map De.enc)]/\gS xs/\((∀c∈aD xs,gr (eV xs c))->jF xs)/\(mF xs (dU xs)->(dU xs).length < 64->Q (.tuple ((dU xs).map .int)))
theorem CG(T:Txt K mg t):aF P w K mg base CX0 9 t.a_x31 t.d_x31 ["deeds"] (ba K LN):=by
 have G_x8:=B6 (P:=P) (w:=w) (base:=base) T;have G_x12:=xW (P:=P) (w:=w) (base:=base) T;have G_x30:=LJ (P:=P) (w:=w) (base:=base) T;refine T.F_x31.okD vi (λds Q h=>?_) (λcdv A outer s H O ds Q E hr h=>?_)
 ·obtain⟨xs,rfl,_⟩:=h;rfl
 ·obtain⟨xs,rfl,gd,few,q⟩:=h;refine'⟨_,?body,?read⟩
  case body=>
   refine' aq ?s1 ?r1
   case s1=>exact(kH (i:=1) vi.nd rfl (by walk_at "o") (qL rfl Cy (df (PE.imp (aR G_x12 (hr.mono VG) rfl T.m_x12 T.F_x12.kp T.b_x12 .nil aG (aa (dv 0) ao)) aS)) aO bL VG (λ_ _ _ _=>(aL (i:=0) Cy.nd rfl (by walk_at "o"))) (λ_ _ _ _=>cS) (λ_ _ _ _=>(PE.imp (uf T.mk_Paper G_x8 (hr.mono VG) rfl T.c_Paper T.b_x8 .nil aG (aa (dv 1) (aa (dv 0) ao))) wU))))
   case' r1=>refine' aq ?s3 ?r3
   case s3=>exact(Bt (i:=2) vi.nd rfl (by walk_at "o") (qL rfl Cz (df (dv 0)) aO bL VG (λ_ _ _ _=>(aL (i:=0) Cz.nd rfl (by walk_at "o"))) (λ_ _ _ _=>cS) (λ_ _ _ _=>(ar aC aI (df (dv 0)) (df ah)))))
   case' r3=>refine' aq ?s5 ?r5
   case s5=>
    refine' qB Pz rfl (dv 0) ?a6 aO ?b6
    case a6=>exact(aL (i:=3) vi.nd rfl (by walk_at "o"))
    case' b6=>refine' aA ?s7
    case' s7=>refine' bF ?c8 ?a8 bE
    case c8=>exact(PW.pt (fH (aQ (cz hr) cA (df (ar aC aI (df (dv 3)) (df ah))) (df aY) (aM _)) (fG (aQ (qH hr) qI (df (ar aC aI (df (ar aC aI (df (dv 3)) (df ah))) (df ah))) (df (bD (aa aY (aa aY ao)))) rfl))))
    case' a8=>refine' aA ?s9
    case s9=>exact(xh (i:=2) (pv 2) (PE.imp (aR G_x30 (hr.mono VG) rfl T.m_x30 T.F_x30.kp T.b_x30 .nil aG (aa (dv 1) (aa (ar aC aI (df (dv 3)) (df ah)) ao))) aS))
   case' r5=>refine' aA ?s11
   case s11=>exact(aU (PE.imp (dA fc rfl T.n_tuple fg (bu (df (fe (JN rfl rfl T.n_sorted QD rfl T.n_set (bu (dw 2) bC)))) bC)) (bU fj)))
  case read=>
  clear hr T G_x8 G_x12 G_x30;walk_at "rz";have ln:=gd.gx.ln;have ol:=iz (ps:=aD xs);have pl:=gd.gx.gp.ln;refine⟨xs,rfl,gd.gx,_,rfl,by rw [Of,Of];omega,?_⟩;refine⟨λi acc=>acc=((bB (aD xs)).take i).map (λc=>(eV xs c).enc t.u_Paper)/\∀c∈(bB (aD xs)).take i,gr (eV xs c),⟨rfl,by simp⟩,?_,?_⟩
  ·rintro i z acc hz ⟨rfl,hh⟩;rw [OD,OD] at hz;cases hz':(bB (aD xs))[i]? with
   | none=>rw [hz'] at hz;cases hz
   | some c=>
    rw [hz'] at hz;cases hz;walk_at "rz";have hc:=gQ.mp (OY hz');refine⟨xs,c,rfl,gd,hc,λh1 h2 h3=>⟨?_,λc' hc'=>?_⟩⟩
    ·rw [Pk,hz',OM];rfl
    ·rw [Pk,hz'] at hc';rcases OL.mp hc' with y | y
     ·exact hh c' y
     ·have y:c'=c:=by simpa using y
      rw [y];exact Cm gd hc h1 h3
  ·rintro acc ⟨rfl,hh⟩;simp only [Of,U3] at hh⊢;have hh:∀c∈aD xs,gr (eV xs c):=λc hc=>hh c (gQ.mpr hc);obtain⟨f1,L,f2,f3⟩:=few hh;have hok:=LL gd hh;have re:(bB (aD xs)).map (λc=>(eV xs c).enc t.u_Paper)=(dS xs).map (Rp.enc t.u_Paper):=by unfold dS;rw [Ov];rfl
   have rl:(dS xs).length<=41:=by unfold dS;rw [Of];omega
   rw [re];refine⟨VH,jz (λ_=>true) (λx:De=>.int x.d) (λx hx R S h1 _=>?_) ?_⟩
   ·cases x <;> simp only [De.enc,Pp.enc] <;> walk_at "rz" <;> exact h1 rfl
   ·rw [gm];have bnd:∀i,(xs.map De.d++(xs.take i).flatMap (bO xs)).length<=(gU xs).length:=λi=>by
     unfold gU;rw [OH,OH];have:((xs.take i).flatMap (bO xs)).length<=(xs.flatMap (bO xs)).length:=by
      have e:xs.flatMap (bO xs)=(xs.take i).flatMap (bO xs)++(xs.drop i).flatMap (bO xs):=by rw [<-RN,SV]
      rw [e,OH];omega
     omega
    refine⟨λi δ=>∃(o3:Option Sl),δ=[some (Sl.v (.tuple (xs.map De.enc))),some (Sl.v (.list ((dS xs).map (Rp.enc t.u_Paper)))),some (Sl.o ((xs.map De.d++(xs.take i).flatMap (bO xs)).map .int)),o3],⟨none,by simp⟩,?_,?_⟩
    ·rintro i z δ hz ⟨o3,rfl⟩;rw [OD] at hz;cases hz':xs[i]? with
     | none=>rw [hz'] at hz;cases hz
     | some x=>
      rw [hz'] at hz;cases hz;have hx:=OY hz';have ts:=LM hz';have bd:=bnd i;have bd2:=bnd (i+1);rw [ts] at bd2;simp only [ts];generalize xs.map De.d++(xs.take i).flatMap (bO xs)=L0 at bd bd2⊢;cases x with
      | pap p=>
       simp only [De.enc,Pp.enc];walk_at "rz";exact⟨by simp [bO],_,rfl⟩
      | oth wo d nm r=>
       simp only [De.enc];walk_at "rz";by_cases hw:wo=Od "rule"
       ·subst hw;obtain⟨pt,rfl,ok⟩:=gd.ru _ _ _ hx;rw [VJ (beq_self_eq_true _)];cases pt with
        | two w2 kd=>
         refine⟨_,fo,_,rfl,_,cT,rfl,?_⟩;rw [cL,cL,bI (λe=>ok.1 (.inl e.symm)),bI (λe=>ok.1 (.inr e.symm)),VI VG];exact⟨by simp [bO,Pt.enc],_,rfl⟩
        | five w2 kd s k u=>
         refine⟨_,fo,_,rfl,_,cT,rfl,?_⟩;have hk:((Oi (Od "keep")).eqv (Oi w2) || (Oi (Od "gone")).eqv (Oi w2))=true:=by
          rw [cL,cL];rcases ok.1 with e | e <;> rw [e] <;> decide+kernel
         rw [VJ hk];rw [CD] at bd2⊢;rw [OH] at bd2;exact⟨_,fo,dS xs,w2,kd,s,k,u,rfl,ok,rl,hok,_,rfl,by rw [Of,Of];omega,by rw [OM],_,rfl⟩
       ·rw [VI (by simpa using hw)];have:bO xs (.oth wo d nm r)=[]:=by
         unfold bO;split
         ·rename_i e;cases e;rw [VI (by simpa using hw)]
         ·rfl
        rw [this,Pg];exact⟨rfl,_,rfl⟩
    ·rintro δ ⟨o3,rfl⟩;rw [Of,O7 (Oj _)];have tl:xs.map De.d++xs.flatMap (bO xs)=gU xs:=rfl;rw [tl];walk_at "rz";refine⟨gU xs,rfl,f1,?_,λns h1 h2=>?_⟩
     ·refine SA (CF (wY .nil) λz hz=>?_) f2;rw [wX] at hz;rcases hz with y | y
      ·cases y
      ·exact f3 z y
     ·have it:mF xs ns:=⟨h1,h2⟩;have e:=yi it;have lt:ns.length < 64:=SA (CF (h2.imp λz e=>by omega) λz hz=>f3 z ((h1 z).mp hz)) f2;rw [e] at it lt⊢;exact q it lt
end
end K78
open PySem L2
namespace K78
theorem CH:bb (ag jg) ["deeds","day"] ["deed"] 1 [] {kind:=Ou,names:=[(Og ".0",PySem.NameKind.local),(Og "deed",PySem.NameKind.local)],isGenerator:=false,isCoroutine:=false,more:=[]:O3}:=⟨rfl,cp,cp,cp,rfl,cp,cp,cp,rfl⟩
theorem CI:bb (ag jh) ["holds","line","names","hold","target","deep","reached"] ["coming","target"] 1 [4] {kind:=Ou,names:=[ (Og ".0",PySem.NameKind.local),(Og "coming",PySem.NameKind.local),(Og "is_told",O9),(Og "target",OE)],isGenerator:=false,isCoroutine:=false,more:=[]:O3}:=⟨rfl,cp,cp,cp,rfl,cp,cp,cp,rfl⟩
section
variable {P:VY} {w:VZ} {K:Oe} {mg:Str->Option VM} {base:V0} {t:cm}
def CJ(a b:Rw):Prop:=cU a.nm b.nm=true/\a.nm≠b.nm
def Uq(ws:List Str)(n:Int)(xs:List Rw):Prop:=∀x∈xs,∀y∈xs,fJ ws n x->fJ ws n y->x.nm=y.nm->x.n=y.n->x=y
theorem vB{ws:List Str}{n:Int}{xs res:List Rw}(h:eU ws n xs res):res.Pairwise CJ:=by
 have up:=h.up;have nd:=h.nd;rw [Px] at up;rw [SD,Px] at nd;exact up.and nd
theorem CK{ws:List Str}{n:Int}{xs r1 r2:List Rw}(u:Uq ws n xs)(h1:eU ws n xs r1)(h2:eU ws n xs r2)(x:Rw)(hx:x∈r1):x∈r2:=by
 obtain⟨a1,a2,a3⟩:=h1.it x hx;obtain⟨y,hy,yn⟩:=h2.al x a1 a2;obtain⟨b1,b2,b3⟩:=h2.it y hy;have e:x=y:=u x a1 y b1 a2 b2 yn.symm (U9 (b3 x a1 a2 yn.symm) (a3 y b1 b2 yn));rw [e];exact hy
theorem LO{ws:List Str}{n:Int}{xs r1 r2:List Rw}(u:Uq ws n xs)(h1:eU ws n xs r1)(h2:eU ws n xs r2):r1=r2:=
 p8 (r:=CJ) (λa b h z=>h.2 (wC h.1 z.1)) ((R9 ((vB h1).imp λz e=>z.2 (by rw [e])) ((vB h2).imp λz e=>z.2 (by rw [e]))).mpr λx=>⟨CK u h1 h2 x,CK u h2 h1 x⟩) (vB h1) (vB h2)
open Classical in
noncomputable def rS(ws:List Str)(n:Int)(xs:List Rw):List Rw:=if h:∃r,eU ws n xs r then h.choose else []
theorem yj{ws:List Str}{n:Int}{xs r:List Rw}(u:Uq ws n xs)(h:eU ws n xs r):r=rS ws n xs:=by
 unfold rS;have e:∃r,eU ws n xs r:=⟨r,h⟩;rw [dif_pos e];exact LO u h e.choose_spec
def fR(ip:Bool)(tn:Str):VL:= .tuple [.str (if ip=true then Od "paper" else Od "kind"),.str tn]
structure Hd where
 nm:Str
 ip:Bool
 tn:Str
 dp:Bool
def Hd.enc(h:Hd):VL:= .tuple [.str h.nm,fR h.ip h.tn,.bool h.dp]
def De.isL:De->Bool
 | .oth w _ _ _=>w==Od "hold" || w==Od "lift"
 | _=>false
structure cn (xs:List De):Prop where
 gd:gS xs
 ho:∀d nm r,De.oth (Od "hold") d nm r∈xs->∃(ip:Bool)(tn:Str)(dp:Bool),r=[fR ip tn,.bool dp]/\Om tn=true
 le:∀d nm r,De.oth (Od "leave") d nm r∈xs->∃kd,r=[.str kd]/\Om kd=true
 rh:∀x∈xs,∀y∈xs,x.isL=true->y.isL=true->x.d=y.d->x.nm=y.nm->x=y
 lv:∀x∈xs,∀y∈xs,x.w=Od "leave"->y.w=Od "leave"->x.nm=y.nm->x=y
def qO:List Str:=["hold","lift"]
def tG(x:Rw):Hd:=match x.r with
 | [.tuple [.str a,.str b],.bool c]=>⟨x.nm,a==Od "paper",b,c⟩
 | _=>⟨x.nm,false,Od "",false⟩
theorem CM{x:Rw}{ip dp:Bool}{tn:Str}(h:x.r=[fR ip tn,.bool dp]):tG x=⟨x.nm,ip,tn,dp⟩:=by
 unfold tG;rw [h];cases ip with
 | true=>simp [fR]
 | false=>simp [fR,bI (show Od "kind"≠Od "paper" by decide+kernel)]
def qP(res:List Rw):List Hd:=(res.filter λx=>x.w==Od "hold").map tG
noncomputable def rT(xs:List De)(n:Int):List Hd:=qP (rS qO n (xs.map De.rw))
theorem CN{w:Str}(h:w∈qO):w=Od "hold"\/w=Od "lift":=by
 unfold qO at h;rcases OA.mp h with e | h
 ·exact .inl e
 ·rcases OA.mp h with e | h
  ·exact .inr e
  ·cases h
theorem CO{xs:List De}{n:Int}(g:cn xs):Uq qO n (xs.map De.rw):=by
 intro x hx y hy ox oy e1 e2;obtain⟨a,ha,rfl⟩:=Oq.mp hx;obtain⟨b,hb,rfl⟩:=Oq.mp hy;have il:∀z:De,z.rw.w∈qO->z.isL=true/\z.rw.nm=z.nm/\z.rw.n=z.d:=λz hz=>by
  cases z with
  | pap p=>exact absurd (CN hz) (by show ¬(Od "paper"=_\/Od "paper"=_);decide+kernel)
  | oth w d nm r=>
   refine⟨?_,rfl,rfl⟩;have hz:w∈qO:=hz;rcases CN hz with e | e <;> simp [De.isL,e]
 obtain⟨a1,a2,a3⟩:=il a ox.1;obtain⟨b1,b2,b3⟩:=il b oy.1;rw [g.rh a ha b hb a1 b1 (by rw [<-a3,<-b3];exact e2) (by rw [<-a2,<-b2];exact e1)]
def tH(hs:List Hd):Prop:=hs.length<=41/\∀h∈hs,Om h.tn=true
def LP:List VL->(VL->Prop)->Prop:=λds Q=>∃(xs:List De)(n:Int),ds=[.tuple (xs.map De.enc),.int n]/\cn xs/\(tH (rT xs n)->Q (.tuple ((rT xs n).map Hd.enc)))
theorem LQ(T:Txt K mg t):aF P w K mg base CX0 2 t.a_x18 t.d_x18 ["deeds","day"] (ba K LP):=by
 have G_x16:=B9 (P:=P) (w:=w) (base:=base) T;refine T.F_x18.okD Ku (λds Q h=>?_) (λcdv A outer s H O ds Q E hr h=>?_)
 ·obtain⟨xs,n,rfl,_⟩:=h;rfl
 ·obtain⟨xs,n,rfl,g,q⟩:=h;refine'⟨_,?body,?read⟩
  case body=>
   refine' aA ?s1
   case' s1=>generalize hG2:VF _ _ _ _=eg2
   refine' aU ?e2
   case' e2=>subst hG2
   exact(PE.imp (dA fc rfl T.n_tuple fg (bu (df (fe (d8 rfl CH (df (PE.imp (aR G_x16 (hr.mono VG) rfl T.m_x16 T.F_x16.kp T.b_x16 .nil aG (aa (dv 0) (aa (bD (aa aY (aa aY ao))) (aa (dv 1) ao)))) aS)) aO bL VG (λ_ _ _ _=>(aL (i:=0) CH.nd rfl (by walk_at "o"))) (λ_ _ _ _=>(dJ (aQ (cz hr) cA (df (ar aC aI (df (dv 0)) (df ah))) (df aY) (aM _)))) (λ_ _ _ _=>(bD (aa (ar aC aI (df (dv 0)) (df ah)) (aa (ar aC aI (df (dv 0)) (df ah)) (aa (ar aC aI (df (dv 0)) (df ah)) ao)))))))) bC)) (bU fj))
  case read=>
  clear hr T G_x16;have ok:=Ci g.gd (λw d nm r h=>g.gd.gx.w _ h);walk_at "rz";refine⟨xs.map De.rw,qO,n,by rw [Ce];rfl,ok.st,cp,ok.le,λres hres=>⟨_,rfl,?_,?_⟩⟩
  ·rw [Of];have:=hres.le;have:=ok.le;omega
  have fm:∀x∈res,x.w=Od "hold"->∃(ip:Bool)(tn:Str)(dp:Bool),x.r=[fR ip tn,.bool dp]/\Om tn=true:=λx hx hw=>by
   obtain⟨h1,_,_⟩:=hres.it x hx;obtain⟨y,hy,rfl⟩:=Oq.mp h1;cases y with
   | pap p=>exact absurd hw (by show Od "paper"≠_;decide+kernel)
   | oth w d nm r=>
    have hw:w=Od "hold":=hw;subst hw;exact g.ho _ _ _ hy
  have e:=yj (CO g) hres;have q:tH (qP res)->Q (.tuple ((qP res).map Hd.enc)):=by rw [e];exact q
  refine cY (enc:=Rw.enc) (λx=>x.w==Od "hold") (λx=>(tG x).enc) (λx hx R S h=>?_) ?_
  ·simp only [Rw.enc];walk_at "rz";by_cases hr:(x.w==Od "hold")=true
   ·rw [VJ hr] at h⊢;obtain⟨ip,tn,dp,hp,_⟩:=fm x hx (eq_of_beq hr);rw [CM hp] at h;rw [hp];exact⟨_,fo,_,kF,h⟩
   ·rw [VI hr] at h⊢;exact h
  ·have e2:(QN (λx=>x.w==Od "hold") res).map (λx=>(tG x).enc)=(qP res).map Hd.enc:=by unfold qP;rw [Ov];rfl
   rw [e2];refine q ⟨?_,λh hh=>?_⟩
   ·unfold qP;rw [Of];have h1:=Ph (λx:Rw=>x.w==Od "hold") res;have h2:=hres.le;rw [Of] at h2;have:=g.gd.gx.ln;omega
   ·obtain⟨x,hx,rfl⟩:=Oq.mp hh;obtain⟨hx1,hx2⟩:=Pa.mp hx;obtain⟨ip,tn,dp,hp,hk⟩:=fm x hx1 (eq_of_beq hx2);rw [CM hp];exact hk
def gW(ip:Bool)(tn:Str)(c:Pp):Bool:=tn==if ip=true then c.nm else c.kd
def CQ:List VL->(VL->Prop)->Prop:=λds Q=>∃(ip:Bool)(tn:Str)(c:Pp),ds=[fR ip tn,c.enc]/\Om tn=true/\Om c.nm=true/\Om c.kd=true/\Q (.bool (gW ip tn c))
theorem LR(T:Txt K mg t):aF P w K mg base CX0 1 t.a_x19 t.d_x19 ["target","coming"] (ba K CQ):=by
 refine T.F_x19.okD Kv (λds Q h=>?_) (λcdv A outer s H O ds Q E hr h=>?_)
 ·obtain⟨ip,tn,c,rfl,_⟩:=h;rfl
 ·obtain⟨ip,tn,c,rfl,h1,h2,h3,q⟩:=h;refine'⟨_,?body,?read⟩
  case body=>
   refine' aA ?s1
   case' s1=>refine' aU ?e2
   case e2=>exact(fF (dB hr.units) dD (df (ar aC aI (df (dv 0)) (df ah))) (df (sQ (aQ (cz hr) cA (df (ar aC aI (df (dv 0)) (df ah))) (df aY) (aM _)) (ar aC aI (df (dv 1)) (df ah)) (ar aC aI (df (dv 1)) (df ah)))) (aM _))
  case read=>
  clear hr T;simp only [fR,Pp.enc];unfold gW at q;cases ip with
  | true=>
   walk_at "rz";exact⟨cH.mpr h1,cH.mpr h2,q⟩
  | false=>
   walk_at "rz";rw [VI (show ¬(Od "kind"==Od "paper")=true by decide+kernel)];exact⟨cH.mpr h1,cH.mpr h3,q⟩
def rV(line:List Pp)(h:Hd):Bool:=(if h.dp=true then line else line.take 1).any (gW h.ip h.tn)
def dW(hs:List Hd)(line:List Pp):List Str:=(hs.filter (rV line)).map (·.nm)
def vC(line:List Pp):Prop:=line.length<=41/\∀c∈line,Om c.nm=true/\Om c.kd=true
def F_x20:List VL->(VL->Prop)->Prop:=λds Q=>∃(hs:List Hd)(line:List Pp),ds=[.tuple (hs.map Hd.enc),.list (line.map Pp.enc)]/\tH hs/\vC line/\Q (.tuple ((dW hs line).map .str))
theorem LS(T:Txt K mg t):aF P w K mg base CX0 2 t.a_x20 t.d_x20 ["holds","line"] (ba K F_x20):=by
 have G_x19:=LR (P:=P) (w:=w) (base:=base) T;refine T.F_x20.okD rH (λds Q h=>?_) (λcdv A outer s H O ds Q E hr h=>?_)
 ·obtain⟨hs,line,rfl,_⟩:=h;rfl
 ·obtain⟨hs,line,rfl,ho,lo,q⟩:=h;refine'⟨_,?body,?read⟩
  case body=>
   refine' aq ?s1 ?r1
   case s1=>exact(ia (i:=2) rH.nd rfl (by walk_at "o") (dN ao))
   case' r1=>refine' aq ?s3 ?r3
   case s3=>
    refine' qB Pz rfl (dv 0) ?a4 (ic (cf aO (cf aO (cf aO ib)))) ?b4
    case a4=>exact(g6 (n:=3) rfl (cc (aL (i:=3) rH.nd rfl (by walk_at "o")) (cc (aL (i:=4) rH.nd rfl (by walk_at "o")) (cc (aL (i:=5) rH.nd rfl (by walk_at "o")) gZ))))
    case' b4=>refine' aq ?s5 ?r5
    case s5=>exact(bw (i:=6) rH.nd rfl (by walk_at "o") (sQ (qw (dv 5)) (dv 1) (fe (qD (df (dv 1)) rj (cR ah)))))
    case' r5=>refine' aA ?s7
    case' s7=>refine' bF ?c8 ?a8 bE
    case c8=>exact(qw (PE.imp (dq (zY rfl) rfl T.n_any z3 (bu (df (fe (d8 rfl CI (df (dv 6)) aO bL VG (λ_ _ _ _=>(aL (i:=0) CI.nd rfl (by walk_at "o"))) (λ_ _ _ _=>cS) (λ_ _ _ _=>(PE.imp (aR G_x19 (hr.mono VG) rfl T.m_x19 T.F_x19.kp T.b_x19 .nil aG (aa (dv 1) (aa (dv 0) ao))) aS))))) bC)) (bU uG)))
    case' a8=>refine' aA ?s9
    case s9=>exact(j0 (i:=2) (pv 2) (dv 3))
   case' r3=>refine' aA ?s11
   case s11=>exact(aU (PE.imp (dA fc rfl T.n_tuple fg (bu (dw 2) bC)) (bU fj)))
  case read=>
  clear hr T G_x19;have h41:=ho.1;have l41:=lo.1;walk_at "rz";refine⟨λi δ=>∃o3 o4 o5 o6,δ=[some (Sl.v (.tuple (hs.map Hd.enc))),some (Sl.v (.list (line.map Pp.enc))),some (Sl.o ((dW (hs.take i) line).map .str)),o3,o4,o5,o6],⟨_,_,_,_,rfl⟩,?_,?_⟩
  ·rintro i z δ hz ⟨o3,o4,o5,o6,rfl⟩;rw [OD] at hz;cases hz':hs[i]? with
   | none=>rw [hz'] at hz;cases hz
   | some h=>
    rw [hz'] at hz;cases hz;have hk:=ho.2 h (OY hz');have ts:dW (hs.take (i+1)) line=dW (hs.take i) line++if rV line h=true then [h.nm] else []:=by
     unfold dW;rw [Pk,hz',Te,OM];congr 1;by_cases e:rV line h=true
     ·simp [e]
     ·simp [e]
    have ll:(dW (hs.take i) line).length<=41:=by
     unfold dW;rw [Of];have:=Ph (rV line) (hs.take i);rw [PF] at this;omega
    have key:∀(l2:List Pp)(R:List VL->Prop),(∀c∈l2,c∈line)->R ((l2.map (gW h.ip h.tn)).map .bool)->gb (iX 0) gc (fY CQ (fX (eM 1) (fX (eM 0) fW))) [none,some (Sl.v (fR h.ip h.tn))] (l2.map Pp.enc) R:=λl2 R hl hR=>by
     refine jz (λ_=>true) (λc=>.bool (gW h.ip h.tn c)) (λc hc R S h1 _=>?_) (by rw [gm];rw [Ov] at hR;exact hR);walk_at "rz";exact⟨h.ip,h.tn,c,rfl,hk,(lo.2 c (hl c hc)).1,(lo.2 c (hl c hc)).2,h1 rfl⟩
    simp only [Hd.enc];simp only [ts];have ec:rV line h=(if h.dp=true then line else line.take 1).any (gW h.ip h.tn):=rfl;rw [ec];generalize dW (hs.take i) line=A0 at ll;have fin:∀(l2:List Pp)(x:Option Sl),if (l2.map (gW h.ip h.tn)).any id=true then(A0.map Oi).length < 16777216/\A0.map Oi++[Oi h.nm]=(A0++if l2.any (gW h.ip h.tn)=true then [h.nm] else []).map Oi/\∃y,x=y else A0.map Oi=(A0++if l2.any (gW h.ip h.tn)=true then [h.nm] else []).map Oi/\∃y,x=y:=λl2 x=>by
     rw [R4];show if l2.any (gW h.ip h.tn)=true then _ else _
     split
     ·exact⟨by rw [Of];omega,by simp,_,rfl⟩
     ·exact⟨by simp,_,rfl⟩
    cases hd:h.dp with
    | true=>
     walk_at "rz";exact⟨by rw [Of];omega,key line _ (λ_ h=>h) ⟨_,rfl,fin line _⟩⟩
    | false=>
     walk_at "rz";rw [CB,<-SM];have lt:(line.take 1).length<=41:=by rw [PF];omega
     exact⟨by rw [Of];omega,key (line.take 1) _ (λ_ h=>RH h) ⟨_,rfl,fin (line.take 1) _⟩⟩
  ·rintro δ ⟨o3,o4,o5,o6,rfl⟩;walk_at "rz";rw [Of,O7 (Oj _)];exact q
end
end K78
open PySem L2
namespace K78
theorem CS:bb (ag jd) ["deeds","paper","line","place"] ["deed","line"] 1 [2] {kind:=Ou,names:=[ (Og ".0",PySem.NameKind.local),(Og "deed",PySem.NameKind.local),(Og "line",OE)],isGenerator:=false,isCoroutine:=false,more:=[]:O3}:=⟨rfl,cp,cp,cp,rfl,cp,cp,cp,rfl⟩
section
variable {P:VY} {w:VZ} {K:Oe} {mg:Str->Option VM} {base:V0} {t:cm}
theorem CT:∀{a b:List Str},Qr (a.map .str) (b.map .str)=true↔a=b
 | [],[]=>by simp [Qr]
 | [],_::_=>by simp [Qr]
 | _::_,[]=>by simp [Qr]
 | x::a,y::b=>by
  rw [Ol,Ol,Qr,Pw,CT,cL,beq_iff_eq,Pb]
theorem CU{a b:Pp}:ON a.enc b.enc=true↔a=b:=by
 obtain⟨d,nm,kd,ms⟩:=a;obtain⟨d',nm',kd',ms'⟩:=b;simp only [Pp.enc,ON,Qr,Pw,CT,Pp.mk.injEq,decide_eq_true_eq,beq_iff_eq,and_true,true_and]
def qi(l:List Pp)(p:Pp):Bool:=(l.map Pp.enc).any λd=>ON d p.enc
theorem yk{l:List Pp}{p:Pp}:qi l p=true↔p∈l:=by
 unfold qi;rw [Rc];constructor
 ·rintro⟨d,hd,e⟩;obtain⟨q,hq,rfl⟩:=Oq.mp hd;rw [<-CU.mp e];exact hq
 ·intro h;exact⟨p.enc,Oq.mpr ⟨p,h,rfl⟩,CU.mpr rfl⟩
def qj(ps line:List Pp)(c:Pp):List Pp:=(fz ps c).filter λp=>!qi line p
def gX(ps:List Pp):Nat->List Pp->Nat->List Pp
 | 0,l,_=>l
 | f+1,l,i=>match l[i]? with
  | none=>l
  | some c=>gX ps f (l++qj ps l c) (i+1)
def jG(ps:List Pp)(c:Pp):List Pp:=gX ps ps.length [c] 0
theorem LU{ps l:List Pp}{i:Nat}(h:l.length<=i):∀f,gX ps f l i=l
 | 0=>rfl
 | f+1=>by rw [gX,Qm h]
structure qQ (ps:List Pp) (c:Pp) (l:List Pp):Prop where
 nd:l.Nodup
 sb:∀p∈l,p∈ps
 hd:∃r,l=c::r
theorem vD{α:Type}:∀{l L:List α},l.Nodup->(∀z∈l,z∈L)->l.length<=L.length
 | [],_,_,_=>Pe _
 | a::l,L,nd,hm=>by
  rw [Qj] at nd;obtain⟨p,q,e⟩:=UG (hm a (by simp));have:=vD (l:=l) (L:=p++q) nd.2 λb hb=>by
   have hb':=hm b (by simp [hb]);rw [e] at hb';rcases OL.mp hb' with z | z
   ·exact R7 _ z
   ·rcases OA.mp z with z | z
    ·exact absurd (by rw [<-z];exact hb) nd.1
    ·exact Pq _ z
  rw [e,OH,Oz,Oz];rw [OH] at this;omega
theorem LV{ps:List Pp}(nd:(ps.map (·.nm)).Nodup):ps.Nodup:=by
 rw [SD,Px] at nd;exact nd.imp λh e=>h (by rw [e])
theorem LW{ps:List Pp}(nd:(ps.map (·.nm)).Nodup)(c:Pp):(fz ps c).Nodup:=((mB ps).nodup_iff.mpr (LV nd)).sublist Sd
theorem CV{ps:List Pp}{c p:Pp}(h:p∈fz ps c):p∈ps:=gQ.mp (Pa.mp h).1
theorem qQ.next{ps:List Pp}(nd:(ps.map (·.nm)).Nodup){c:Pp}{l:List Pp}(h:qQ ps c l)(d:Pp):qQ ps c (l++qj ps l d):=by
 refine⟨Tt.mpr ⟨h.nd,(LW nd d).sublist Sd,λa ha b hb e=>?_⟩,λp hp=>?_,?_⟩
 ·have:=(Pa.mp hb).2;rw [P6,<-SQ] at this;exact this (yk.mpr (by rw [<-e];exact ha))
 ·rcases OL.mp hp with z | z
  ·exact h.sb p z
  ·exact CV (Pa.mp z).1
 ·obtain⟨r,e⟩:=h.hd;exact⟨r++qj ps l d,by rw [e];rfl⟩
theorem CW{ps:List Pp}(nd:(ps.map (·.nm)).Nodup){c:Pp}:∀(f:Nat){l:List Pp}(i:Nat),qQ ps c l->qQ ps c (gX ps f l i)
 | 0,_,_,h=>h
 | f+1,l,i,h=>by
  rw [gX];split
  ·exact h
  ·exact CW nd f (i+1) (h.next nd _)
theorem LX{ps:List Pp}(nd:(ps.map (·.nm)).Nodup){c:Pp}(hc:c∈ps):qQ ps c (jG ps c):=CW nd _ _ ⟨by simp,by simpa using hc,[],rfl⟩
theorem LY{ps:List Pp}(g:p9 ps){c:Pp}(hc:c∈ps):vC (jG ps c):=by
 have h:=LX g.nd hc;have h1:=vD h.nd h.sb;have h2:=g.ln;exact⟨VH,λp hp=>⟨g.nm p (h.sb p hp),g.kd p (h.sb p hp)⟩⟩
theorem CY{ps:List Pp}(g:p9 ps){c:Pp}(hc:c∈ps):bV 3 c.enc:=by
 obtain⟨h1,h2⟩:=g.ms c hc;exact eO (bM (ft cp) (bM AM (bM (ft (g.nm c hc)) (bM (ft (g.kd c hc)) (bM (eO (n:=1) (uP h1)) fq)))))
def LZ:List VL->(VL->Prop)->Prop:=λds Q=>∃(xs:List De)(c:Pp),ds=[.tuple (xs.map De.enc),.str c.nm]/\jy xs/\c∈aD xs/\Q (.list ((jG (aD xs) c).map Pp.enc))
theorem L1(T:Txt K mg t):aF P w K mg base CX0 6 t.a_x15 t.d_x15 ["deeds","paper"] (ba K LZ):=by
 have G_x11:=xV (P:=P) (w:=w) (base:=base) T;have G_x13:=B4 (P:=P) (w:=w) (base:=base) T;refine T.F_x15.okD vg (λds Q h=>?_) (λcdv A outer s H O ds Q E hr h=>?_)
 ·obtain⟨xs,c,rfl,_⟩:=h;rfl
 ·obtain⟨xs,c,rfl,gd,hc,q⟩:=h;refine'⟨_,?body,?read⟩
  case body=>
   refine' aq ?s1 ?r1
   case s1=>exact(ia (i:=2) vg.nd rfl (by walk_at "o") (dN (aa (PE.imp (aR G_x11 (hr.mono VG) rfl T.m_x11 T.F_x11.kp T.b_x11 .nil aG (aa (dv 0) (aa (dv 1) ao))) aS) ao)))
   case' r1=>refine' aq ?s3 ?r3
   case s3=>exact(bw (i:=3) vg.nd rfl (by walk_at "o") ah)
   case' r3=>refine' aq ?s5 ?r5
   case s5=>
    refine' Jp Pz ?c6 ?b6
    case c6=>exact(aQ sG dO (df (dv 3)) (df (PE.imp (dq mN rfl T.n_len Rh (bu (dw 2) bC)) (bU ro))) (aM _))
    case' b6=>refine' aq ?s7 ?r7
    case s7=>exact(uW (i:=2) (pv 2) (d8 rfl CS (df (PE.imp (aR G_x13 (hr.mono VG) rfl T.m_x13 T.F_x13.kp T.b_x13 .nil aG (aa (dv 0) (aa (ar bj bq (dw 2) (df (dv 3))) ao))) aS)) aO bL VG (λ_ _ _ _=>(aL (i:=0) CS.nd rfl (by walk_at "o"))) (λ_ _ _ _=>(dJ (aQ (Ig hr) wB (df (dv 0)) (dw 1) rfl))) (λ_ _ _ _=>(dv 0))))
    case' r7=>refine' aA ?s9
    case s9=>exact(bw (i:=3) vg.nd rfl (by walk_at "o") (aH dY cQ (df (dv 3)) (df ah)))
   case' r5=>refine' aA ?s11
   case s11=>exact(sR (pv 2))
  case read=>
  clear hr T G_x11 G_x13;have nd:=gd.gp.nd;have pl:=gd.gp.ln;walk_at "rz";refine⟨xs,c,rfl,gd,hc,?_⟩;refine⟨λm δ=>∃(l:List Pp)(i f:Nat),qQ (aD xs) c l/\i<=l.length/\m+i=(aD xs).length/\(aD xs).length<=f+i/\gX (aD xs) f l i=jG (aD xs) c/\δ=[some (Sl.v (.tuple (xs.map De.enc))),some (Sl.v (.str c.nm)),some (Sl.o (l.map Pp.enc)),some (Sl.v (.int (i:Int)))],⟨(aD xs).length,[c],0,(aD xs).length,⟨by simp,by simpa using hc,[],rfl⟩,Pe _,VH,VH,rfl,rfl⟩,?_⟩;rintro m δ ⟨l,i,f,hl,hi,hm,hf,ef,rfl⟩;have ll:=vD hl.nd hl.sb;walk_at "rz";rw [Of];by_cases hlt:i < l.length
  ·rw [VJ VH];have hc':l[i]?=some l[i]:=OT hlt;have ho:=hl.next nd l[i];have lo:=vD ho.nd ho.sb;rw [OH] at lo;refine⟨_,gF (j:=i) (by rw [OD,hc'];rfl),xs,l[i],rfl,gd,hl.sb _ (Qy hlt),_,rfl,by rw [Of];have:=xX (c:=l[i]) gd.gp;omega,cY (λp=>!qi l p) Pp.enc (λp hp R S h=>?_) ?_⟩
   ·walk_at "rz";have ps:=CV hp;refine⟨(CY gd.gp ps).shp VG,(uM (n:=3) λd hd=>?_).1,by simpa [qi] using h⟩;obtain⟨p',hp',rfl⟩:=Oq.mp hd;exact CY gd.gp (hl.sb p' hp')
   ·have e:(QN (λp=>!qi l p) (fz (aD xs) l[i]))=qj (aD xs) l l[i]:=rfl;rw [e];cases f with
    | zero=>omega
    | succ f=>
     rw [gX,hc'] at ef;refine⟨by rw [Of];omega,m - 1,VH,_,ho,i+1,by rw [OH];omega,VH,f,VH,ef,by rw [OM],VH⟩
  ·rw [VI VH];rw [<-ef,LU VH] at q;exact q
end
end K78
open PySem L2
local macro_rules | `(tactic| walk_at "rzi") =>rzT (rzS++" Sl.i.injEq exists_and_left rG")
namespace K78
section
variable {P:VY} {w:VZ} {K:Oe} {mg:Str->Option VM} {base:V0} {t:cm}
theorem jH{f:Str}{d:VL}:∀{l:List (Str×VL)}{ks:List Str},l.map (·.1)=ks->ks.all (λk=>!(k==f))=true->cW f d l=l++[(f,d)]
 | [],_,_,_=>rfl
 | (g,x)::l,k::ks,h,hk=>by
  rw [Ol] at h;obtain⟨e1,e2⟩:=Tp h;rw [Q7,Pw] at hk;have e1:g=k:=e1;rw [cW,VI (λz=>by rw [<-e1,z] at hk;simp at hk),jH e2 hk.2];rfl
 | _::_,[],h,_=>by cases h
def ck:List Str:=[Od "day",Od "paper",Od "to_stay",Od "to_go",Od "bars",Od "leave"]
abbrev CZ(C:VO)(a b c d e f:VL):VL:=fh C (ck.map .str) [a,b,c,d,e,f]
def L3(C:VO):List VL->(VL->Prop)->Prop:=λds Q=>∃a b c d e f,ds=[a,b,c,d,e,f]/\Q (CZ C a b c d e f)
theorem L4(T:Txt K mg t):aF P w K mg base CX0 1 t.a_x32 t.d_x32 ["self","day","paper","to_stay","to_go","bars","leave"] (uZ K t.u_Look (L3 t.u_Look)):=by
 refine T.F_x32.okI Kz (λds Q h=>?_) (λcdv A outer s H H1 O ds Q E l hr h=>?_)
 ·obtain⟨a,b,c,d,e,f,rfl,_⟩:=h;rfl
 ·obtain⟨a,b,c,d,e,f,rfl,q⟩:=h;refine'⟨_,?body,?read⟩
  case body=>
   refine' aq ?s1 ?r1
   case s1=>exact(fx (C:=t.u_Look) (i:=0) T.cl_Look T.na_Look_day (pv 0) (dv 1))
   case' r1=>refine' aq ?s3 ?r3
   case s3=>exact(fx (C:=t.u_Look) (i:=0) T.cl_Look T.na_Look_paper (pv 0) (dv 2))
   case' r3=>refine' aq ?s5 ?r5
   case s5=>exact(fx (C:=t.u_Look) (i:=0) T.cl_Look T.na_Look_to_stay (pv 0) (dv 3))
   case' r5=>refine' aq ?s7 ?r7
   case s7=>exact(fx (C:=t.u_Look) (i:=0) T.cl_Look T.na_Look_to_go (pv 0) (dv 4))
   case' r7=>refine' aq ?s9 ?r9
   case s9=>exact(fx (C:=t.u_Look) (i:=0) T.cl_Look T.na_Look_bars (pv 0) (dv 5))
   case' r9=>refine' aA ?s11
   case s11=>exact(fx (C:=t.u_Look) (i:=0) T.cl_Look T.na_Look_leave (pv 0) (dv 6))
  case read=>
  clear hr T;simp only [u5,d9,Ol,PD,PN,PM,Ta,Oz,Pn,Qh,Qi,OX];walk_at "rzi";rw [jH (ks:=[]) rfl rfl,jH (ks:=ck.take 1) rfl cp,jH (ks:=ck.take 2) rfl cp,jH (ks:=ck.take 3) rfl cp,jH (ks:=ck.take 4) rfl cp,jH (ks:=ck.take 5) rfl cp];have lt:∀n:Nat,n < 10->n < 1000:=λn h=>by omega
  exact⟨lt 1 VG,lt 2 VG,lt 3 VG,lt 4 VG,lt 5 VG,q⟩
def iF:Option Str->VL
 | none=>.none
 | some s=>.str s
structure Lk where
 d:Int
 nm:Str
 st:List (Str×VL)
 go:List (Str×VL)
 bars:List VL
 lv:Option Str
def Lk.enc(C:VO)(k:Lk):VL:=CZ C (.int k.d) (.str k.nm) (.tuple (k.st.map cj)) (.tuple (k.go.map cj)) (.list k.bars) (iF k.lv)
def Lk.lets(k:Lk):Bool:=decide (0 < k.go.length) && decide (k.bars.length=0)
structure Ro where
 nm:Str
 d:Int
 lv:Option Str
def Ro.enc(r:Ro):VL:= .tuple [.str r.nm,.int r.d,iF r.lv]
def Lk.row(k:Lk):Ro:=⟨k.nm,k.d,k.lv⟩
def mG(k:Lk):Prop:=k.st.length<=41/\k.go.length<=41/\k.bars.length<=200
theorem L5{a b c d e f:VL}:aZ ck [a,b,c,d,e,f] (Od "day")=some a:=by simp [ck,aZ]
theorem L6{a b c d e f:VL}:aZ ck [a,b,c,d,e,f] (Od "paper")=some b:=by
 simp only [ck,aZ,VI (show Od "day"≠Od "paper" by decide+kernel),if_true]
theorem L7{a b c d e f:VL}:aZ ck [a,b,c,d,e,f] (Od "to_go")=some d:=by
 simp only [ck,aZ,VI (show Od "day"≠Od "to_go" by decide+kernel),VI (show Od "paper"≠Od "to_go" by decide+kernel),VI (show Od "to_stay"≠Od "to_go" by decide+kernel),if_true]
theorem L8{a b c d e f:VL}:aZ ck [a,b,c,d,e,f] (Od "bars")=some e:=by
 simp only [ck,aZ,VI (show Od "day"≠Od "bars" by decide+kernel),VI (show Od "paper"≠Od "bars" by decide+kernel),VI (show Od "to_stay"≠Od "bars" by decide+kernel),VI (show Od "to_go"≠Od "bars" by decide+kernel),if_true]
theorem L9{a b c d e f:VL}:aZ ck [a,b,c,d,e,f] (Od "leave")=some f:=by
 simp only [ck,aZ,VI (show Od "day"≠Od "leave" by decide+kernel),VI (show Od "paper"≠Od "leave" by decide+kernel),VI (show Od "to_stay"≠Od "leave" by decide+kernel),VI (show Od "to_go"≠Od "leave" by decide+kernel),VI (show Od "bars"≠Od "leave" by decide+kernel),if_true]
def Ma(C:VO):List VL->(VL->Prop)->Prop:=λds Q=>∃k:Lk,ds=[k.enc C]/\mG k/\Q (.bool k.lets)
theorem C0(T:Txt K mg t):aF P w K mg base CX0 1 t.a_x33 t.d_x33 ["self"] (ba K (Ma t.u_Look)):=by
 refine T.F_x33.okD KA (λds Q h=>?_) (λcdv A outer s H O ds Q E hr h=>?_)
 ·obtain⟨k,rfl,_⟩:=h;rfl
 ·obtain⟨k,rfl,⟨_,h1,h2⟩,q⟩:=h;refine'⟨_,?body,?read⟩
  case body=>
   refine' aA ?s1
   case' s1=>refine' aU ?e2
   case e2=>exact(uC (fF sH dO (df (PE.imp (dq mN rfl T.n_len Rh (bu (df (bZ (C:=t.u_Look) T.cl_Look T.na_Look_to_go (dv 0))) bC)) (bU ro))) (df ah) (aM _)) (wt (fF (dB hr.units) dD (df (PE.imp (dq mN rfl T.n_len Rh (bu (df (bZ (C:=t.u_Look) T.cl_Look T.na_Look_bars (dv 0))) bC)) (bU ro))) (df ah) (aM _))))
  case read=>
  clear hr T;simp only [Lk.enc];walk_at "rz";refine⟨ck,_,rfl,_,L7,_,.inr rfl,?_⟩;have q:Q (.bool (decide (0 < k.go.length) && decide (k.bars.length=0))):=q;rw [Of];by_cases h:0 < k.go.length
  ·rw [VJ VH];refine⟨ck,_,rfl,_,L8,_,.inl rfl,?_⟩;rw [decide_eq_true h,P9] at q;rw [show((k.bars.length:Int)==0)=decide (k.bars.length=0) by
    by_cases e:k.bars.length=0
    ·simp [e]
    ·rw [decide_eq_false e];simp;exact λz=>e (by rw [z];rfl)]
   exact q
  ·rw [VI VH];rw [decide_eq_false h,R1] at q;exact q
def Mb(C:VO):List VL->(VL->Prop)->Prop:=λds Q=>∃k:Lk,ds=[k.enc C]/\Q k.row.enc
theorem C1(T:Txt K mg t):aF P w K mg base CX0 1 t.a_x34 t.d_x34 ["self"] (ba K (Mb t.u_Look)):=by
 refine T.F_x34.okD KC (λds Q h=>?_) (λcdv A outer s H O ds Q E hr h=>?_)
 ·obtain⟨k,rfl,_⟩:=h;rfl
 ·obtain⟨k,rfl,q⟩:=h;refine'⟨_,?body,?read⟩
  case body=>
   refine' aA ?s1
   case' s1=>refine' aU ?e2
   case' e2=>refine' bD ?t3
   case' t3=>refine' aa ?u4 ?w4
   case u4=>exact(bZ (C:=t.u_Look) T.cl_Look T.na_Look_paper (dv 0))
   case' w4=>refine' aa ?u6 ?w6
   case u6=>exact(bZ (C:=t.u_Look) T.cl_Look T.na_Look_day (dv 0))
   case' w6=>refine' aa ?u8 ao
   case u8=>exact(bZ (C:=t.u_Look) T.cl_Look T.na_Look_leave (dv 0))
  case read=>
  clear hr T;simp only [Lk.enc];walk_at "rz";exact⟨ck,_,rfl,_,L6,ck,_,rfl,_,L5,ck,_,rfl,_,L9,q⟩
structure Rn where
 n:Int
 L:List (Str×Pt)
 hs:List Hd
 lvs:List Pp
 go:List (Str×Int)
 us:List Str
def jI(p:Pp):VL:= .tuple [.str (Od "leave"),.int p.d,.str p.nm,.str p.kd]
def Rn.fd(R:Rn):List (Str×VL):=[(Od "day",.int R.n),(Od "rules",.tuple (R.L.map di)),(Od "holds",.tuple (R.hs.map Hd.enc)),(Od "leaves",.list (R.lvs.map jI))]
def eX(go:List (Str×Int)):List (ak×VL):=go.map λp=>(P7 p.1,.int p.2)
def fB(us:List Str):List (ak×VL):=us.map λs=>(P7 s,.bool true)
def cq:List Str:=[Od "day",Od "rules",Od "holds",Od "leaves",Od "gone",Od "used"]
def Rn.gn(R:Rn):Gn:=⟨R.go.map (·.1),R.go.map (·.2)⟩
def Rn.enc(C:VO)(R:Rn):VL:=fh C (cq.map .str) [.int R.n,.tuple (R.L.map di),.tuple (R.hs.map Hd.enc),.list (R.lvs.map jI),R.gn.enc,fM R.us (R.us.map λ_=>.bool true)]
theorem Mc(C:VO)(R:Rn):xp C R.fd (R.go.map (·.1)) R.us (eX R.go) (fB R.us)=R.enc C:=by
 have e1:(eX R.go).map (·.2)=(R.go.map (·.2)).map OZ:=by unfold eX;rw [Ov,Ov];rfl
 have e2:(fB R.us).map (·.2)=R.us.map λ_=>.bool true:=by unfold fB;rw [Ov];rfl
 unfold xp;rw [e1,e2];rfl
theorem C3{a b c d e f:VL}:aZ cq [a,b,c,d,e,f] (Od "day")=some a/\aZ cq [a,b,c,d,e,f] (Od "rules")=some b/\aZ cq [a,b,c,d,e,f] (Od "holds")=some c/\aZ cq [a,b,c,d,e,f] (Od "leaves")=some d/\aZ cq [a,b,c,d,e,f] (Od "gone")=some e/\aZ cq [a,b,c,d,e,f] (Od "used")=some f:=by
 have h:∀{x y:Str}{p q:Option VL},x≠y->(if x=y then p else q)=q:=λh=>VI h;refine⟨?_,?_,?_,?_,?_,?_⟩
 ·simp [cq,aZ]
 ·simp only [cq,aZ,h (show Od "day"≠Od "rules" by decide+kernel),if_true]
 ·simp only [cq,aZ,h (show Od "day"≠Od "holds" by decide+kernel),h (show Od "rules"≠Od "holds" by decide+kernel),if_true]
 ·simp only [cq,aZ,h (show Od "day"≠Od "leaves" by decide+kernel),h (show Od "rules"≠Od "leaves" by decide+kernel),h (show Od "holds"≠Od "leaves" by decide+kernel),if_true]
 ·simp only [cq,aZ,h (show Od "day"≠Od "gone" by decide+kernel),h (show Od "rules"≠Od "gone" by decide+kernel),h (show Od "holds"≠Od "gone" by decide+kernel),h (show Od "leaves"≠Od "gone" by decide+kernel),if_true]
 ·simp only [cq,aZ,h (show Od "day"≠Od "used" by decide+kernel),h (show Od "rules"≠Od "used" by decide+kernel),h (show Od "holds"≠Od "used" by decide+kernel),h (show Od "leaves"≠Od "used" by decide+kernel),h (show Od "gone"≠Od "used" by decide+kernel),if_true]
structure qR (R:Rn):Prop where
 rl:iE R.L
 hd:tH R.hs
 ll:R.lvs.length<=41
 lk:∀p∈R.lvs,Om p.kd=true
theorem C4:∀(us:List Str)(z:Str),(aZ us (us.map λ_=>RT true) z).isSome=us.contains z
 | [],_=>rfl
 | u::us,z=>by
  rw [Ol,aZ,Td];by_cases h:u=z
  ·rw [VJ h,h];simp
  ·rw [VI h,C4 us z,bI (λe=>h e.symm),Qq]
def rW(R:Rn)(kd:Str)(p:Pp):Bool:=p.kd==kd && !R.us.contains p.nm
def jJ(R:Rn)(kd:Str):Option Str:=(R.lvs.find? (rW R kd)).map (·.nm)
def Md(C:VO):List VL->(VL->Prop)->Prop:=λds Q=>∃(R:Rn)(kd:Str),ds=[R.enc C,.str kd]/\qR R/\Om kd=true/\Q (iF (jJ R kd))
theorem Me(T:Txt K mg t):aF P w K mg base CX0 1 t.a_x37 t.d_x37 ["self","kind"] (ba K (Md t.u_Round)):=by
 refine T.F_x37.okD BQ (λds Q h=>?_) (λcdv A outer s H O ds Q E hr h=>?_)
 ·obtain⟨R,kd,rfl,_⟩:=h;rfl
 ·obtain⟨R,kd,rfl,g,hk,q⟩:=h;refine'⟨_,?body,?read⟩
  case body=>
   refine' aq ?s1 ?r1
   case s1=>
    refine' qA Pz rfl (bZ (C:=t.u_Round) T.cl_Round T.na_Round_leaves (dv 0)) ?a2 aO ?b2
    case a2=>exact(aL (i:=2) BQ.nd rfl (by walk_at "o"))
    case' b2=>refine' aA ?s3
    case' s3=>refine' bF ?c4 ?a4 bE
    case c4=>exact(PW.pt (fH (aQ (dB hr.units) dD (df (ar aC aI (df (dv 2)) (df ah))) (df (dv 1)) (aM _)) (fG (J4 hr.units (bZ (C:=t.u_Round) T.cl_Round T.na_Round_used (dv 0)) (ar aC aI (df (dv 2)) (df ah))))))
    case' a4=>refine' aA ?s5
    case s5=>exact(aU (ar aC aI (df (dv 2)) (df ah)))
   case r1=>refine' aA (aU fE)
  case read=>
  clear hr T;obtain⟨_,_,_,x4,_,x6⟩:=C3 (a:= .int R.n) (b:= .tuple (R.L.map di)) (c:= .tuple (R.hs.map Hd.enc)) (d:= .list (R.lvs.map jI)) (e:=R.gn.enc) (f:=fM R.us (R.us.map λ_=>.bool true));walk_at "rz";refine⟨cq,_,rfl,_,x4,_,rfl,?_⟩;refine⟨λi δ=>(∀p∈R.lvs.take i,rW R kd p=false)/\∃o2,δ=[some (Sl.v (R.enc t.u_Round)),some (Sl.v (.str kd)),o2],⟨by simp,_,rfl⟩,?_,?_⟩
  ·rintro i z δ hz ⟨hn,o2,rfl⟩;rw [OD] at hz;cases hz':R.lvs[i]? with
   | none=>rw [hz'] at hz;cases hz
   | some p=>
    rw [hz'] at hz;cases hz;have hp:=OY hz';have no:rW R kd p=false->∀p∈R.lvs.take (i+1),rW R kd p=false:=λh p' hp'=>by
     rw [Pk,hz'] at hp';rcases OL.mp hp' with z | z
     ·exact hn p' z
     ·have z:p'=p:=by simpa using z
      rw [z];exact h
    have yes:rW R kd p=true->Q (.str p.nm):=λh=>by
     have e:jJ R kd=some p.nm:=by
      unfold jJ;rw [show R.lvs=R.lvs.take i++p::R.lvs.drop (i+1) by
       have hi:=(OB.mp hz').1;rw [<-(OB.mp hz').2,<-Sj hi,SV]]
      rw [UO,Sw.mpr (λx hx=>by rw [hn x hx];simp),List.find?_cons_of_pos h];rfl
     rw [e] at q;exact q
    simp only [jI];walk_at "rz";refine⟨cH.mpr (g.lk p hp),cH.mpr hk,?_⟩;unfold rW at no yes;by_cases h1:(p.kd==kd)=true
    ·rw [VJ h1];rw [h1,P9] at no yes;refine⟨cq,_,rfl,_,x6,_,_,rfl,?_⟩;rw [C4];by_cases h2:R.us.contains p.nm=false
     ·rw [VJ h2];exact yes (by rw [h2];rfl)
     ·rw [VI h2];exact⟨no (by rw [UP] at h2;rw [h2];rfl),_,rfl⟩
    ·rw [VI h1];exact⟨no (by rw [SQ] at h1;rw [h1];rfl),_,rfl⟩
  ·rintro δ ⟨hn,o2,rfl⟩;rw [Of,O7 (Oj _)] at hn;walk_at "rz";have e:jJ R kd=none:=by
    unfold jJ;rw [Sw.mpr (λx hx=>by rw [hn x hx];simp)];rfl
   rw [e] at q;exact q
end
end K78
open PySem L2
local macro_rules | `(tactic| walk_at "rzr") =>rzT (rzS++" Sl.i.injEq exists_and_left rG")
namespace K78
theorem ym:bb (ag gM) ["self","paper","line","to_stay","to_go","asking","leave","bars"] ["rule","by"] 2 [] {kind:=Ou,names:=[ (Og ".0",PySem.NameKind.local),(Og "rule",PySem.NameKind.local),(Og "by",PySem.NameKind.local)],isGenerator:=false,isCoroutine:=false,more:=[]:O3}:=⟨rfl,cp,cp,cp,rfl,cp,cp,cp,rfl⟩
theorem C5:bb (ag gM) ["self","paper","line","to_stay","to_go","asking","leave","bars"] ["hold"] 1 [] {kind:=Ou,names:=[(Og ".0",PySem.NameKind.local),(Og "hold",PySem.NameKind.local)],isGenerator:=false,isCoroutine:=false,more:=[]:O3}:=⟨rfl,cp,cp,cp,rfl,cp,cp,cp,rfl⟩
theorem C6:bb (ag gM) ["self","paper","line","to_stay","to_go","asking","leave","bars"] ["rule"] 1 [] {kind:=Ou,names:=[(Og ".0",PySem.NameKind.local),(Og "rule",PySem.NameKind.local)],isGenerator:=false,isCoroutine:=false,more:=[]:O3}:=⟨rfl,cp,cp,cp,rfl,cp,cp,cp,rfl⟩
section
variable {P:VY} {w:VZ} {K:Oe} {mg:Str->Option VM} {base:V0} {t:cm}
def rX(z:Str×VL):VL:= .tuple [.str (Od "stays"),.str z.1,z.2]
def rY(h:Str):VL:= .tuple [.str (Od "held"),.str h]
def rZ(a:Str):VL:= .tuple [.str (Od "lacks"),.str a]
def eY(R:Rn)(kd:Str):Option Str:=if (fQ kd R.L).length=0 then none else jJ R kd
noncomputable def b5(R:Rn)(r:Rp)(line:List Pp):Lk where
 d:=R.n
 nm:=r.c.nm
 st:=eD r R.n R.gn R.L
 go:=gA r R.n R.gn R.L
 bars:=(eD r R.n R.gn R.L).map rX++(dW R.hs line).map rY++(if eY R r.c.kd=none then(fQ r.c.kd R.L).map rZ else [])
 lv:=eY R r.c.kd
theorem C7{kd:Str}{L:List (Str×Pt)}(h:iE L):(fQ kd L).length<=41:=by
 unfold fQ;rw [Of];exact O6 (Ph _ _) h.1
theorem C8{hs:List Hd}{line:List Pp}(h:tH hs):(dW hs line).length<=41:=by
 unfold dW;rw [Of];exact O6 (Ph _ _) h.1
theorem yo{r:Rp}{n:Int}{g:Gn}{L:List (Str×Pt)}(h:iE L):(eD r n g L).length<=41:=
 O6 (vz (λz=>yh _) _) (vA h).1
theorem Mf{r:Rp}{n:Int}{g:Gn}{L:List (Str×Pt)}(h:iE L):(gA r n g L).length<=41:=
 O6 (vz (λz=>yh _) _) (vA h).1
theorem C9{R:Rn}{r:Rp}{line:List Pp}(g:qR R):mG (b5 R r line):=by
 refine⟨yo g.rl,Mf g.rl,?_⟩;show(T5 (_++_++_))<=200;have h1:=yo (r:=r) (n:=R.n) (g:=R.gn) g.rl;have h2:=C8 (line:=line) g.hd;have h3:=C7 (kd:=r.c.kd) g.rl;rw [OH,OH,Of,Of];split
 ·rw [Of];omega
 ·simp only [Pn];omega
theorem Dc{a b c d e:VL}:aZ [Od "name",Od "coming",Od "kind",Od "makers",Od "happenings"] [a,b,c,d,e] (Od "name")=some a:=by simp [aZ]
theorem Mg:Od "unused" ∉ cq:=cp
def Mh(CR CP CL:VO):List VL->(VL->Prop)->Prop:=λds Q=>∃(R:Rn)(r:Rp)(line:List Pp),ds=[R.enc CR,r.enc CP,.list (line.map Pp.enc)]/\qR R/\gr r/\vC line/\Q ((b5 R r line).enc CL)
theorem Mi(T:Txt K mg t):aF P w K mg base CX0 8 t.a_x38 t.d_x38 ["self","paper","line"] (ba K (Mh t.u_Round t.u_Paper t.u_Look)):=by
 have G_x26:=Ly (P:=P) (w:=w) (base:=base) T;have G_x27:=Lz (P:=P) (w:=w) (base:=base) T;have G_x28:=LF (P:=P) (w:=w) (base:=base) T;have G_x37:=Me (P:=P) (w:=w) (base:=base) T;have G_x20:=LS (P:=P) (w:=w) (base:=base) T;have G_x32:=L4 (P:=P) (w:=w) (base:=base) T;refine T.F_x38.okD rL (λds Q h=>?_) (λcdv A outer s H O ds Q E hr h=>?_)
 ·obtain⟨R,r,line,rfl,_⟩:=h;rfl
 ·obtain⟨R,r,line,rfl,g,hr',lo,q⟩:=h;refine'⟨_,?body,?read⟩
  case body=>
   refine' aq ?s1 ?r1
   case s1=>
    refine' bw (i:=3) rL.nd rfl (by walk_at "o") ?e2 (hs:=qJ)
    case e2=>exact(PE.imp (aR G_x26 (hr.mono VG) rfl T.m_x26 T.F_x26.kp T.b_x26 .nil aG (aa (dv 1) (aa (bZ (C:=t.u_Round) T.cl_Round T.na_Round_rules (dv 0)) (aa (bZ (C:=t.u_Round) T.cl_Round T.na_Round_day (dv 0)) (aa (bZ (C:=t.u_Round) T.cl_Round T.na_Round_gone (dv 0)) ao))))) aS)
   case' r1=>refine' aq ?s4 ?r4
   case s4=>
    refine' bw (i:=4) rL.nd rfl (by walk_at "o") ?e5 (hs:=qJ)
    case e5=>exact(PE.imp (aR G_x27 (hr.mono VG) rfl T.m_x27 T.F_x27.kp T.b_x27 .nil aG (aa (dv 1) (aa (bZ (C:=t.u_Round) T.cl_Round T.na_Round_rules (dv 0)) (aa (bZ (C:=t.u_Round) T.cl_Round T.na_Round_day (dv 0)) (aa (bZ (C:=t.u_Round) T.cl_Round T.na_Round_gone (dv 0)) ao))))) aS)
   case' r4=>refine' aq ?s7 ?r7
   case s7=>exact(bw (i:=5) rL.nd rfl (by walk_at "o") (PE.imp (aR G_x28 (hr.mono VG) rfl T.m_x28 T.F_x28.kp T.b_x28 .nil aG (aa (bZ (C:=t.u_Paper) T.cl_Paper T.na_Paper_kind (dv 1)) (aa (bZ (C:=t.u_Round) T.cl_Round T.na_Round_rules (dv 0)) ao))) aS))
   case' r7=>refine' aq ?s9 ?r9
   case s9=>
    refine' bw (i:=6) rL.nd rfl (by walk_at "o") ?e10 (hs:=Iy)
    case e10=>exact(sQ (va (dv 5)) (PE.imp (zA (dv 0) T.cl_Round T.mt_Round_unused G_x37 (hr.mono VG) T.b_x37 .nil aG (aa (bZ (C:=t.u_Paper) T.cl_Paper T.na_Paper_kind (dv 1)) ao)) J7) fE)
   case' r9=>refine' aq ?s12 ?r12
   case s12=>exact(Bt (i:=7) rL.nd rfl (by walk_at "o") (qL rfl ym (df (dv 3)) (ic (cf aO (cf aO ib))) uY VG (λ_ _ _ _=>(g6 (n:=2) rfl (cc (aL (i:=0) ym.nd rfl (by walk_at "o")) (cc (aL (i:=1) ym.nd rfl (by walk_at "o")) gZ)))) (λ_ _ _ _=>cS) (λ_ _ _ _=>(bD (aa aY (aa (dv 0) (aa (dv 1) ao)))))))
   case' r12=>refine' aq ?s14 ?r14
   case s14=>exact(uW (i:=7) (pv 7) (kc rfl C5 (df (PE.imp (aR G_x20 (hr.mono VG) rfl T.m_x20 T.F_x20.kp T.b_x20 .nil aG (aa (bZ (C:=t.u_Round) T.cl_Round T.na_Round_holds (dv 0)) (aa (dv 2) ao))) aS)) aO bL VG (λ_ _ _ _=>(aL (i:=0) C5.nd rfl (by walk_at "o"))) (λ_ _ _ _=>cS) (λ_ _ _ _=>(bD (aa aY (aa (dv 0) ao))))))
   case' r14=>refine' aq ?s16 ?r16
   case s16=>
    refine' bF ?c17 ?a17 bE
    case c17=>exact(aQ sI tf (df (dv 6)) (df fE) (aM _))
    case' a17=>refine' aA ?s18
    case s18=>exact(uW (i:=7) (pv 7) (d8 rfl C6 (df (dv 5)) aO bL VG (λ_ _ _ _=>(aL (i:=0) C6.nd rfl (by walk_at "o"))) (λ_ _ _ _=>cS) (λ_ _ _ _=>(bD (aa aY (aa (dv 0) ao))))))
   case' r16=>refine' aA ?s20
   case' s20=>refine' Hv 7 ?z21
   case' z21=>refine' aU ?e22
   case e22=>exact(PE.imp (uf T.mk_Look G_x32 (hr.mono VG) rfl T.c_Look T.b_x32 .nil aG (aa (bZ (C:=t.u_Round) T.cl_Round T.na_Round_day (dv 0)) (aa (bZ (C:=t.u_Paper) T.cl_Paper T.na_Paper_name (dv 1)) (aa (dv 3) (aa (dv 4) (aa (dv 7) (aa (dv 6) ao))))))) wU)
  case read=>
  clear hr T G_x26 G_x27 G_x28 G_x37 G_x20 G_x32;obtain⟨x1,x2,x3,x4,x5,x6⟩:=C3 (a:= .int R.n) (b:= .tuple (R.L.map di)) (c:= .tuple (R.hs.map Hd.enc)) (d:= .list (R.lvs.map jI)) (e:=R.gn.enc) (f:=fM R.us (R.us.map λ_=>.bool true));have l1:=yo (r:=r) (n:=R.n) (g:=R.gn) g.rl;have l2:=C8 (line:=line) g.hd;have l3:=C7 (kd:=r.c.kd) g.rl;generalize hB:iT (h7 7 _) _=TB;have key:∀o,o=eY R r.c.kd->TB {nx:=λx=>Q RV,rt:=Q} [some (Sl.v (R.enc t.u_Round)),some (Sl.v (r.enc t.u_Paper)),some (Sl.v (.list (line.map Pp.enc))),some (Sl.v (.tuple ((eD r R.n R.gn R.L).map cj))),some (Sl.v (.tuple ((gA r R.n R.gn R.L).map cj))),some (Sl.v (.list ((fQ r.c.kd R.L).map .str))),some (Sl.v (iF o)),none]:=λo ho=>by
   subst hB;generalize hF:iY 7 _=TF;walk_at "rzr";refine⟨by rw [Of];omega,jz (λ_=>true) rX (λz hz R' S h1 _=>?_) ?_⟩
   ·simp only [cj];walk_at "rzr";exact h1 rfl
   ·rw [gm];refine⟨cq,_,rfl,_,x3,R.hs,line,rfl,g.hd,lo,_,rfl,by rw [Of];omega,jz (λ_=>true) rY (λz hz R' S h1 _=>?_) ?_⟩
    ·walk_at "rzr";exact h1 rfl
    ·rw [gm];have fin:∀bars,bars=(b5 R r line).bars->TF {nx:=λx=>Q RV,rt:=Q} [some (Sl.v (R.enc t.u_Round)),some (Sl.v (r.enc t.u_Paper)),some (Sl.v (.list (line.map Pp.enc))),some (Sl.v (.tuple ((eD r R.n R.gn R.L).map cj))),some (Sl.v (.tuple ((gA r R.n R.gn R.L).map cj))),some (Sl.v (.list ((fQ r.c.kd R.L).map .str))),some (Sl.v (iF o)),some (Sl.o bars)]:=λbars hb=>by
      subst hF;walk_at "rzr";refine⟨cq,_,rfl,_,x1,[Od "name",Od "coming",Od "kind",Od "makers",Od "happenings"],_,rfl,_,Dc,_,_,_,_,_,_,rfl,?_⟩;rw [hb,ho];exact q
     refine⟨by rw [Of,Of];omega,?_⟩;have eb:(b5 R r line).bars=(eD r R.n R.gn R.L).map rX++(dW R.hs line).map rY++(if eY R r.c.kd=none then(fQ r.c.kd R.L).map rZ else []):=rfl;rw [<-ho] at eb;cases o with
     | none=>
      rw [VJ (by rfl)];refine⟨by rw [Of];omega,jz (λ_=>true) rZ (λz hz R' S h1 _=>?_) ?_⟩
      ·walk_at "rzr";exact h1 rfl
      ·rw [gm];refine⟨by rw [OH,Of,Of,Of];omega,fin _ ?_⟩;rw [eb,VJ rfl]
     | some v=>
      rw [VI (by simp [dF,iF])];refine fin _ ?_;rw [eb,VI (by simp),Pg]
  walk_at "rzr";refine⟨cq,_,rfl,_,x2,cq,_,rfl,_,x1,cq,_,rfl,_,x5,r,R.L,R.n,R.gn,rfl,hr',g.rl,?_⟩;refine⟨cq,_,rfl,_,x2,cq,_,rfl,_,x1,cq,_,rfl,_,x5,r,R.L,R.n,R.gn,rfl,hr',g.rl,?_⟩;refine⟨[Od "name",Od "coming",Od "kind",Od "makers",Od "happenings"],_,rfl,_,vt,cq,_,rfl,_,x2,r.c.kd,R.L,rfl,hr'.2.1,g.rl,?_⟩;have key2:∀o,o=eY R r.c.kd->TB {nx:=λx=>Q RV,rt:=Q} [some (Sl.v (R.enc t.u_Round)),some (Sl.v (r.enc t.u_Paper)),some (Sl.v (.list (line.map Pp.enc))),some (Sl.v (.tuple ((eD r R.n R.gn R.L).map cj))),some (Sl.v (.tuple ((gA r R.n R.gn R.L).map cj))),some (Sl.v (.list ((fQ r.c.kd R.L).map .str))),some (Sl.v (iF o)),none]:=key;clear key;refine⟨_,rfl,?_⟩;unfold eY at key2;by_cases h0:(fQ r.c.kd R.L).length=0
  ·rw [VI (by rw [List.length_eq_zero_iff] at h0;rw [h0];simp)];exact key2 none (by rw [VJ h0])
  ·rw [VJ (by rw [List.isEmpty_eq_false_iff];intro z;exact h0 (by rw [<-Of (f:=Oi),z];rfl))];exact⟨cq,⟨_,rfl⟩,Mg,[Od "name",Od "coming",Od "kind",Od "makers",Od "happenings"],_,rfl,_,vt,R,r.c.kd,rfl,g,hr'.2.1,key2 _ (by rw [VI h0])⟩
end
end K78
open PySem L2
local macro_rules | `(tactic| walk_at "rd") =>rzT "vL yY zd zb za sA jO cJ tC qZ zi rI g8 rU zm tB yT yU yV yW yX vZ zw ub uh zx zy tT su tS zf Ha Hb Hc He Hf Hg Hh Hi iL iM gE L2.start Ol PD Oz Pn OX PN PM Pg Qh Qi Rq Q3 Q2 P5 Po Qn Qo PX exists_eq_left' exists_eq_left exists_and_left exists_and_right V.int.injEq V.bl.injEq V.str.injEq V.ref.injEq Pb and_true true_and Rr exists_const decide_eq_true_eq Rt Ru Q5 Q6 P6 decide_eq_false_iff_not and_assoc bt QA Qu QB L2.cxK L2.cmK or_true true_or"
local macro_rules | `(tactic| walk_at "rzr") =>rzT (rzS++" Sl.i.injEq Sl.r.injEq Sl.b.injEq exists_and_left rG xq xk xB ve")
namespace K78
theorem Dd:bb (ag jr) ["self","deeds","day","done","leaves","row"] ["deed","day"] 1 [2] {kind:=Ou,names:=[ (Og ".0",PySem.NameKind.local),(Og "deed",PySem.NameKind.local),(Og "day",OE)],isGenerator:=false,isCoroutine:=false,more:=[]:O3}:=⟨rfl,cp,cp,cp,rfl,cp,cp,cp,rfl⟩
section
variable {P:VY} {w:VZ} {K:Oe} {mg:Str->Option VM} {base:V0} {t:cm}
theorem Df(T:Txt K mg t):aF P w K mg base CX0 1 t.a_x36 t.d_x36 ["self","row"] (BD K t.u_Round):=by
 refine T.F_x36.ok KD (λvs H Q E h=>?_) (λcdv A outer s H vs Q E hr h=>?_)
 ·obtain⟨l,dx,fs,g,u,gv,uv,a,x,y,z,rfl,_⟩:=h;rfl
 ·obtain⟨l,dx,fs,g,u,gv,uv,a,x,y,z,rfl,hl,lg,lu,ne,hg,hu,sq,n1,n2,q⟩:=h;have un:=hr.units;refine⟨_,tP (wx (SA (Uo (by decide:1<=64) _) hr.units) (t9 (pv 0) rfl) (sN aC (pv 1) sr (λ_ _=>rfl)) (sN aC (pv 1) sr (λ_ _=>rfl)) rfl) (vM (ze (tO (Fe (sN aC (pv 1) sr (λ_ _=>rfl)))) (vM (wx (SA (Uo (by decide:1<=64) _) hr.units) (t9 (pv 0) rfl) (sN aC (pv 1) sr (λ_ _=>rfl)) yR rfl)) yZ)),?_⟩;have gl:l≠g:=λe=>by rw [e,hg] at hl;cases hl
  have tk:∀{H':Hp},(∀b o,H b=some o->b≠g->H' b=some o)->bz K H' a [.str x,y,z]:=λ{H'} k=>by
   rcases sq with(h | ⟨ob,h⟩) | h
   ·exact .inl (.inl (k _ _ h (λe=>by rw [e,hg] at h;cases h)))
   ·exact .inl (.inr ⟨ob,k _ _ h (λe=>by rw [e,hg] at h;cases h)⟩)
   ·exact .inr h
  simp only [vL,An];walk_at "rd";refine ur sq fk ⟨_,rfl,l,_,dx,fs,_,rfl,hl,T.cl_Round,T.na_Round_gone,lg,ur sq cT ⟨g,rfl,_,qG.k (k:= .inr x) hg n1,?_⟩⟩;have sq2:bz K (ai H g (.dK (putK gv (.inr x) y))) a [.str x,y,z]:=tk λb o e n=>by rw [az n];exact e
  simp only [yS];walk_at "rd";refine ur sq2 gJ ?_;rcases q with⟨rfl,q⟩ | ⟨s,rfl,q⟩
  ·exact q
  ·rw [VJ (λz=>nomatch z)];refine⟨_,rfl,l,_,dx,fs,_,rfl,by rw [az gl];exact hl,T.cl_Round,T.na_Round_used,lu,?_⟩;walk_at "rd";refine ur sq2 gJ ⟨_,qG.k (k:= .inr s) (by rw [az (Ne.symm ne)];exact hu) n2,q⟩
def iG(go:List (Str×Int))(k:Str)(d:Int):List (Str×Int):=if (go.any λp=>decide (p.1=k))=true then go.map (λp=>if p.1=k then(p.1,d) else p) else go++[(k,d)]
def qS(us:List Str)(s:Str):List Str:=if us.contains s=true then us else us++[s]
theorem Dg(go:List (Str×Int))(k:Str):((eX go).any λp=>decide (p.1=P7 k))=go.any λp=>decide (p.1=k):=by
 unfold eX;rw [R4];congr 1;funext p;simp only [P2,decide_eq_decide];exact i5
theorem Dh(go:List (Str×Int))(k:Str)(d:Int):fI (eX go) (.inr k) (.int d)=eX (iG go k d):=by
 unfold fI iG;rw [Dg];split
 ·unfold eX;rw [Ov,Ov];apply Pm;intro p _;simp only [P2];by_cases h:p.1=k
  ·rw [VJ (by rw [h]),VJ h]
  ·rw [VI (λe=>h (i5.mp e)),VI h]
 ·unfold eX;rw [OM];rfl
theorem Mj(us:List Str)(k:Str):((fB us).any λp=>decide (p.1=P7 k))=us.contains k:=by
 unfold fB;rw [R4]
 induction us with
 | nil=>rfl
 | cons u us ih=>
  rw [PQ,Td,ih];congr 1;simp only [P2];by_cases h:u=k
  ·rw [h];simp
  ·rw [decide_eq_false (λe=>h (i5.mp e)),bI (λe=>h e.symm)]
theorem Di(us:List Str)(k:Str):fI (fB us) (.inr k) (.bool true)=fB (qS us k):=by
 unfold fI qS;rw [Mj];split
 ·unfold fB;rw [Ov];apply Pm;intro p _;simp only [P2];split <;> rfl
 ·unfold fB;rw [OM];rfl
def bT(m:List (Str×Int)×List Str)(r:Ro):List (Str×Int)×List Str:=(iG m.1 r.nm r.d,match r.lv with
 | none=>m.2
 | some s=>qS m.2 s)
theorem Dj(go:List (Str×Int))(k:Str)(d:Int):(iG go k d).length<=go.length+1:=by
 unfold iG;split <;> simp
theorem Dk(us:List Str)(k:Str):(qS us k).length<=us.length+1:=by
 unfold qS;split <;> simp
theorem yp:∀(rs:List Ro)(m:List (Str×Int)×List Str),(rs.foldl bT m).1.length<=m.1.length+rs.length/\(rs.foldl bT m).2.length<=m.2.length+rs.length
 | [],m=>⟨Oj _,Oj _⟩
 | r::rs,m=>by
  obtain⟨h1,h2⟩:=yp rs (bT m r);have a:(bT m r).1.length<=m.1.length+1:=Dj _ _ _;have b:(bT m r).2.length<=m.2.length+1:=by
   unfold bT;cases r.lv with
   | none=>exact Qk _
   | some s=>exact Dk _ _
  rw [O4,Oz];exact⟨VH,VH⟩
def De.lv:De->Option Pp
 | .oth w d nm [.str kd]=>if (w==Od "leave")=true then some ⟨d,nm,kd,[]⟩ else none
 | _=>none
def sd(n:Int)(x:De):Bool:=x.w==Od "leave" && decide (x.d<=n)
def tI(xs:List De)(n:Int):List Pp:=bB ((xs.filterMap De.lv).filter λp=>decide (p.d<=n))
theorem Dm{n:Int}:∀{xs:List De},(∀d nm r,De.oth (Od "leave") d nm r∈xs->∃kd,r=[.str kd]/\Om kd=true)->(xs.filter (sd n)).map De.enc=((xs.filterMap De.lv).filter λp=>decide (p.d<=n)).map jI
 | [],_=>rfl
 | x::xs,h=>by
  have ih:=Dm (n:=n) (xs:=xs) λd nm r z=>h d nm r (OQ _ z);by_cases hw:x.w=Od "leave"
  ·cases x with
   | pap p=>exact absurd hw (by show Od "paper"≠_;decide+kernel)
   | oth w d nm r=>
    have hw:w=Od "leave":=hw;subst hw;obtain⟨kd,rfl,_⟩:=h d nm r O8;have e1:De.lv (.oth (Od "leave") d nm [.str kd])=some ⟨d,nm,kd,[]⟩:=by simp [De.lv]
    have e2:sd n (.oth (Od "leave") d nm [.str kd])=decide (d<=n):=by
     show((Od "leave"==Od "leave") && decide (d<=n))=_;rw [beq_self_eq_true,P9]
    rw [Pu,e1,PH,PH,e2];by_cases hd:d<=n
    ·rw [VJ (by simpa using hd),VJ (by simpa using hd),Ol,Ol,ih];rfl
    ·rw [VI (by simpa using hd),VI (by simpa using hd),ih]
  ·have e1:De.lv x=none:=by
    cases x with
    | pap p=>rfl
    | oth w d nm r=>
     unfold De.lv;split
     ·rename_i e;cases e;rw [bI (show w≠Od "leave" from hw),VI OF]
     ·rfl
   have e2:sd n x=false:=by unfold sd;rw [bI hw,R1]
   rw [Pu,e1,PH,e2,VI OF,ih]
theorem Ml{ps:List Pp}{ds:List VL}(nd:(ps.map (·.nm)).Nodup)(hp:ds.Perm (ps.map jI))(hs:ds.Pairwise λa b=>aT (gj a) (gj b)=true):ds=(bB ps).map jI:=by
 refine p8 (r:=λa b=>aT (gj a) (gj b)=true) (λa b z=>vo z) (hp.trans ((mB ps).map jI).symm) hs ?_;rw [Px];exact tw nd
theorem vE{xs:List De}{p:Pp}(h:p∈xs.filterMap De.lv):∃x∈xs,x= .oth (Od "leave") p.d p.nm [.str p.kd]:=by
 obtain⟨x,hx,e⟩:=RQ.mp h;cases x with
 | pap q=>cases e
 | oth w d nm r=>
  unfold De.lv at e;split at e
  ·rename_i e2;cases e2;split at e
   ·rename_i hw;cases e;exact⟨_,hx,by rw [eq_of_beq hw]⟩
   ·cases e
  ·cases e
theorem Dp:∀{xs:List De},xs.Nodup->(∀x∈xs,∀y∈xs,x.w=Od "leave"->y.w=Od "leave"->x.nm=y.nm->x=y)->((xs.filterMap De.lv).map (·.nm)).Nodup
 | [],_,_=>by simp
 | x::xs,nd,h=>by
  rw [Qj] at nd;have ih:=Dp nd.2 λa ha b hb=>h a (OQ _ ha) b (OQ _ hb);rw [Pu];cases e:De.lv x with
  | none=>exact ih
  | some p=>
   show(Pr (·.nm) (p::xs.filterMap De.lv)).Nodup;rw [Ol,Qj];refine⟨λhm=>?_,ih⟩;obtain⟨p',hp',en⟩:=Oq.mp hm;obtain⟨y,hy,ey⟩:=vE hp';obtain⟨x',hx',ex⟩:=vE (xs:=[x]) (p:=p) (by rw [Pu,e];simp);rw [OO] at hx';subst hx';have:=h x' O8 y (OQ _ hy) (by rw [ex];rfl) (by rw [ey];rfl) (by rw [ex,ey];exact en.symm);rw [this] at nd;exact nd.1 hy
noncomputable def cE(xs:List De)(n:Int)(rows:List Ro):Rn:=⟨n,gT xs n,rT xs n,tI xs n,(rows.foldl bT ([],[])).1,(rows.foldl bT ([],[])).2⟩
def Mm:List VL->List VL->(List (Str×VL)->List (ak×VL)->List (ak×VL)->Prop)->Prop:=λds es Q=>∃(xs:List De)(n:Int)(rows:List Ro),ds=[.tuple (xs.map De.enc),.int n]/\es=rows.map Ro.enc/\cn xs/\rows.length<=100000/\(qR (cE xs n rows)->Q (cE xs n rows).fd (eX (cE xs n rows).go) (fB (cE xs n rows).us))
theorem yq(R:Rn):fO (Od "mark") (R.fd.map (·.1))=true:=by
 show fO (Od "mark") [Od "day",Od "rules",Od "holds",Od "leaves"]=true;decide+kernel
theorem Mn(T:Txt K mg t):aF P w K mg base CX0 5 t.a_x35 t.d_x35 ["self","deeds","day","done"] (xy K t.u_Round Mm):=by
 have G_x17:=Lo (P:=P) (w:=w) (base:=base) T;have G_x18:=LQ (P:=P) (w:=w) (base:=base) T;have G_x9:=xT (P:=P) (w:=w) (base:=base) T;have G_x36:=Df (P:=P) (w:=w) (base:=base) T;refine T.F_x35.okRn xH (λds es Q h=>?_) (λcdv A outer s H H1 O ds es Q E l hr h0 hX h=>?_)
 ·obtain⟨xs,n,rows,rfl,_⟩:=h;rfl
 ·obtain⟨xs,n,rows,rfl,rfl,g,rl,q⟩:=h;refine'⟨_,?body,?read⟩
  case body=>
   refine' aq ?s1 ?r1
   case s1=>exact(fx (C:=t.u_Round) (i:=0) T.cl_Round T.na_Round_day (pv 0) (dv 2))
   case' r1=>refine' aq ?s3 ?r3
   case s3=>exact(fx (C:=t.u_Round) (i:=0) T.cl_Round T.na_Round_rules (pv 0) (PE.imp (aR G_x17 (hr.mono VG) rfl T.m_x17 T.F_x17.kp T.b_x17 .nil aG (aa (dv 1) (aa (dv 2) ao))) aS))
   case' r3=>refine' aq ?s5 ?r5
   case s5=>exact(fx (C:=t.u_Round) (i:=0) T.cl_Round T.na_Round_holds (pv 0) (PE.imp (aR G_x18 (hr.mono VG) rfl T.m_x18 T.F_x18.kp T.b_x18 .nil aG (aa (dv 1) (aa (dv 2) ao))) aS))
   case' r5=>refine' aq ?s7 ?r7
   case s7=>exact(kH (i:=4) xH.nd rfl (by walk_at "o") (qL rfl Dd (df (dv 1)) aO bL VG (λ_ _ _ _=>(aL (i:=0) Dd.nd rfl (by walk_at "o"))) (λ_ _ _ _=>(dJ (PW.pt (fH (aQ (cz hr) cA (df (ar aC aI (df (dv 0)) (df ah))) (df aY) (aM _)) (fG (aQ qt dO (df (ar aC aI (df (dv 0)) (df ah))) (df (dv 1)) (aM _))))))) (λ_ _ _ _=>(dv 0))))
   case' r7=>refine' aq ?s9 ?r9
   case s9=>exact(fx (C:=t.u_Round) (i:=0) T.cl_Round T.na_Round_leaves (pv 0) (fe (Bd gj rfl G_x9 (bf.in1 (bf.in1 (hr.mono VG))) T.b_x9 rfl T.m_x9 rfl T.n_sorted QD (bu (df (dv 4)) bC))))
   case' r9=>refine' Kf (C:=t.u_Round) (i:=0) T.cl_Round T.na_Round_gone T.na_Round_used (pv 0) (pv 0) ?r11
   case' r11=>refine' aA ?s12
   case' s12=>refine' Kg (j:=3) h0 Pz rfl (pv 3) ?a13 aO ?b13
   case a13=>exact(aL (i:=5) xH.nd rfl (by walk_at "o"))
   case' b13=>refine' aA ?s14
   case s14=>exact(BE (C:=t.u_Round) (i:=0) hX (pv 0) T.cl_Round T.mt_Round_mark G_x36 (hr.mono VG) T.b_x36 aG (dv 5))
  case read=>
  clear hr T G_x17 G_x18 G_x9 G_x36 h0 hX;simp only [xA,pQ,Ol,PD,PN,PM,Ta,Oz,Pn,Qh,Qi,OX];have f1:∀a,cW (Od "day") a []=[(Od "day",a)]:=λa=>rfl;have f2:∀a b,cW (Od "rules") b [(Od "day",a)]=[(Od "day",a),(Od "rules",b)]:=λa b=>jH (ks:=[Od "day"]) rfl cp;have f3:∀a b c,cW (Od "holds") c [(Od "day",a),(Od "rules",b)]=[(Od "day",a),(Od "rules",b),(Od "holds",c)]:=λa b c=>jH (ks:=[Od "day",Od "rules"]) rfl cp;have f4:∀a b c d,cW (Od "leaves") d [(Od "day",a),(Od "rules",b),(Od "holds",c)]=[(Od "day",a),(Od "rules",b),(Od "holds",c),(Od "leaves",d)]:=λa b c d=>jH (ks:=[Od "day",Od "rules",Od "holds"]) rfl cp;have lt:∀n:Nat,n < 10->n < 1000:=λn h=>by omega
  have lt9:∀n:Nat,n < 10->n < 900:=λn h=>by omega
  have xl:=g.gd.gx.ln;generalize hB:ve _ _ _=TB;walk_at "rzr";simp only [f1,f2,f3,f4];refine⟨xs,n,rfl,g.gd,λh1 h2=>⟨lt 1 VG,xs,n,rfl,g,λh3=>⟨lt 2 VG,by rw [Of];omega,cY (sd n) De.enc (λx hx R S h=>?_) ?_⟩⟩⟩
  ·have h:if (x.w==Od "leave")=true then(if x.d<=n then R x.enc else S) else S:=by
    unfold sd at h;by_cases e1:(x.w==Od "leave")=true
    ·rw [VJ e1];rw [e1,P9] at h;by_cases e2:x.d<=n
     ·rw [VJ e2];rw [VJ (by simpa using e2)] at h;exact h
     ·rw [VI e2];rw [VI (by simpa using e2)] at h;exact h
    ·rw [VI e1];rw [SQ] at e1;rw [e1,R1,VI OF] at h;exact h
   cases x <;> simp only [De.enc,De.w,De.d,Pp.enc] at h⊢<;> walk_at "rzr" <;> exact h
  ·rw [Dm g.le];have nd:(((xs.filterMap De.lv).filter λp=>decide (p.d<=n)).map (·.nm)).Nodup:=(Dp g.gd.nd g.lv).sublist (Sd.map _);have ll:((xs.filterMap De.lv).filter λp=>decide (p.d<=n)).length<=41:=by
    have a:=Ph (λp:Pp=>decide (p.d<=n)) (xs.filterMap De.lv);have b:=TN De.lv xs;omega
   refine⟨λd hd R z=>?_,by rw [Of];omega,?_,λds' h5 h6=>⟨lt 3 VG,?_,lt9 4 VG,λga ua=>?_⟩⟩
   ·obtain⟨p,hp,rfl⟩:=Oq.mp hd;exact⟨.oth (Od "leave") p.d p.nm [.str p.kd],rfl,z⟩
   ·rw [Ov];exact B3 nd
   ·show fO (Od "mark") [Od "day",Od "rules",Od "holds",Od "leaves"]=true;decide+kernel
   ·rw [Ml nd h5 h6];have g5:qR (cE xs n rows):=by
     refine⟨LG g.gd h1 h2,h3,?_,λp hp=>?_⟩
     ·show(bB _).length<=41;rw [iz];exact ll
     ·have hp:=(Pa.mp (gQ.mp hp)).1;obtain⟨x,hx,e⟩:=vE hp;obtain⟨kd,e2,h⟩:=g.le p.d p.nm [.str p.kd] (by rw [<-e];exact hx);simp only [Pb,P4,and_true] at e2;rw [e2];exact h
    have q:=q g5;subst hB;walk_at "rzr";refine⟨λi δ=>∃o5,δ=[some (Sl.r l t.u_Round ga ua (cE xs n rows).fd (eX ((rows.take i).foldl bT ([],[])).1) (fB ((rows.take i).foldl bT ([],[])).2)),some (Sl.v (OW (Pr De.enc xs))),some (Sl.v (OZ n)),some (Sl.b (Pr Ro.enc rows)),some (Sl.v (QF (((xs.filterMap De.lv).filter λp=>decide (p.d<=n)).map jI))),o5],⟨none,rfl⟩,?_,?_⟩
    ·rintro i z δ hz ⟨o5,rfl⟩;rw [OD] at hz;cases hz':rows[i]? with
     | none=>rw [hz'] at hz;cases hz
     | some r=>
      rw [hz'] at hz;cases hz;have ts:(rows.take (i+1)).foldl bT ([],[])=bT ((rows.take i).foldl bT ([],[])) r:=by
       rw [Pk,hz',RB];rfl
      obtain⟨m1,m2⟩:=yp (rows.take i) ([],[]);rw [PF] at m1 m2;simp only [Pn] at m1 m2;simp only [ts,Ro.enc];walk_at "rzr";generalize hM:(rows.take i).foldl bT ([],[])=M at m1 m2;refine⟨rfl,yq _,by unfold eX;rw [Of];omega,by unfold fB;rw [Of];omega,?_⟩;have e1:(bT M r).1=iG M.1 r.nm r.d:=rfl;rw [e1,Dh];cases hv:r.lv with
      | none=>
       have e2:(bT M r).2=M.2:=by unfold bT;rw [hv]
       rw [e2];exact .inl ⟨rfl,rfl,rfl,_,rfl⟩
      | some v=>
       have e2:(bT M r).2=qS M.2 v:=by unfold bT;rw [hv]
       rw [e2];exact .inr ⟨v,rfl,rfl,Di _ _,_,rfl⟩
    ·rintro δ ⟨o5,rfl⟩;rw [Of,O7 (Oj _)];exact⟨_,_,_,_,_,rfl,q⟩
end
end K78
open PySem L2
local macro_rules | `(tactic| walk_at "rzr") =>rzT (rzS++" Sl.i.injEq Sl.r.injEq Sl.b.injEq exists_and_left rG xq xk xB ve BG xt BH")
namespace K78
theorem Dq:bb (ag js) ["deeds"] ["name","deeds"] 1 [0] {kind:=Ou,names:=[ (Og ".0",PySem.NameKind.local),(Og "name",PySem.NameKind.local),(Og "Paper",O9),(Og "line_of",O9),(Og "deeds",OE)],isGenerator:=false,isCoroutine:=false,more:=[]:O3}:=⟨rfl,cp,cp,cp,rfl,cp,cp,cp,rfl⟩
section
variable {P:VY} {w:VZ} {K:Oe} {mg:Str->Option VM} {base:V0} {t:cm}
theorem Mo(T:Txt K mg t):t.u_Look≠t.u_Round:=λe=>by
 have h1:=T.mk_Look.init;have h2:=T.mk_Round.init;rw [e,h2] at h1;have h3:t.a_x35=t.a_x32:=by injection h1 with h1;injection h1 with h1;injection h1
 obtain⟨_,_,_,_,_,_,_,_,_,e1,k1,_⟩:=T.F_x32.ex;obtain⟨_,_,_,_,_,_,_,_,_,e2,k2,_⟩:=T.F_x35.ex;rw [<-h3,k2] at k1;simp only [PX,Obj.mk.injEq,Data.func.injEq] at k1;have h4:t.d_x35=t.d_x32:=k1.2.2.1;rw [e1,e2] at h4;have h5:("Round.__init__":Str)="Look.__init__":=congrArg FuncData.qualname h4;exact absurd h5 cp
abbrev Sf:=Rp×List Pp
def Sf.enc(C:VO)(s:Sf):VL:= .tuple [s.1.enc C,.list (s.2.map Pp.enc)]
noncomputable def dG(xs:List De):List Sf:=(bB (aD xs)).map λc=>(eV xs c,jG (aD xs) c)
def Ds(s:Sf):Prop:=gr s.1/\vC s.2
def Mp(C:VO):List VL->(VL->Prop)->Prop:=λds Q=>∃xs:List De,ds=[.tuple (xs.map De.enc)]/\gS xs/\((∀s∈dG xs,Ds s)->Q (.list ((dG xs).map (Sf.enc C))))
theorem Mq(T:Txt K mg t):aF P w K mg base CX0 9 t.a_x39 t.d_x39 ["deeds"] (ba K (Mp t.u_Paper)):=by
 have G_x8:=B6 (P:=P) (w:=w) (base:=base) T;have G_x12:=xW (P:=P) (w:=w) (base:=base) T;have G_x15:=L1 (P:=P) (w:=w) (base:=base) T;refine T.F_x39.okD KH (λds Q h=>?_) (λcdv A outer s H O ds Q E hr h=>?_)
 ·obtain⟨xs,rfl,_⟩:=h;rfl
 ·obtain⟨xs,rfl,gd,q⟩:=h;refine'⟨_,?body,?read⟩
  case body=>
   refine' aA ?s1
   case' s1=>refine' aU ?e2
   case' e2=>refine' fe ?f3
   case f3=>exact(kc rfl Dq (df (PE.imp (aR G_x12 (hr.mono VG) rfl T.m_x12 T.F_x12.kp T.b_x12 .nil aG (aa (dv 0) ao)) aS)) aO bL VG (λ_ _ _ _=>(aL (i:=0) Dq.nd rfl (by walk_at "o"))) (λ_ _ _ _=>cS) (λ_ _ _ _=>(bD (aa (PE.imp (uf T.mk_Paper G_x8 (hr.mono VG) rfl T.c_Paper T.b_x8 .nil aG (aa (dv 1) (aa (dv 0) ao))) wU) (aa (PE.imp (aR G_x15 (hr.mono VG) rfl T.m_x15 T.F_x15.kp T.b_x15 .nil aG (aa (dv 1) (aa (dv 0) ao))) aS) ao)))))
  case read=>
  clear hr T G_x8 G_x12 G_x15;walk_at "rz";have ln:=gd.gx.ln;have ol:=iz (ps:=aD xs);have pl:=gd.gx.gp.ln;refine⟨xs,rfl,gd.gx,_,rfl,by rw [Of,Of];omega,?_⟩;refine⟨λi acc=>acc=((bB (aD xs)).take i).map (λc=>Sf.enc t.u_Paper (eV xs c,jG (aD xs) c))/\∀c∈(bB (aD xs)).take i,gr (eV xs c),⟨rfl,by simp⟩,?_,?_⟩
  ·rintro i z acc hz ⟨rfl,hh⟩;rw [OD,OD] at hz;cases hz':(bB (aD xs))[i]? with
   | none=>rw [hz'] at hz;cases hz
   | some c=>
    rw [hz'] at hz;cases hz;walk_at "rz";have hc:=gQ.mp (OY hz');refine⟨xs,c,rfl,gd,hc,λh1 h2 h3=>⟨xs,c,rfl,gd.gx,hc,?_,λc' hc'=>?_⟩⟩
    ·rw [Pk,hz',OM];rfl
    ·rw [Pk,hz'] at hc';rcases OL.mp hc' with y | y
     ·exact hh c' y
     ·have y:c'=c:=by simpa using y
      rw [y];exact Cm gd hc h1 h3
  ·rintro acc ⟨rfl,hh⟩;simp only [Of,U3] at hh⊢;have e:(bB (aD xs)).map (λc=>Sf.enc t.u_Paper (eV xs c,jG (aD xs) c))=(dG xs).map (Sf.enc t.u_Paper):=by unfold dG;rw [Ov];rfl
   rw [e];refine q λs hs=>?_;obtain⟨c,hc,rfl⟩:=Oq.mp hs;exact⟨hh c hc,LY gd.gx.gp (gQ.mp hc)⟩
abbrev dX:=List (Str×Int)×List Str
def gB(go:List (Str×Int))(z:Str):Bool:=go.any λp=>decide (p.1=z)
def Rn.at(R:Rn)(m:dX):Rn:={R with go:=m.1,us:=m.2}
noncomputable def cF(R:Rn)(st:dX×List Lk)(s:Sf):dX×List Lk:=
 if (decide (s.1.c.d<=R.n) && !gB st.1.1 s.1.c.nm)=true then((if (b5 (R.at st.1) s.1 s.2).lets=true then bT st.1 (b5 (R.at st.1) s.1 s.2).row else st.1),st.2++[b5 (R.at st.1) s.1 s.2]) else st
noncomputable def iH(R:Rn)(ss:List Sf):dX×List Lk:=ss.foldl (cF R) ((R.go,R.us),[])
noncomputable def jK(xs:List De)(n:Int)(rows:List Ro)(ss:List Sf):List Lk:=(iH (cE xs n rows) ss).2
theorem yt:∀{ds:List VL},(∀d∈ds,cC d=true)->fy ds=true
 | [],_=>rfl
 | d::ds,h=>by
  rw [fy,h d O8,yt λx hx=>h x (OQ _ hx)];rfl
theorem Du(o:Option Int):cC (bN o)=true:=by cases o <;> rfl
theorem Mr(o:Option Str):cC (iF o)=true:=by cases o <;> rfl
theorem Ms{r:Rp}{n:Int}{g:Gn}{pt:Pt}{d:VL}(h:jD r n g pt=some d):cC d=true:=by
 cases pt with
 | two w kd=>
  simp only [jD] at h;split at h
  ·rw [QM] at h;obtain⟨s,_,rfl⟩:=h;rfl
  ·cases h
 | five w kd s k u=>
  simp only [jD] at h;split at h
  ·cases h;exact Du _
  ·cases h
theorem Mt{r:Rp}{n:Int}{g:Gn}{pt:Pt}{d:VL}(h:jE r n g pt=some d):cC d=true:=by
 cases pt with
 | two w kd=>
  simp only [jE] at h;split at h
  ·rw [QM] at h;obtain⟨s,_,rfl⟩:=h;rfl
  ·cases h
 | five w kd s k u=>
  simp only [jE] at h;split at h
  ·cases h;exact Du _
  ·cases h
theorem Dv{r:Rp}{n:Int}{g:Gn}{L:List (Str×Pt)}{z:Str×VL}(h:z∈eD r n g L):cC z.2=true:=by
 obtain⟨y,_,hy⟩:=SR.mp h;unfold vv at hy;rw [UQ,QM] at hy;obtain⟨b,hb,rfl⟩:=hy;exact Ms hb
theorem Mu{r:Rp}{n:Int}{g:Gn}{L:List (Str×Pt)}{z:Str×VL}(h:z∈gA r n g L):cC z.2=true:=by
 obtain⟨y,_,hy⟩:=SR.mp h;unfold vw at hy;rw [UQ,QM] at hy;obtain⟨b,hb,rfl⟩:=hy;exact Mt hb
theorem Dw{l:List (Str×VL)}(h:∀z∈l,cC z.2=true):fy (l.map cj)=true:=yt λd hd=>by
 obtain⟨z,hz,rfl⟩:=Oq.mp hd;show(true && (cC z.2 && true))=true;rw [h z hz];rfl
theorem Mv{CR CL:VO}(ne:CL≠CR)(R:Rn)(r:Rp)(line:List Pp):xi CR ((b5 R r line).enc CL):=by
 refine .inr ⟨CL,_,_,ne,rfl,?_⟩;have h1:fy ((eD r R.n R.gn R.L).map cj)=true:=Dw λz hz=>Dv hz;have h2:fy ((gA r R.n R.gn R.L).map cj)=true:=Dw λz hz=>Mu hz;have h3:fy (b5 R r line).bars=true:=yt λd hd=>by
  have hd:d∈(eD r R.n R.gn R.L).map rX++(dW R.hs line).map rY++(if eY R r.c.kd=none then(fQ r.c.kd R.L).map rZ else []):=hd;rcases OL.mp hd with hd | hd
  ·rcases OL.mp hd with hd | hd
   ·obtain⟨z,hz,rfl⟩:=Oq.mp hd;show(true && (true && (cC z.2 && true)))=true;rw [Dv hz];rfl
   ·obtain⟨z,hz,rfl⟩:=Oq.mp hd;rfl
  ·split at hd
   ·obtain⟨z,hz,rfl⟩:=Oq.mp hd;rfl
   ·cases hd
 show(true && (true && (fy ((eD r R.n R.gn R.L).map cj) && (fy ((gA r R.n R.gn R.L).map cj) && (fy (b5 R r line).bars && (cC (iF (b5 R r line).lv) && true))))))=true;rw [h1,h2,h3,Mr];rfl
theorem Mw(R:Rn)(st:dX×List Lk)(s:Sf):(cF R st s).1.1.length<=st.1.1.length+1/\(cF R st s).1.2.length<=st.1.2.length+1/\(cF R st s).2.length<=st.2.length+1:=by
 unfold cF;split
 ·refine⟨?_,?_,by simp⟩
  ·show(if _ then _ else _:dX).1.length<=_;split
   ·exact Dj _ _ _
   ·exact Qk _
  ·show(if _ then _ else _:dX).2.length<=_;split
   ·unfold bT;cases (b5 (R.at st.1) s.1 s.2).row.lv with
    | none=>exact Qk _
    | some v=>exact Dk _ _
   ·exact Qk _
 ·exact⟨Qk _,Qk _,Qk _⟩
theorem yu(R:Rn):∀(ss:List Sf)(st:dX×List Lk),(ss.foldl (cF R) st).1.1.length<=st.1.1.length+ss.length/\(ss.foldl (cF R) st).1.2.length<=st.1.2.length+ss.length/\(ss.foldl (cF R) st).2.length<=st.2.length+ss.length
 | [],st=>⟨Oj _,Oj _,Oj _⟩
 | s::ss,st=>by
  obtain⟨h1,h2,h3⟩:=yu R ss (cF R st s);obtain⟨a1,a2,a3⟩:=Mw R st s;rw [O4,Oz];exact⟨VH,VH,VH⟩
theorem Dx(R:Rn)(g:qR R):∀(ss:List Sf)(st:dX×List Lk),(∀k∈st.2,mG k)->∀k∈(ss.foldl (cF R) st).2,mG k
 | [],st,h=>h
 | s::ss,st,h=>by
  rw [O4];refine Dx R g ss _ λk hk=>?_;unfold cF at hk;split at hk
  ·rcases OL.mp hk with z | z
   ·exact h k z
   ·rw [OO] at z;rw [z];exact C9 ⟨g.rl,g.hd,g.ll,g.lk⟩
  ·exact h k hk
theorem Mx(go:List (Str×Int))(z:Str):(fu (eX go) (.inr z)).isSome=gB go z:=by
 unfold fu gB;rw [SG,<-Dg,SY,List.find?_isSome,Rc]
theorem My(R:Rn):fO (Od "look") (R.fd.map (·.1))=true:=by
 show fO (Od "look") [Od "day",Od "rules",Od "holds",Od "leaves"]=true;decide+kernel
theorem Dy:Od "lets_go" ∉ ck:=cp
theorem Dz:Od "as_row" ∉ ck:=cp
def Mz(xs:List De)(ss:List Sf)(n:Int)(rows:List Ro)(l CR CP CL ga ua:VO)(R:Rn)(st:dX×List Lk)(δ:Dl):Prop:=∃(o6 o7 o8:Option Sl),δ=[some (Sl.v (OW (Pr De.enc xs))),some (Sl.v (QF (Pr (Sf.enc CP) ss))),some (Sl.v (OZ n)),some (Sl.b (Pr Ro.enc rows)),some (Sl.r l CR ga ua R.fd (eX st.1.1) (fB st.1.2)),some (Sl.o (st.2.map (Lk.enc CL))),o6,o7,o8]
def MA(CP CL:VO):List VL->List VL->(VL->Prop)->Prop:=λds es Q=>∃(xs:List De)(ss:List Sf)(n:Int)(rows:List Ro),ds=[.tuple (xs.map De.enc),.list (ss.map (Sf.enc CP)),.int n]/\es=rows.map Ro.enc/\cn xs/\rows.length<=100000/\ss.length<=41/\(∀s∈ss,Ds s)/\((∀k∈jK xs n rows ss,mG k)->Q (.list ((jK xs n rows ss).map (Lk.enc CL))))
theorem MB(T:Txt K mg t):aF P w K mg base CX0 9 t.a_x40 t.d_x40 ["deeds","shelf","day","done"] (xv K (MA t.u_Paper t.u_Look)):=by
 have G_x35:=Mn (P:=P) (w:=w) (base:=base) T;have G_x36:=Df (P:=P) (w:=w) (base:=base) T;have G_x38:=Mi (P:=P) (w:=w) (base:=base) T;have G_x33:=C0 (P:=P) (w:=w) (base:=base) T;have G_x34:=C1 (P:=P) (w:=w) (base:=base) T;have two:=Mo T;refine T.F_x40.okB rM (λds es Q h=>?_) (λcdv A outer s H O ds es Q E hr h0 h=>?_)
 ·obtain⟨xs,ss,n,rows,rfl,_⟩:=h;rfl
 ·obtain⟨xs,ss,n,rows,rfl,rfl,g,rl,sl,so,q⟩:=h;have hX:∀b,H b=none->∀o z,H b≠some (.frz o z):=λb hb o z e=>by
   rw [hb] at e;cases e
  refine'⟨_,?body,?read⟩
  case body=>
   refine' aq ?s1 ?r1
   case s1=>exact(Ke (C:=t.u_Round) (i:=4) (j:=3) rM.nd rfl (by walk_at "o") T.mk_Round G_x35 (hr.mono VG) rfl T.c_Round T.b_x35 aG (dv 0) (dv 2) (pv 3))
   case' r1=>refine' aq ?s3 ?r3
   case s3=>exact(ia (i:=5) rM.nd rfl (by walk_at "o") (dN ao))
   case' r3=>refine' aq ?s5 ?r5
   case s5=>
    refine' qA Pz rfl (dv 1) ?a6 (ic (cf aO (cf aO ib))) ?b6
    case a6=>exact(g6 (n:=2) rfl (cc (aL (i:=6) rM.nd rfl (by walk_at "o")) (cc (aL (i:=7) rM.nd rfl (by walk_at "o")) gZ)))
    case' b6=>refine' aA ?s7
    case' s7=>refine' bF ?c8 ?a8 bE
    case c8=>exact(PW.pt (fH (aQ qt dO (df (bZ (C:=t.u_Paper) T.cl_Paper T.na_Paper_coming (dv 6))) (df (dv 2)) (aM _)) (fG (Kc (C:=t.u_Round) (i:=4) hr.units T.cl_Round T.na_Round_gone (pv 4) (bZ (C:=t.u_Paper) T.cl_Paper T.na_Paper_name (dv 6))))))
    case' a8=>refine' aq ?s9 ?r9
    case s9=>exact(bw (i:=8) rM.nd rfl (by walk_at "o") (PE.imp (zA (pv 4) T.cl_Round T.mt_Round_look G_x38 (hr.mono VG) T.b_x38 .nil aG (aa (dv 6) (aa (dv 7) ao))) Ka))
    case' r9=>refine' aq ?s11 ?r11
    case s11=>exact(j0 (i:=5) (pv 5) (dv 8))
    case' r11=>refine' aA ?s13
    case' s13=>refine' bF ?c14 ?a14 bE
    case c14=>exact(qw (PE.imp (ue (dv 8) T.cl_Look T.mt_Look_lets_go G_x33 (hr.mono VG) T.b_x33 .nil aG) vc))
    case' a14=>refine' aA ?s15
    case s15=>exact(BE (C:=t.u_Round) (i:=4) hX (pv 4) T.cl_Round T.mt_Round_mark G_x36 (hr.mono VG) T.b_x36 aG (PE.imp (ue (dv 8) T.cl_Look T.mt_Look_as_row G_x34 (hr.mono VG) T.b_x34 .nil aG) vc))
   case' r5=>refine' aA ?s17
   case s17=>exact(sR (pv 5))
  case read=>
  clear hr T G_x35 G_x36 G_x38 G_x33 G_x34 h0 hX;simp only [pQ,Ol,PD,PN,PM,Ta,Oz,Pn,Qh,Qi,OX];walk_at "rzr";refine⟨xs,n,rows,rfl,rfl,g,rl,λgR l ga ua=>?_⟩;have q:Q (.list ((iH (cE xs n rows) ss).2.map (Lk.enc t.u_Look))):=q (Dx _ gR ss _ (λk hk=>nomatch hk));obtain⟨m1,m2⟩:=yp rows ([],[]);have m1:(cE xs n rows).go.length<=100000:=by
   have:(cE xs n rows).go.length<=0+rows.length:=m1;omega
  have m2:(cE xs n rows).us.length<=100000:=by
   have:(cE xs n rows).us.length<=0+rows.length:=m2;omega
  generalize hE:hW.mk _ _ _ _=EE;have eN:EE.nx=hZ 5 {nx:=λx=>Q RV,rt:=Q}:=by rw [<-hE]
  have hn:(cE xs n rows).n=n:=rfl;clear hE rl;generalize cE xs n rows=R at*;refine⟨λi=>Mz xs ss n rows l t.u_Round t.u_Paper t.u_Look ga ua R (iH R (ss.take i)),⟨none,none,none,rfl⟩,?_,?_⟩
  ·rintro i z δ hz ⟨o6,o7,o8,rfl⟩;rw [OD] at hz;cases hz':ss[i]? with
   | none=>rw [hz'] at hz;cases hz
   | some s=>
    rw [hz'] at hz;cases hz;have ts:iH R (ss.take (i+1))=cF R (iH R (ss.take i)) s:=by
     unfold iH;rw [Pk,hz',RB];rfl
    obtain⟨b1,b2,b3⟩:=yu R (ss.take i) ((R.go,R.us),[]);have b1:(iH R (ss.take i)).1.1.length<=R.go.length+(ss.take i).length:=b1;have b2:(iH R (ss.take i)).1.2.length<=R.us.length+(ss.take i).length:=b2;have b3:(iH R (ss.take i)).2.length<=0+(ss.take i).length:=b3;rw [PF] at b1 b2 b3;obtain⟨so1,so2⟩:=so s (OY hz');simp only [ts];generalize iH R (ss.take i)=st at b1 b2 b3;simp only [Sf.enc];walk_at "rzr";have no:(decide (s.1.c.d<=R.n) && !gB st.1.1 s.1.c.nm)=false->cF R st s=st:=λh=>by
     unfold cF;rw [VI (by rw [h];exact OF)]
    refine⟨[Od "name",Od "coming",Od "kind",Od "makers",Od "happenings"],_,rfl,_,vq,_,rfl,?_⟩;by_cases hd:s.1.c.d<=n
    ·rw [VJ hd];refine⟨[Od "name",Od "coming",Od "kind",Od "makers",Od "happenings"],_,rfl,_,Dc,_,rfl,yq R,?_⟩;rw [Mx];by_cases hg:gB st.1.1 s.1.c.nm=false
     ·rw [VJ hg];have eS:cF R st s=((if (b5 (R.at st.1) s.1 s.2).lets=true then bT st.1 (b5 (R.at st.1) s.1 s.2).row else st.1),st.2++[b5 (R.at st.1) s.1 s.2]):=by
       unfold cF;rw [VJ (by rw [hn,decide_eq_true hd,hg];rfl)]
      have gR':qR (R.at st.1):=⟨gR.rl,gR.hd,gR.ll,gR.lk⟩;refine⟨My R,st.1.1.map (·.1),by unfold eX;rw [Ov,Ov];rfl,st.1.2,by unfold fB;rw [Ov];rfl,?_⟩;refine⟨R.at st.1,s.1,s.2,by rw [<-Mc];rfl,gR',so1,so2,Mv two _ _ _,by rw [Of];omega,ck,⟨_,rfl⟩,Dy,b5 (R.at st.1) s.1 s.2,rfl,C9 gR',_,rfl,?_⟩;rw [eS];generalize b5 (R.at st.1) s.1 s.2=k;by_cases hl:k.lets=true
      ·rw [VJ hl,VJ hl];refine⟨rfl,yq R,ck,⟨_,rfl⟩,Dz,k,rfl,k.nm,.int k.d,iF k.lv,rfl,by unfold eX;rw [Of];omega,by unfold fB;rw [Of];omega,?_⟩;have e3:st.2.map (Lk.enc t.u_Look)++[k.enc t.u_Look]=(st.2++[k]).map (Lk.enc t.u_Look):=by rw [OM];rfl
       rw [Dh,e3];cases hv:k.lv with
       | none=>
        have e2:bT st.1 k.row=(iG st.1.1 k.nm k.d,st.1.2):=by
         unfold bT;rw [show k.row.lv=none from hv];rfl
        exact .inl ⟨rfl,_,_,_,by rw [e2]⟩
       | some v=>
        have e2:bT st.1 k.row=(iG st.1.1 k.nm k.d,qS st.1.2 v):=by
         unfold bT;rw [show k.row.lv=some v from hv];rfl
        exact .inr ⟨v,rfl,_,_,_,by rw [Di,e2]⟩
      ·rw [VI hl,VI hl];exact⟨_,_,_,by rw [OM];rfl⟩
     ·rw [VI hg,no (by rw [UP] at hg;rw [hg,Vk];rfl)];exact⟨_,_,_,rfl⟩
    ·rw [VI hd,no (by rw [hn,decide_eq_false hd];rfl)];exact⟨_,_,_,rfl⟩
  ·rintro δ ⟨o6,o7,o8,rfl⟩;rw [eN,Of,O7 (Oj _)];walk_at "rzr";exact q
end
end K78
open PySem L2
namespace K78
section
variable {b:Int}
def Pp.sh(b:Int)(p:Pp):Pp:=⟨p.d+b,p.nm,p.kd,p.ms⟩
def De.sh(b:Int):De->De
 | .pap p=>.pap (p.sh b)
 | .oth w d nm r=>.oth w (d+b) nm r
def cG(b:Int)(z:Int×Str):Int×Str:=(z.1+b,z.2)
def qm(b:Int)(z:Str×Int):Str×Int:=(z.1,z.2+b)
theorem yx(p q:Int×Str):aT (cG b p) (cG b q)=aT p q:=by
 unfold aT cG;rw [show decide (p.1+b < q.1+b)=decide (p.1 < q.1) from decide_eq_decide.mpr VH,show decide (p.1+b=q.1+b)=decide (p.1=q.1) from decide_eq_decide.mpr VH]
theorem Pp.sh_key(p:Pp):(p.sh b).key=cG b p.key:=rfl
theorem Pp.sh_lt(p q:Pp):(p.sh b).lt (q.sh b)↔p.lt q:=by
 unfold Pp.lt;rw [Pp.sh_key,Pp.sh_key,yx]
theorem Pp.sh_inj{p q:Pp}(h:p.sh b=q.sh b):p=q:=by
 cases p;cases q;simp only [Pp.sh,Pp.mk.injEq] at h⊢;exact⟨VH,h.2⟩
theorem De.sh_inj{x y:De}(h:x.sh b=y.sh b):x=y:=by
 cases x with
 | pap p=>
  cases y with
  | pap q=>simp only [De.sh,De.pap.injEq] at h;rw [Pp.sh_inj h]
  | oth=>cases h
 | oth w d nm r=>
  cases y with
  | pap q=>cases h
  | oth w' d' nm' r'=>
   simp only [De.sh,De.oth.injEq] at h⊢;exact⟨h.1,VH,h.2.2⟩
theorem De.sh_nm(x:De):(x.sh b).nm=x.nm:=by cases x <;> rfl
theorem De.sh_w(x:De):(x.sh b).w=x.w:=by cases x <;> rfl
theorem De.sh_d(x:De):(x.sh b).d=x.d+b:=by cases x <;> rfl
theorem De.sh_isE(x:De):(x.sh b).isE=x.isE:=by cases x <;> rfl
theorem De.sh_isL(x:De):(x.sh b).isL=x.isL:=by cases x <;> rfl
theorem mH:∀xs:List De,aD (xs.map (De.sh b))=(aD xs).map (Pp.sh b)
 | []=>rfl
 | x::xs=>by
  have ih:=mH xs;unfold aD at ih⊢;rw [Ol,Pu,Pu];cases x with
  | pap p=>show Pp.sh b p::_=_;rw [ih];rfl
  | oth w d nm r=>exact ih
theorem DC(x:Pp):∀l:List Pp,gP (x.sh b) (l.map (Pp.sh b))=(gP x l).map (Pp.sh b)
 | []=>rfl
 | y::l=>by
  rw [Ol,gP,gP];by_cases h:x.lt y
  ·rw [VJ h,VJ ((Pp.sh_lt x y).mpr h)];rfl
  ·rw [VI h,VI (λz=>h ((Pp.sh_lt x y).mp z)),DC x l];rfl
theorem qT:∀ps:List Pp,bB (ps.map (Pp.sh b))=(bB ps).map (Pp.sh b)
 | []=>rfl
 | p::ps=>by
  show gP (p.sh b) (bB (ps.map (Pp.sh b)))=(gP p (bB ps)).map (Pp.sh b);rw [qT ps,DC]
theorem qo{α β:Type}{f:α->β}{p:β->Bool}{q:α->Bool}(h:∀x,p (f x)=q x)(l:List α):(l.map f).filter p=(l.filter q).map f:=by
 rw [List.filter_map];congr 2;funext x;exact h x
theorem DD(ps:List Pp)(c:Pp):fz (ps.map (Pp.sh b)) (c.sh b)=(fz ps c).map (Pp.sh b):=by
 unfold fz;rw [qT];refine qo (λp=>?_) _;unfold vp;rw [Pp.sh_key,Pp.sh_key,yx];rfl
theorem MC(l:List Pp)(p:Pp):qi (l.map (Pp.sh b)) (p.sh b)=qi l p:=by
 rw [SY,yk,yk];constructor
 ·intro h;obtain⟨q,hq,e⟩:=Oq.mp h;rw [<-Pp.sh_inj e];exact hq
 ·exact λh=>Oq.mpr ⟨p,h,rfl⟩
theorem MD(ps l:List Pp)(c:Pp):qj (ps.map (Pp.sh b)) (l.map (Pp.sh b)) (c.sh b)=(qj ps l c).map (Pp.sh b):=by
 unfold qj;rw [DD];exact qo (λp=>by rw [MC]) _
theorem DH(ps:List Pp):∀(f:Nat)(l:List Pp)(i:Nat),gX (ps.map (Pp.sh b)) f (l.map (Pp.sh b)) i=(gX ps f l i).map (Pp.sh b)
 | 0,l,i=>rfl
 | f+1,l,i=>by
  unfold gX;rw [OD];cases l[i]? with
  | none=>rfl
  | some c=>
   show gX _ f (l.map (Pp.sh b)++qj (ps.map (Pp.sh b)) (l.map (Pp.sh b)) (c.sh b)) (i+1)=_;rw [MD,<-OM,DH ps f]
theorem ME(ps:List Pp)(c:Pp):jG (ps.map (Pp.sh b)) (c.sh b)=(jG ps c).map (Pp.sh b):=by
 unfold jG;rw [Of];exact DH ps _ [c] 0
theorem MF(xs:List De)(nm:Str):cZ (xs.map (De.sh b)) nm=(cZ xs nm).map (cG b):=by
 unfold cZ;rw [qo (q:=iA nm) (λx=>by cases x <;> rfl),Ov,Ov];refine Pm λx _=>?_;cases x with
 | pap p=>rfl
 | oth w d n r=>
  simp only [P2,De.sh];unfold rQ cG;split <;> rename_i e <;> simp_all [De.d]
theorem DI{l:List (Int×Str)}:(l.map (cG b)).Pairwise (λa c=>aT a c=true)↔l.Pairwise (λa c=>aT a c=true):=by
 rw [Px];simp only [yx]
theorem MG(z:Int×Str):cG (-b) (cG b z)=z:=by
 unfold cG;rw [show z.1+b+-b=z.1 by omega]
theorem MH(l:List (Int×Str)):(l.map (cG b)).map (cG (-b))=l:=by
 rw [Ov]
 conv=>rhs;rw [<-UT l]
 exact Pm λz _=>MG z
theorem MI(l:List (Int×Str)):fP (l.map (cG b))=(fP l).map (cG b):=by
 by_cases h:∃s:List (Int×Str),s.Perm l/\s.Pairwise (λa b=>aT a b=true)
 ·obtain⟨s,h1,h2⟩:=h;rw [<-xZ h1 h2,<-xZ (h1.map (cG b)) (DI.mpr h2)]
 ·have h':¬ ∃s:List (Int×Str),s.Perm (l.map (cG b))/\s.Pairwise (λa b=>aT a b=true):=λuu68=>by obtain⟨s,h1,h2⟩:=uu68;exact h ⟨s.map (cG (-b)),by
   have:=h1.map (cG (-b))
   rwa [MH] at this,DI.mpr h2⟩
  unfold fP;rw [dif_neg h,dif_neg h'];rfl
def Rp.sh(b:Int)(r:Rp):Rp:=⟨r.c.sh b,r.ts,r.hs.map (cG b)⟩
theorem DJ(xs:List De)(c:Pp):eV (xs.map (De.sh b)) (c.sh b)=(eV xs c).sh b:=by
 unfold eV Rp.sh;rw [mH,DD,Ov,show(c.sh b).nm=c.nm from rfl,MF,MI];rfl
theorem yz{xs:List De}{x:De}:x.sh b∈xs.map (De.sh b)↔x∈xs:=by
 constructor
 ·intro h;obtain⟨y,hy,e⟩:=Oq.mp h;rw [<-De.sh_inj e];exact hy
 ·exact λh=>Oq.mpr ⟨x,h,rfl⟩
theorem MJ(xs:List De)(n:Int)(z:Str×Pt):tF (xs.map (De.sh b)) (n+b) z↔tF xs n z:=by
 unfold tF;constructor
 ·rintro⟨d,h1,h2,h3⟩;refine⟨d - b,VH,?_,λx hx e1 e2 e3=>?_⟩
  ·refine(yz (b:=b)).mp ?_;show De.oth _ (d - b+b) _ _∈_;rw [Int.sub_add_cancel];exact h2
  ·have:=h3 (x.sh b) (yz.mpr hx) (by rw [De.sh_isE];exact e1) (by rw [De.sh_nm];exact e2) (by rw [De.sh_d];omega);rw [De.sh_d] at this;omega
 ·rintro⟨d,h1,h2,h3⟩;refine⟨d+b,VH,yz.mpr h2,λx hx e1 e2 e3=>?_⟩;obtain⟨y,hy,rfl⟩:=Oq.mp hx;rw [De.sh_d] at e3⊢;have:=h3 y hy (by rw [<-De.sh_isE];exact e1) (by rw [<-De.sh_nm];exact e2) VH;omega
theorem MK(xs:List De)(n:Int):gT (xs.map (De.sh b)) (n+b)=gT xs n:=by
 have e:∀L,iC (xs.map (De.sh b)) (n+b) L↔iC xs n L:=λL=>by
  unfold iC;simp only [MJ]
 by_cases h:∃L,iC xs n L
 ·obtain⟨L,h⟩:=h;rw [<-ya h,<-ya ((e L).mpr h)]
 ·have h':¬ ∃L,iC (xs.map (De.sh b)) (n+b) L:=λ⟨L,z⟩=>h ⟨L,(e L).mp z⟩;unfold gT;rw [dif_neg h,dif_neg h']
def fC(b:Int)(x:Rw):Rw:=⟨x.w,x.n+b,x.nm,x.r⟩
theorem ML(xs:List De):(xs.map (De.sh b)).map De.rw=(xs.map De.rw).map (fC b):=by
 rw [Ov,Ov];exact Pm λx _=>by cases x <;> rfl
theorem MM(x:Rw):fC (-b) (fC b x)=x:=by
 cases x;simp only [fC,Rw.mk.injEq,true_and,and_true];omega
theorem DK{ws:List Str}{n:Int}{xs res:List Rw}(h:eU ws n xs res):eU ws (n+b) (xs.map (fC b)) (res.map (fC b)):=by
 have e:(res.map (fC b)).map (·.nm)=res.map (·.nm):=by rw [Ov];rfl
 refine⟨by rw [e];exact h.up,by rw [e];exact h.nd,λx' hx'=>?_,λy' hy' oy=>?_,by rw [Of,Of];exact h.le⟩
 ·obtain⟨x,hx,rfl⟩:=Oq.mp hx';obtain⟨h1,h2,h3⟩:=h.it x hx;refine⟨Oq.mpr ⟨x,h1,rfl⟩,⟨h2.1,Uj h2.2 b⟩,λy' hy' oy e=>?_⟩;obtain⟨y,hy,rfl⟩:=Oq.mp hy';exact Uj (h3 y hy ⟨oy.1,Rz oy.2⟩ e) b
 ·obtain⟨y,hy,rfl⟩:=Oq.mp hy';obtain⟨x,hx,e⟩:=h.al y hy ⟨oy.1,Rz oy.2⟩;exact⟨fC b x,Oq.mpr ⟨x,hx,rfl⟩,e⟩
theorem Uq.sh{ws:List Str}{n:Int}{xs:List Rw}(u:Uq ws n xs):Uq ws (n+b) (xs.map (fC b)):=by
 intro x' hx' y' hy' ox oy e1 e2;obtain⟨x,hx,rfl⟩:=Oq.mp hx';obtain⟨y,hy,rfl⟩:=Oq.mp hy';rw [u x hx y hy ⟨ox.1,Rz ox.2⟩ ⟨oy.1,Rz oy.2⟩ e1 (by have e2:x.n+b=y.n+b:=e2;omega)]
theorem MN{ws:List Str}{n:Int}{xs:List Rw}(u:Uq ws n xs):rS ws (n+b) (xs.map (fC b))=(rS ws n xs).map (fC b):=by
 by_cases h:∃r,eU ws n xs r
 ·obtain⟨r,h⟩:=h;rw [<-yj u h,<-yj u.sh (DK h)]
 ·have h':¬ ∃r,eU ws (n+b) (xs.map (fC b)) r:=λuu70=>by obtain⟨r,hr⟩:=uu70;exact h ⟨r.map (fC (-b)),by
   have:=DK (b:=-b) hr;rw [Ov,show n+b+-b=n by omega] at this;have e:xs.map (fC (-b)∘ fC b)=xs:=by
    conv=>rhs;rw [<-UT xs]
    exact Pm λz _=>MM z
   rwa [e] at this⟩
  unfold rS;rw [dif_neg h,dif_neg h'];rfl
theorem MO{xs:List De}(g:cn xs)(n:Int):rT (xs.map (De.sh b)) (n+b)=rT xs n:=by
 unfold rT;rw [ML,MN (CO g)];unfold qP;rw [qo (q:=λx=>x.w==Od "hold") (λx=>rfl),Ov];exact Pm λx _=>rfl
theorem DL:∀xs:List De,(xs.map (De.sh b)).filterMap De.lv=(xs.filterMap De.lv).map (Pp.sh b)
 | []=>rfl
 | x::xs=>by
  rw [Ol,Pu,Pu,DL xs];have e:De.lv (x.sh b)=(De.lv x).map (Pp.sh b):=by
   cases x with
   | pap p=>rfl
   | oth w d nm r=>
    simp only [De.sh];unfold De.lv;split
    ·rename_i e;simp only [De.oth.injEq] at e;obtain⟨rfl,rfl,rfl,rfl⟩:=e;simp only;split <;> rfl
    ·rename_i e;split
     ·rename_i e2;simp only [De.oth.injEq] at e2;obtain⟨rfl,rfl,rfl,rfl⟩:=e2;exact absurd rfl (e _ _ _ _)
     ·rfl
  rw [e];cases De.lv x <;> rfl
theorem MP(xs:List De)(n:Int):tI (xs.map (De.sh b)) (n+b)=(tI xs n).map (Pp.sh b):=by
 unfold tI;rw [DL,qo (p:=λp:Pp=>decide (p.d<=n+b)) (q:=λp:Pp=>decide (p.d<=n)) (λp=>decide_eq_decide.mpr (by show p.d+b<=n+b↔_;omega)),qT]
theorem yA(d k:Int)(u:Str):qa d k u=d+k:=(yf (r:=d+k) rfl).symm
theorem yB(hs:List (Int×Str))(wd:Str):dh (hs.map (cG b)) wd=(dh hs wd).map (·+b):=by
 unfold dh;rw [qo (q:=λz=>z.2==wd) (λz=>rfl),Ov,Ov];rfl
theorem DM(r:Rp)(wd:Str)(n:Int):iD (r.sh b) wd (n+b)=(iD r wd n).map (·+b):=by
 unfold iD;rw [show(r.sh b).hs=r.hs.map (cG b) from rfl,yB];exact qo (p:=λz=>decide (z<=n+b)) (q:=λz=>decide (z<=n)) (λz=>decide_eq_decide.mpr (by show z+b<=n+b↔z<=n;omega)) _
theorem MQ(r:Rp)(n:Int)(s:bS):qc (r.sh b) (n+b) s=(qc r n s).map (·+b):=by
 cases s with
 | com=>rfl
 | fst wd=>show(iD (r.sh b) wd (n+b)).head?=_;rw [DM,List.head?_map];rfl
 | lst wd=>show(iD (r.sh b) wd (n+b)).getLast?=_;rw [DM,List.getLast?_map];rfl
theorem DN(r:Rp)(n:Int)(pt:Pt):eB (r.sh b) (n+b) pt=(eB r n pt).map (·+b):=by
 cases pt with
 | two=>rfl
 | five w kd s k u=>
  show(qc (r.sh b) (n+b) s).map _=((qc r n s).map _).map _;rw [MQ,Ue,Ue];congr 1;funext d;simp only [P2,yA];omega
theorem DP(n:Int)(o:Option Int):qg (n+b) (o.map (·+b))=qg n o:=by
 cases o with
 | none=>rfl
 | some d=>exact decide_eq_decide.mpr (by show d+b > n+b↔_;omega)
def Gn.sh(b:Int)(g:Gn):Gn:=⟨g.ks,g.gs.map (·+b)⟩
theorem DQ:∀(ks:List Str)(gs:List Int)(z:Str),jC ks (gs.map (·+b)) z=(jC ks gs z).map (·+b)
 | [],_,_=>rfl
 | _::_,[],_=>rfl
 | k::ks,g::gs,z=>by
  rw [Ol,jC,jC];split
  ·rfl
  ·exact DQ ks gs z
theorem DR(g:Gn)(n:Int)(z:Str):(g.sh b).has (n+b) z=g.has n z:=by
 unfold Gn.has Gn.at;rw [show(g.sh b).ks=g.ks from rfl,show(g.sh b).gs=g.gs.map (·+b) from rfl,DQ];cases jC g.ks g.gs z with
 | none=>rfl
 | some d=>exact decide_eq_decide.mpr (by show d+b<=n+b↔d<=n;omega)
theorem MR(r:Rp)(n:Int)(g:Gn):mD (r.sh b) (n+b) (g.sh b)=mD r n g:=by
 unfold mD;simp only [DR];rfl
theorem MS(r:Rp)(n:Int)(g:Gn):mE (r.sh b) (n+b) (g.sh b)=mE r n g:=by
 unfold mE;simp only [DR];rfl
def vF(b:Int):VL->VL
 | .int d=>.int (d+b)
 | x=>x
theorem DU(o:Option Int):bN (o.map (·+b))=vF b (bN o):=by cases o <;> rfl
theorem DV(o:Option Str):(o.map Oi).map (vF b)=o.map Oi:=by cases o <;> rfl
theorem MT(r:Rp)(n:Int)(g:Gn)(pt:Pt):jD (r.sh b) (n+b) (g.sh b) pt=(jD r n g pt).map (vF b):=by
 cases pt with
 | two w kd=>
  simp only [jD];rw [MR];split
  ·rw [DV]
  ·rfl
 | five w kd s k u=>
  simp only [jD];rw [DN,DP,DU];split <;> rfl
theorem MU(r:Rp)(n:Int)(g:Gn)(pt:Pt):jE (r.sh b) (n+b) (g.sh b) pt=(jE r n g pt).map (vF b):=by
 cases pt with
 | two w kd=>
  simp only [jE];rw [MS];split
  ·rw [DV]
  ·rfl
 | five w kd s k u=>
  simp only [jE];rw [DN,DP,DU];split <;> rfl
theorem DW(r:Rp)(n:Int)(L:List (Str×Pt)):gz (r.sh b) (n+b) L=gz r n L:=by
 unfold gz;by_cases h:r.c.d > n
 ·rw [VJ h,VJ (show(Rp.sh b r).c.d > n+b by show r.c.d+b > n+b;omega)]
 ·rw [VI h,VI (show ¬(Rp.sh b r).c.d > n+b by show ¬r.c.d+b > n+b;omega)];rfl
theorem yC{α β:Type}{f g:α->List β}(h:∀x,(f x).length=(g x).length):∀l:List α,(l.flatMap f).length=(l.flatMap g).length
 | []=>rfl
 | x::l=>by rw [Qv,Qv,OH,OH,h x,yC h l]
theorem se{α β:Type}{f:α->β}(o:Option α):((o.map f).toList).length=o.toList.length:=by cases o <;> rfl
theorem MV(r:Rp)(n:Int)(g:Gn)(L:List (Str×Pt)):(eD (r.sh b) (n+b) (g.sh b) L).length=(eD r n g L).length:=by
 unfold eD;rw [DW];refine yC (λz=>?_) _;unfold vv;rw [MT,se,se,se]
theorem MW(r:Rp)(n:Int)(g:Gn)(L:List (Str×Pt)):(gA (r.sh b) (n+b) (g.sh b) L).length=(gA r n g L).length:=by
 unfold gA;rw [DW];refine yC (λz=>?_) _;unfold vw;rw [MU,se,se,se]
def Rn.sh(b:Int)(R:Rn):Rn:=⟨R.n+b,R.L,R.hs,R.lvs.map (Pp.sh b),R.go.map (qm b),R.us⟩
theorem DX(R:Rn):(R.sh b).gn=R.gn.sh b:=by
 unfold Rn.gn Gn.sh Rn.sh;simp only [Ov];rfl
theorem MX(R:Rn)(kd:Str):jJ (R.sh b) kd=jJ R kd:=by
 unfold jJ;rw [show(R.sh b).lvs=R.lvs.map (Pp.sh b) from rfl,List.find?_map,Ue];rfl
theorem DY(R:Rn)(kd:Str):eY (R.sh b) kd=eY R kd:=by
 unfold eY;rw [MX];rfl
theorem MY(hs:List Hd)(line:List Pp):dW hs (line.map (Pp.sh b))=dW hs line:=by
 unfold dW;congr 2;funext h;unfold rV;have e:∀l:List Pp,(l.map (Pp.sh b)).any (gW h.ip h.tn)=l.any (gW h.ip h.tn):=λl=>by
  rw [R4];rfl
 split
 ·exact e _
 ·rw [<-SM];exact e _
def Ro.sh(b:Int)(r:Ro):Ro:=⟨r.nm,r.d+b,r.lv⟩
theorem MZ(R:Rn)(r:Rp)(line:List Pp):(b5 (R.sh b) (r.sh b) (line.map (Pp.sh b))).lets=(b5 R r line).lets/\(b5 (R.sh b) (r.sh b) (line.map (Pp.sh b))).row=(b5 R r line).row.sh b:=by
 constructor
 ·unfold Lk.lets;have h1:(b5 (R.sh b) (r.sh b) (line.map (Pp.sh b))).go.length=(b5 R r line).go.length:=by
   show(gA (r.sh b) (R.n+b) (R.sh b).gn R.L).length=_;rw [DX,MW];rfl
  have h2:(b5 (R.sh b) (r.sh b) (line.map (Pp.sh b))).bars.length=(b5 R r line).bars.length:=by
   show(Pr rX (eD (r.sh b) (R.n+b) (R.sh b).gn R.L)++Pr rY (dW R.hs (line.map (Pp.sh b)))++(if eY (R.sh b) r.c.kd=none then(fQ r.c.kd R.L).map rZ else [])).length=(Pr rX (eD r R.n R.gn R.L)++Pr rY (dW R.hs line)++(if eY R r.c.kd=none then(fQ r.c.kd R.L).map rZ else [])).length;rw [DX,MY,DY];simp only [OH,Of,MV]
  rw [h1,h2]
 ·show(⟨r.c.nm,R.n+b,eY (R.sh b) r.c.kd⟩:Ro)=⟨r.c.nm,R.n+b,eY R r.c.kd⟩;rw [DY]
end
end K78
open PySem L2
namespace K78
theorem DZ:bb (ag jt) ["looks"] ["look"] 1 [] {kind:=Ou,names:=[(Og ".0",PySem.NameKind.local),(Og "look",PySem.NameKind.local)],isGenerator:=false,isCoroutine:=false,more:=[]:O3}:=⟨rfl,cp,cp,cp,rfl,cp,cp,cp,rfl⟩
section
variable {P:VY} {w:VZ} {K:Oe} {mg:Str->Option VM} {base:V0} {t:cm}
def bP(ks:List Lk):List Ro:=(ks.filter Lk.lets).map Lk.row
def M3(CL:VO):List VL->(VL->Prop)->Prop:=λds Q=>∃ks:List Lk,ds=[.list (ks.map (Lk.enc CL))]/\(∀k∈ks,mG k)/\ks.length<=100000/\Q (.list ((bP ks).map Ro.enc))
theorem D1(T:Txt K mg t):aF P w K mg base CX0 2 t.a_x42 t.d_x42 ["looks"] (ba K (M3 t.u_Look)):=by
 have G_x33:=C0 (P:=P) (w:=w) (base:=base) T;have G_x34:=C1 (P:=P) (w:=w) (base:=base) T;refine T.F_x42.okD KI (λds Q h=>?_) (λcdv A outer s H O ds Q E hr h=>?_)
 ·obtain⟨ks,rfl,_⟩:=h;rfl
 ·obtain⟨ks,rfl,ok,le,q⟩:=h;refine'⟨_,?body,?read⟩
  case body=>
   refine' aA ?s1
   case' s1=>refine' aU ?e2
   case' e2=>refine' fe ?f3
   case f3=>exact(d8 rfl DZ (df (dv 0)) aO bL VG (λ_ _ _ _=>(aL (i:=0) DZ.nd rfl (by walk_at "o"))) (λ_ _ _ _=>(dJ (qw (PE.imp (ue (dv 0) T.cl_Look T.mt_Look_lets_go G_x33 (hr.mono VG) T.b_x33 .nil aG) vc)))) (λ_ _ _ _=>(PE.imp (ue (dv 0) T.cl_Look T.mt_Look_as_row G_x34 (hr.mono VG) T.b_x34 .nil aG) vc)))
  case read=>
  clear hr T G_x33 G_x34;walk_at "rzr";refine⟨by rw [Of];omega,cY Lk.lets (λk=>k.row.enc) (λk hk R S h=>?_) ?_⟩
  ·walk_at "rzr";refine⟨ck,⟨_,rfl⟩,Dy,k,rfl,ok k hk,_,rfl,?_⟩;by_cases hl:k.lets=true
   ·rw [VJ hl] at h⊢;exact⟨ck,⟨_,rfl⟩,Dz,k,rfl,h⟩
   ·rw [VI hl] at h⊢;exact h
  ·have e:(ks.filter Lk.lets).map (λk=>k.row.enc)=(bP ks).map Ro.enc:=by unfold bP;rw [Ov];rfl
   rw [e];exact q
noncomputable def qU(xs:List De)(ss:List Sf)(st:List Ro×List Lk)(n:Int):List Ro×List Lk:=(st.1++bP (jK xs n st.1 ss),st.2++jK xs n st.1 ss)
noncomputable def fS(xs:List De)(ss:List Sf)(ns:List Int):List Ro×List Lk:=ns.foldl (qU xs ss) ([],[])
theorem M4{xs:List De}(g:gS xs):(dG xs).length<=41:=by
 unfold dG;rw [Of,iz];exact g.gx.gp.ln
theorem M5(xs:List De)(n:Int)(rows:List Ro)(ss:List Sf):(jK xs n rows ss).length<=ss.length:=by
 have h:=(yu (cE xs n rows) ss (((cE xs n rows).go,(cE xs n rows).us),[])).2.2;rw [Pn,Q3] at h;exact h
theorem D2(ks:List Lk):(bP ks).length<=ks.length:=by
 unfold bP;rw [Of];exact Ph _ _
theorem M6{xs:List De}{ss:List Sf}{ns:List Int}{i:Nat}{n:Int}(h:ns[i]?=some n):fS xs ss (ns.take (i+1))=qU xs ss (fS xs ss (ns.take i)) n:=by
 unfold fS;rw [Pk,h,RB];rfl
def M7(xs:List De)(ss:List Sf)(ns:List Int)(CP CL:VO)(i:Nat)(st:List Ro×List Lk)(δ:Dl):Prop:=∃(o6 o7:Option Sl),st.1.length<=41*i/\st.2.length<=41*i/\(∀k∈st.2,mG k)/\δ=[some (Sl.v (OW (Pr De.enc xs))),some (Sl.v (OW (Pr OZ ns))),some (Sl.v (QF [])),some (Sl.v (QF (ss.map (Sf.enc CP)))),some (Sl.o (st.1.map Ro.enc)),some (Sl.o (st.2.map (Lk.enc CL))),o6,o7]
def F_x41(CL:VO):List VL->(VL->Prop)->Prop:=λds Q=>∃(xs:List De)(ns:List Int),ds=[.tuple (xs.map De.enc),.tuple (ns.map .int),.list []]/\cn xs/\ns.length < 64/\((∀k∈(fS xs (dG xs) ns).2,mG k)->(fS xs (dG xs) ns).2.length<=100000->Q (.list ((fS xs (dG xs) ns).2.map (Lk.enc CL))))
theorem M8(T:Txt K mg t):aF P w K mg base CX0 10 t.a_x41 t.d_x41 ["deeds","days","done"] (ba K (F_x41 t.u_Look)):=by
 have G_x39:=Mq (P:=P) (w:=w) (base:=base) T;have G_x40:=MB (P:=P) (w:=w) (base:=base) T;have G_x42:=D1 (P:=P) (w:=w) (base:=base) T;refine T.F_x41.okD rN (λds Q h=>?_) (λcdv A outer s H O ds Q E hr h=>?_)
 ·obtain⟨xs,ns,rfl,_⟩:=h;rfl
 ·obtain⟨xs,ns,rfl,g,nl,q⟩:=h;refine'⟨_,?body,?read⟩
  case body=>
   refine' aq ?s1 ?r1
   case s1=>exact(bw (i:=3) rN.nd rfl (by walk_at "o") (PE.imp (aR G_x39 (hr.mono VG) rfl T.m_x39 T.F_x39.kp T.b_x39 .nil aG (aa (dv 0) ao)) aS))
   case' r1=>refine' aq ?s3 ?r3
   case s3=>exact(ia (i:=4) rN.nd rfl (by walk_at "o") (HB rfl T.n_list Hk (bu (df (dv 2)) bC)))
   case' r3=>refine' aq ?s5 ?r5
   case s5=>exact(ia (i:=5) rN.nd rfl (by walk_at "o") (dN ao))
   case' r5=>refine' aq ?s7 ?r7
   case s7=>
    refine' qB Pz rfl (dv 1) ?a8 aO ?b8
    case a8=>exact(aL (i:=6) rN.nd rfl (by walk_at "o"))
    case' b8=>refine' aq ?s9 ?r9
    case s9=>exact(bw (i:=7) rN.nd rfl (by walk_at "o") (Kh (j:=4) G_x40 (hr.mono VG) rfl T.m_x40 T.F_x40.kp T.b_x40 aG (dv 0) (dv 3) (dv 6) (pv 4)))
    case' r9=>refine' aq ?s11 ?r11
    case s11=>exact(xh (i:=4) (pv 4) (PE.imp (aR G_x42 (hr.mono VG) rfl T.m_x42 T.F_x42.kp T.b_x42 .nil aG (aa (dv 7) ao)) aS))
    case' r11=>refine' aA ?s13
    case s13=>exact(xh (i:=5) (pv 5) (dv 7))
   case' r7=>refine' aA ?s15
   case s15=>exact(sR (pv 5))
  case read=>
  clear hr T G_x39 G_x40 G_x42;walk_at "rzr";refine⟨xs,rfl,g.gd,λso=>?_⟩;have sl:=M4 g.gd;generalize dG xs=ss at*;generalize hE:hW.mk _ _ _ _=EE;have eN:EE.nx=hZ 5 {nx:=λx=>Q RV,rt:=Q}:=by rw [<-hE]
  clear hE;refine⟨λi=>M7 xs ss ns t.u_Paper t.u_Look i (fS xs ss (ns.take i)),⟨none,none,Pe _,Pe _,(λk hk=>nomatch hk),rfl⟩,?_,?_⟩
  ·rintro i z δ hz ⟨o6,o7,l1,l2,ok,rfl⟩;rw [OD] at hz;cases hz':ns[i]? with
   | none=>rw [hz'] at hz;cases hz
   | some n=>
    rw [hz'] at hz;cases hz;have hi:=(OB.mp hz').1;simp only [M6 hz'];generalize fS xs ss (ns.take i)=st at*;walk_at "rzr";have k1:=M5 xs n st.1 ss;have k2:=D2 (jK xs n st.1 ss);refine⟨xs,ss,n,st.1,rfl,rfl,g,VH,sl,so,λkok=>⟨jK xs n st.1 ss,rfl,kok,VH,_,rfl,by rw [Of,Of];omega,_,rfl,by rw [Of,Of];omega,?_⟩⟩;have a1:(qU xs ss st n).1.length<=41*(i+1):=by
     show(st.1++_).length<=_;rw [OH];omega
    have a2:(qU xs ss st n).2.length<=41*(i+1):=by
     show(st.2++_).length<=_;rw [OH];omega
    refine⟨_,_,a1,a2,λk hk=>?_,by rw [<-OM,<-OM];rfl⟩;rcases OL.mp hk with z | z
    ·exact ok k z
    ·exact kok k z
  ·rintro δ ⟨o6,o7,l1,l2,ok,rfl⟩;rw [Of,O7 (Oj _)] at l2 ok;rw [eN,Of,O7 (Oj _)];walk_at "rzr";exact q ok VH
def M9(CL:VO):List VL->(VL->Prop)->Prop:=λds Q=>∃xs:List De,ds=[.tuple (xs.map De.enc)]/\cn xs/\jF xs/\((∀k∈(fS xs (dG xs) (dU xs)).2,mG k)->(fS xs (dG xs) (dU xs)).2.length<=100000->Q (.list ((fS xs (dG xs) (dU xs)).2.map (Lk.enc CL))))
theorem Na(T:Txt K mg t):aF P w K mg base CX0 11 t.a_x43 t.d_x43 ["deeds"] (ba K (M9 t.u_Look)):=by
 have G_x41:=M8 (P:=P) (w:=w) (base:=base) T;have G_x31:=CG (P:=P) (w:=w) (base:=base) T;refine T.F_x43.okD KJ (λds Q h=>?_) (λcdv A outer s H O ds Q E hr h=>?_)
 ·obtain⟨xs,rfl,_⟩:=h;rfl
 ·obtain⟨xs,rfl,g,few,q⟩:=h;refine'⟨_,?body,?read⟩
  case body=>
   refine' aA ?s1
   case' s1=>refine' aU ?e2
   case e2=>exact(PE.imp (aR G_x41 (hr.mono VG) rfl T.m_x41 T.F_x41.kp T.b_x41 .nil aG (aa (dv 0) (aa (PE.imp (aR G_x31 (hr.mono VG) rfl T.m_x31 T.F_x31.kp T.b_x31 .nil aG (aa (dv 0) ao)) aS) (aa (fe (dN ao)) ao)))) aS)
  case read=>
  clear hr T G_x41 G_x31;walk_at "rzr";exact⟨xs,rfl,g.gd,λ_=>few,λ_ tl=>⟨xs,dU xs,rfl,g,tl,q⟩⟩
end
end K78
open PySem L2
namespace K78
theorem D3:bb (ag ju) ["deeds","rows","row"] ["name","rows"] 1 [1] {kind:=Ou,names:=[ (Og ".0",PySem.NameKind.local),(Og "name",PySem.NameKind.local),(Og "rows",OE)],isGenerator:=false,isCoroutine:=false,more:=[]:O3}:=⟨rfl,cp,cp,cp,rfl,cp,cp,cp,rfl⟩
theorem D4:bb (ag iy) ["deeds","day","days","come"] ["coming","day"] 1 [1] {kind:=Ou,names:=[ (Og ".0",PySem.NameKind.local),(Og "coming",PySem.NameKind.local),(Og "day",OE)],isGenerator:=false,isCoroutine:=false,more:=[]:O3}:=⟨rfl,cp,cp,cp,rfl,cp,cp,cp,rfl⟩
theorem D5:bb (ag iy) ["deeds","day","days","come"] ["name","day","days"] 1 [1,2] {kind:=Ou,names:=[ (Og ".0",PySem.NameKind.local),(Og "name",PySem.NameKind.local),(Og "day",OE),(Og "days",OE)],isGenerator:=false,isCoroutine:=false,more:=[]:O3}:=⟨rfl,cp,cp,cp,rfl,cp,cp,cp,rfl⟩
section
variable {P:VY} {w:VZ} {K:Oe} {mg:Str->Option VM} {base:V0} {t:cm}
def dj{α:Type}(m:List (Str×α))(k:Str)(v:α):List (Str×α):=if (m.any λp=>decide (p.1=k))=true then m.map (λp=>if p.1=k then(p.1,v) else p) else m++[(k,v)]
def fT{α:Type}(f:α->VL)(m:List (Str×α)):List (ak×VL):=m.map λp=>(P7 p.1,f p.2)
def iI{α:Type}(m:List (Str×α))(z:Str):Option α:=(m.find? λp=>decide (p.1=z)).map (·.2)
theorem D6{α:Type}(f:α->VL)(m:List (Str×α))(k:Str)(v:α):fI (fT f m) (.inr k) (f v)=fT f (dj m k v):=by
 have e:((fT f m).any λp=>decide (p.1=P7 k))=m.any λp=>decide (p.1=k):=by
  unfold fT;rw [R4];congr 1;funext p;simp only [P2,decide_eq_decide];exact i5
 unfold fI dj;rw [e];split
 ·unfold fT;rw [Ov,Ov];apply Pm;intro p _;simp only [P2];by_cases h:p.1=k
  ·rw [VJ (by rw [h]),VJ h]
  ·rw [VI (λe=>h (i5.mp e)),VI h]
 ·unfold fT;rw [OM];rfl
theorem Nb{α:Type}(m:List (Str×α))(k:Str)(v:α):(dj m k v).length<=m.length+1:=by
 unfold dj;split <;> simp
theorem Nc{α:Type}(m:List (Str×α))(k:Str)(v:α)(z:Str):iI (dj m k v) z=if k=z then some v else iI m z:=by
 unfold dj iI;by_cases h:(m.any λp=>decide (p.1=k))=true
 ·rw [VJ h]
  induction m with
  | nil=>cases h
  | cons p m ih=>
   rw [Ol,PL,PL];by_cases hp:p.1=k
   ·rw [VJ hp];by_cases hz:k=z
    ·rw [VJ hz,hp,hz];simp
    ·rw [VI hz];have e1:decide (p.1=z)=false:=decide_eq_false (λe=>hz (by rw [<-hp,e]));simp only [e1];have key:∀l:List (Str×α),(l.map λp=>if p.1=k then(p.1,v) else p).find? (λp=>decide (p.1=z))=l.find? λp=>decide (p.1=z):=λl=>by
      induction l with
      | nil=>rfl
      | cons a l ih=>
       rw [Ol,PL,PL,ih];by_cases ha:a.1=k
       ·rw [VJ ha];have e2:decide (a.1=z)=false:=decide_eq_false (λe=>hz (by rw [<-ha,e]));simp only [e2]
       ·rw [VI ha]
     rw [key]
   ·rw [VI hp];rw [PQ,decide_eq_false hp,Qq] at h;have ih:=ih h;by_cases hz:p.1=z
    ·rw [decide_eq_true hz,VI (λe=>hp (by rw [hz,e]))]
    ·simp only [decide_eq_false hz];exact ih
 ·rw [VI h,UO];have no:∀p∈m,p.1≠k:=λp hp e=>h (Rc.mpr ⟨p,hp,by rw [e];simp⟩);by_cases hz:k=z
  ·rw [VJ hz,Sw.mpr (λp hp=>by rw [<-hz];simpa using no p hp),hz];simp
  ·rw [VI hz,PL,decide_eq_false hz];simp
theorem vG{α:Type}(f:α->VL):∀(m:List (Str×α))(z:Str),aZ (m.map (·.1)) (m.map λp=>f p.2) z=(iI m z).map f
 | [],_=>rfl
 | p::m,z=>by
  have ih:=vG f m z;unfold iI at ih⊢;rw [Ol,Ol,aZ,PL];by_cases h:p.1=z
  ·rw [VJ h,decide_eq_true h];rfl
  ·rw [VI h,decide_eq_false h];exact ih
theorem D7{α:Type}(f:α->VL)(m:List (Str×α)):(fT f m).map (·.1)=(m.map (·.1)).map P7:=by
 unfold fT;rw [Ov,Ov];rfl
theorem D8{α:Type}(f:α->VL)(m:List (Str×α)):(fT f m).map (·.2)=m.map λp=>f p.2:=by
 unfold fT;rw [Ov];rfl
def qp(rs:List Ro):List (Str×Ro):=rs.foldl (λm r=>dj m r.nm r) []
theorem yD{α β:Type}(kf:β->Str)(vf:β->α):∀(rs:List β)(m:List (Str×α)),(rs.foldl (λm r=>dj m (kf r) (vf r)) m).length<=m.length+rs.length
 | [],m=>Oj _
 | r::rs,m=>by
  have h:=yD kf vf rs (dj m (kf r) (vf r));have h2:=Nb m (kf r) (vf r);rw [O4,Oz];omega
theorem yE{α β:Type}(kf:β->Str)(vf:β->α)(z:Str):∀(rs:List β)(m:List (Str×α)),iI (rs.foldl (λm r=>dj m (kf r) (vf r)) m) z=rs.foldl (λo r=>if kf r=z then some (vf r) else o) (iI m z)
 | [],m=>rfl
 | r::rs,m=>by
  rw [O4,O4,yE kf vf z rs,Nc]
noncomputable def eZ(xs:List De):List Ro:=bP (fS xs (dG xs) (dU xs)).2
structure Pl where
 nm:Str
 d:Option Int
 lv:Option Str
def Pl.enc(p:Pl):VL:= .tuple [.str p.nm,bN p.d,iF p.lv]
def Ro.pl(r:Ro):Pl:=⟨r.nm,some r.d,r.lv⟩
def jL(rs:List Ro)(z:Str):Option Ro:=rs.foldl (λo r=>if r.nm=z then some r else o) none
noncomputable def bW(xs:List De):List Pl:=(bB (aD xs)).map λc=>((jL (eZ xs) c.nm).map Ro.pl).getD ⟨c.nm,none,none⟩
def F_x44:List VL->(VL->Prop)->Prop:=λds Q=>∃xs:List De,ds=[.tuple (xs.map De.enc)]/\cn xs/\jF xs/\Q (.tuple ((bW xs).map Pl.enc))
theorem D9(T:Txt K mg t):aF P w K mg base CX0 12 t.a_x44 t.d_x44 ["deeds"] (ba K F_x44):=by
 have G_x43:=Na (P:=P) (w:=w) (base:=base) T;have G_x42:=D1 (P:=P) (w:=w) (base:=base) T;have G_x12:=xW (P:=P) (w:=w) (base:=base) T;refine T.F_x44.okD xI (λds Q h=>?_) (λcdv A outer s H O ds Q E hr h=>?_)
 ·obtain⟨xs,rfl,_⟩:=h;rfl
 ·obtain⟨xs,rfl,g,few,q⟩:=h;refine'⟨_,?body,?read⟩
  case body=>
   refine' aq ?s1 ?r1
   case s1=>exact(wH (i:=1) xI.nd rfl (by walk_at "o") wG)
   case' r1=>refine' aq ?s3 ?r3
   case s3=>
    refine' qA Pz rfl (PE.imp (aR G_x42 (hr.mono VG) rfl T.m_x42 T.F_x42.kp T.b_x42 .nil aG (aa (PE.imp (aR G_x43 (hr.mono VG) rfl T.m_x43 T.F_x43.kp T.b_x43 .nil aG (aa (dv 0) ao)) aS) ao)) aS) ?a4 aO ?b4
    case a4=>exact(aL (i:=2) xI.nd rfl (by walk_at "o"))
    case' b4=>refine' aA ?s5
    case s5=>exact(wI (i:=1) hr.units (pv 1) (ar aC aI (df (dv 2)) (df ah)) (dv 2))
   case' r3=>refine' aA ?s7
   case' s7=>refine' Bf 1 ?z8
   case' z8=>refine' aU ?e9
   case e9=>exact(PE.imp (dA fc rfl T.n_tuple fg (bu (df (fe (kc rfl D3 (df (PE.imp (aR G_x12 (hr.mono VG) rfl T.m_x12 T.F_x12.kp T.b_x12 .nil aG (aa (dv 0) ao)) aS)) aO bL VG (λ_ _ _ _=>(aL (i:=0) D3.nd rfl (by walk_at "o"))) (λ_ _ _ _=>cS) (λ_ _ _ _=>(J0 hr.units (dv 1) (dv 0) (bD (aa (dv 0) (aa fE (aa fE ao)))) ⟨rfl,rfl,rfl,rfl⟩))))) bC)) (bU fj))
  case read=>
  clear hr T G_x43 G_x42 G_x12;walk_at "rzr";refine⟨xs,rfl,g,few,λkok kl=>⟨_,rfl,kok,kl,_,rfl,?_⟩⟩;have rl:(eZ xs).length<=100000:=O6 (D2 _) kl;have q:Q (.tuple ((bB (aD xs)).map λc=>(((jL (eZ xs) c.nm).map Ro.pl).getD ⟨c.nm,none,none⟩).enc)):=by
   have q:Q (.tuple ((bW xs).map Pl.enc)):=q;unfold bW at q;rw [Ov] at q;exact q
  have eR:bP (fS xs (dG xs) (dU xs)).2=eZ xs:=rfl;rw [eR];clear kok kl few eR;generalize eZ xs=rs at*;refine⟨λi δ=>∃o2,δ=[some (Sl.v (OW (Pr De.enc xs))),some (Sl.k (fT Ro.enc (qp (rs.take i)))),o2],⟨none,rfl⟩,?_,?_⟩
  ·rintro i z δ hz ⟨o2,rfl⟩;rw [OD] at hz;cases hz':rs[i]? with
   | none=>rw [hz'] at hz;cases hz
   | some r=>
    rw [hz'] at hz;cases hz;have ts:qp (rs.take (i+1))=dj (qp (rs.take i)) r.nm r:=by
     unfold qp;rw [Pk,hz',RB];rfl
    have ml:(qp (rs.take i)).length<=0+(rs.take i).length:=yD (λr:Ro=>r.nm) (λr=>r) (rs.take i) [];rw [PF] at ml;simp only [ts];generalize qp (rs.take i)=M at*;simp only [Ro.enc];walk_at "rzr";exact⟨by unfold fT;rw [Of];omega,D6 Ro.enc M r.nm r,_,rfl⟩
  ·rintro δ ⟨o2,rfl⟩;rw [Of,O7 (Oj _)];have ma:∀z,iI (qp rs) z=jL rs z:=λz=>yE (λr:Ro=>r.nm) (λr=>r) z rs [];generalize qp rs=M at*;walk_at "rzr";have pl:=g.gd.gx.gp.ln;refine⟨M.map (·.1),D7 _ _,xs,rfl,g.gd.gx,_,rfl,by rw [Of,Of,iz];omega,?_⟩;rw [D8];refine jz (λ_=>true) (λz=>(((jL rs z).map Ro.pl).getD ⟨z,none,none⟩).enc) (λz hz R S h1 _=>?_) ?_
   ·walk_at "rzr";have h:=h1 rfl;refine⟨_,_,rfl,?_⟩;rw [vG Ro.enc,ma]
    revert h
    cases jL rs z with
    | none=>exact id
    | some r=>exact id
   ·rw [gm,Ov];exact q
noncomputable def vH(xs:List De):List (Str×Option Int):=(bW xs).foldl (λm p=>dj m p.nm p.d) []
def Ea{α:Type}(f:α->VL)(m:List (Str×α)):VL:=fM (m.map (·.1)) (m.map λp=>f p.2)
def Nd:List VL->(VL->Prop)->Prop:=λds Q=>∃xs:List De,ds=[.tuple (xs.map De.enc)]/\cn xs/\jF xs/\Q (Ea bN (vH xs))
theorem Eb{xs:List De}(g:cn xs):(bW xs).length<=41:=by
 unfold bW;rw [Of,iz];exact g.gd.gx.gp.ln
theorem Nf(T:Txt K mg t):aF P w K mg base CX0 13 t.a_x45 t.d_x45 ["deeds"] (ba K Nd):=by
 have G_x44:=D9 (P:=P) (w:=w) (base:=base) T;refine T.F_x45.okD tq (λds Q h=>?_) (λcdv A outer s H O ds Q E hr h=>?_)
 ·obtain⟨xs,rfl,_⟩:=h;rfl
 ·obtain⟨xs,rfl,g,few,q⟩:=h;refine'⟨_,?body,?read⟩
  case body=>
   refine' aq ?s1 ?r1
   case s1=>exact(wH (i:=1) tq.nd rfl (by walk_at "o") wG)
   case' r1=>refine' aq ?s3 ?r3
   case s3=>
    refine' qB Pz rfl (PE.imp (aR G_x44 (hr.mono VG) rfl T.m_x44 T.F_x44.kp T.b_x44 .nil aG (aa (dv 0) ao)) aS) ?a4 (ic (cf aO (cf aO (cf aO ib)))) ?b4
    case a4=>exact(g6 (n:=3) rfl (cc (aL (i:=2) tq.nd rfl (by walk_at "o")) (cc (aL (i:=3) tq.nd rfl (by walk_at "o")) (cc (aL (i:=4) tq.nd rfl (by walk_at "o")) gZ))))
    case' b4=>refine' aA ?s5
    case s5=>exact(wI (i:=1) hr.units (pv 1) (dv 2) (dv 3))
   case' r3=>refine' aA ?s7
   case' s7=>refine' Bf 1 ?z8
   case z8=>exact(aU (dv 1))
  case read=>
  clear hr T G_x44;walk_at "rzr";have pl:=Eb g;have q:Q (Ea bN ((bW xs).foldl (λm p=>dj m p.nm p.d) [])):=q;refine⟨xs,rfl,g,few,_,rfl,?_⟩;generalize bW xs=ps at*;refine⟨λi δ=>∃(o2 o3 o4:Option Sl),δ=[some (Sl.v (OW (Pr De.enc xs))),some (Sl.k (fT bN ((ps.take i).foldl (λm p=>dj m p.nm p.d) []))),o2,o3,o4],⟨none,none,none,rfl⟩,?_,?_⟩
  ·rintro i z δ hz ⟨o2,o3,o4,rfl⟩;rw [OD] at hz;cases hz':ps[i]? with
   | none=>rw [hz'] at hz;cases hz
   | some r=>
    rw [hz'] at hz;cases hz;have ts:(ps.take (i+1)).foldl (λm p=>dj m p.nm p.d) []=dj ((ps.take i).foldl (λm p=>dj m p.nm p.d) []) r.nm r.d:=by
     rw [Pk,hz',RB];rfl
    have ml:((ps.take i).foldl (λm p=>dj m p.nm p.d) []).length<=0+(ps.take i).length:=yD (λr:Pl=>r.nm) (λr=>r.d) (ps.take i) [];rw [PF] at ml;simp only [ts];generalize (ps.take i).foldl (λm p=>dj m p.nm p.d) []=M at*;simp only [Pl.enc];walk_at "rzr";refine⟨by unfold fT;rw [Of];omega,D6 bN M r.nm r.d,?_⟩;exact⟨_,rfl⟩
  ·rintro δ ⟨o2,o3,o4,rfl⟩;rw [Of,O7 (Oj _)];generalize ps.foldl (λm p=>dj m p.nm p.d) []=M at*;walk_at "rzr";refine⟨M.map (·.1),D7 _ _,?_⟩;rw [D8];exact q
def mI(ps:List Pl)(z:Str):Option (Option Int):=ps.foldl (λo p=>if p.nm=z then some p.d else o) none
def qq(n:Int):Option (Option Int)->Bool
 | some (some d)=>decide (d > n)
 | _=>true
theorem yF{z:Str}:∀(rs:List Ro)(o:Option Ro),(∀r,o=some r->r.nm=z)->∀r,rs.foldl (λo r=>if r.nm=z then some r else o) o=some r->r.nm=z
 | [],o,h,r,e=>h r e
 | a::rs,o,h,r,e=>by
  rw [O4] at e;refine yF rs _ (λr' e'=>?_) r e;by_cases ha:a.nm=z
  ·rw [VJ ha] at e';cases e';exact ha
  ·rw [VI ha] at e';exact h r' e'
theorem Ec{z:Str}:∀(ps:List Pl)(o:Option (Option Int)),(o.isSome=true\/∃p∈ps,p.nm=z)->(ps.foldl (λo p=>if p.nm=z then some p.d else o) o).isSome=true
 | [],o,h=>by
  rcases h with h | ⟨p,hp,_⟩
  ·exact h
  ·cases hp
 | a::ps,o,h=>by
  rw [O4];refine Ec ps _ ?_;by_cases ha:a.nm=z
  ·rw [VJ ha];exact .inl rfl
  ·rw [VI ha];rcases h with h | ⟨p,hp,e⟩
   ·exact .inl h
   ·rcases OA.mp hp with y | y
    ·exact absurd (by rw [<-y];exact e) ha
    ·exact .inr ⟨p,y,e⟩
theorem Ng{xs:List De}{c:Pp}(h:c∈bB (aD xs)):∃p∈bW xs,p.nm=c.nm:=by
 refine⟨_,Oq.mpr ⟨c,h,rfl⟩,?_⟩;cases e:jL (eZ xs) c.nm with
 | none=>rfl
 | some r=>exact yF _ none (λr h=>nomatch h) r e
theorem Nh{xs:List De}{c:Pp}(h:c∈bB (aD xs)):∃o,iI (vH xs) c.nm=some o/\mI (bW xs) c.nm=some o:=by
 have e:iI (vH xs) c.nm=mI (bW xs) c.nm:=yE (λr:Pl=>r.nm) (λr=>r.d) c.nm (bW xs) [];have s:(mI (bW xs) c.nm).isSome=true:=Ec (bW xs) none (.inr (Ng h));obtain⟨o,ho⟩:=TJ.mp s;exact⟨o,e.trans ho,ho⟩
noncomputable def tJ(xs:List De)(n:Int):List Str:=(((bB (aD xs)).filter λc=>decide (c.d<=n)).map (·.nm)).filter λz=>qq n (mI (bW xs) z)
def F_x46:List VL->(VL->Prop)->Prop:=λds Q=>∃(xs:List De)(n:Int),ds=[.tuple (xs.map De.enc),.int n]/\cn xs/\jF xs/\Q (.tuple ((tJ xs n).map .str))
theorem Ni(T:Txt K mg t):aF P w K mg base CX0 14 t.a_x46 t.d_x46 ["deeds","day"] (ba K F_x46):=by
 have G_x45:=Nf (P:=P) (w:=w) (base:=base) T;have G_x10:=xU (P:=P) (w:=w) (base:=base) T;refine T.F_x46.okD xJ (λds Q h=>?_) (λcdv A outer s H O ds Q E hr h=>?_)
 ·obtain⟨xs,n,rfl,_⟩:=h;rfl
 ·obtain⟨xs,n,rfl,g,few,q⟩:=h;refine'⟨_,?body,?read⟩
  case body=>
   refine' aq ?s1 ?r1
   case s1=>exact(bw (i:=2) xJ.nd rfl (by walk_at "o") (PE.imp (aR G_x45 (hr.mono VG) rfl T.m_x45 T.F_x45.kp T.b_x45 .nil aG (aa (dv 0) ao)) aS))
   case' r1=>refine' aq ?s3 ?r3
   case s3=>exact(kH (i:=3) xJ.nd rfl (by walk_at "o") (Aw rfl D4 (df (PE.imp (aR G_x10 (hr.mono VG) rfl T.m_x10 T.F_x10.kp T.b_x10 .nil aG (aa (dv 0) ao)) aS)) aO bL VG (λ_ _ _ _=>(aL (i:=0) D4.nd rfl (by walk_at "o"))) (λ_ _ _ _=>(dJ (aQ qt dO (df (ar aC aI (df (dv 0)) (df ah))) (df (dv 1)) (aM _)))) (λ_ _ _ _=>(ar aC aI (df (dv 0)) (df ah)))))
   case' r3=>refine' aA ?s5
   case' s5=>refine' aU ?e6
   case e6=>exact(PE.imp (dA fc rfl T.n_tuple fg (bu (df (fe (d8 rfl D5 (df (dv 3)) aO bL VG (λ_ _ _ _=>(aL (i:=0) D5.nd rfl (by walk_at "o"))) (λ_ _ _ _=>(dJ (PW.pt (sP (aQ sI tf (df (Bg hr.units (dv 2) (dv 0) (λ_ _=>rfl))) (df fE) (aM _)) (sO (aQ sH dO (df (Bg hr.units (dv 2) (dv 0) (λ_ _=>rfl))) (df (dv 1)) (aM _))))))) (λ_ _ _ _=>(dv 0))))) bC)) (bU fj))
  case read=>
  clear hr T G_x45 G_x10;walk_at "rzr";have pl:=g.gd.gx.gp.ln;refine⟨xs,rfl,g,few,xs,.inr rfl,g.gd.gx,_,rfl,by rw [Of,iz];omega,?_⟩;refine cY (enc:=Pp.enc) (λc=>decide (c.d<=n)) (λc=>.str c.nm) (λc hc R S h=>?_) ?_
  ·simp only [Pp.enc];walk_at "rzr";by_cases hd:c.d<=n
   ·rw [VJ hd];rw [VJ (by simpa using hd)] at h;exact h
   ·rw [VI hd];rw [VI (by simpa using hd)] at h;exact h
  ·have fl:=Ph (λc:Pp=>decide (c.d<=n)) (bB (aD xs));rw [iz] at fl;have e1:(QN (λc:Pp=>decide (c.d<=n)) (bB (aD xs))).map (λc=>Oi c.nm)=((QN (λc:Pp=>decide (c.d<=n)) (bB (aD xs))).map (·.nm)).map Oi:=by rw [Ov];rfl
   refine⟨by rw [Of];omega,?_⟩;rw [e1];have key:∀z∈(QN (λc:Pp=>decide (c.d<=n)) (bB (aD xs))).map (·.nm),∃o,iI (vH xs) z=some o/\mI (bW xs) z=some o:=λz hz=>by
    obtain⟨c,hc,rfl⟩:=Oq.mp hz;exact Nh (Pa.mp hc).1
   have q:Q (.tuple ((((QN (λc:Pp=>decide (c.d<=n)) (bB (aD xs))).map (·.nm)).filter λz=>qq n (mI (bW xs) z)).map .str)):=q;generalize (QN (λc:Pp=>decide (c.d<=n)) (bB (aD xs))).map (·.nm)=cs at*;refine cY (enc:=Oi) (λz=>qq n (mI (bW xs) z)) Oi (λz hz R S h=>?_) q;obtain⟨o,h1,h2⟩:=key z hz;rw [h2] at h;walk_at "rzr";refine⟨_,_,rfl,bN o,by rw [vG bN,h1];rfl,?_⟩;cases o with
   | none=>
    rw [VJ (by rfl)];rw [VJ (by rfl)] at h;exact h
   | some d=>
    rw [VI (by simp [dF,bN])];refine⟨_,_,rfl,bN (some d),by rw [vG bN,h1];rfl,d,rfl,?_⟩;by_cases hd:n < d
    ·rw [VJ hd];rw [VJ (show qq n (some (some d))=true from decide_eq_true hd)] at h;exact h
    ·rw [VI hd];rw [VI (show ¬qq n (some (some d))=true by rw [show qq n (some (some d))=false from decide_eq_false hd];exact OF)] at h;exact h
end
end K78
open PySem L2
namespace K78
section
variable {b:Int}
theorem Ed(go:List (Str×Int))(z:Str):gB (go.map (qm b)) z=gB go z:=by
 unfold gB;rw [R4];rfl
theorem Nj(go:List (Str×Int))(k:Str)(d:Int):iG (go.map (qm b)) k (d+b)=(iG go k d).map (qm b):=by
 unfold iG;have e:((go.map (qm b)).any λp=>decide (p.1=k))=go.any λp=>decide (p.1=k):=Ed go k;rw [e];split
 ·rw [Ov,Ov];refine Pm λp _=>?_;simp only [P2];by_cases h:p.1=k
  ·rw [VJ h,VJ (show(qm b p).1=k from h)];rfl
  ·rw [VI h,VI (show ¬(qm b p).1=k from h)]
 ·rw [OM];rfl
def gY(b:Int)(m:dX):dX:=(m.1.map (qm b),m.2)
theorem Ee(m:dX)(r:Ro):bT (gY b m) (r.sh b)=gY b (bT m r):=by
 unfold bT gY;rw [show(r.sh b).lv=r.lv from rfl];exact Vm (Nj _ _ _) rfl
theorem Ef:∀(rs:List Ro)(m:dX),(rs.map (Ro.sh b)).foldl bT (gY b m)=gY b (rs.foldl bT m)
 | [],_=>rfl
 | r::rs,m=>by
  rw [Ol,O4,O4,Ee,Ef rs]
def Sf.sh(b:Int)(s:Sf):Sf:=(s.1.sh b,s.2.map (Pp.sh b))
theorem Eg(l:List Lk)(k:Lk):bP (l++[k])=bP l++if k.lets=true then [k.row] else []:=by
 unfold bP;rw [Te,OM];by_cases h:k.lets=true
 ·rw [VJ h,PH,VJ h];rfl
 ·rw [VI h,PH,VI h];rfl
theorem Eh(l m:List Lk):bP (l++m)=bP l++bP m:=by
 unfold bP;rw [Te,OM]
def Rl(b:Int)(st' st:dX×List Lk):Prop:=st'.1=gY b st.1/\bP st'.2=(bP st.2).map (Ro.sh b)
theorem Nk{R:Rn}{st' st:dX×List Lk}(h:Rl b st' st)(s:Sf):Rl b (cF (R.sh b) st' (Sf.sh b s)) (cF R st s):=by
 obtain⟨m',t'⟩:=st';obtain⟨m,t⟩:=st;obtain⟨h1,h2⟩:=h;have h1:m'=gY b m:=h1;have h2:bP t'=(bP t).map (Ro.sh b):=h2;subst h1;have c:(decide ((Sf.sh b s).1.c.d<=(R.sh b).n) && !gB (gY b m).1 (Sf.sh b s).1.c.nm)=(decide (s.1.c.d<=R.n) && !gB m.1 s.1.c.nm):=by
  rw [show gB (gY b m).1 (Sf.sh b s).1.c.nm=gB m.1 s.1.c.nm from Ed _ _];rw [show decide ((Sf.sh b s).1.c.d<=(R.sh b).n)=decide (s.1.c.d<=R.n) from decide_eq_decide.mpr (by show s.1.c.d+b<=R.n+b↔_;omega)]
 obtain⟨l1,l2⟩:=MZ (b:=b) (R.at m) s.1 s.2;have ea:(R.sh b).at (gY b m)=(R.at m).sh b:=rfl;unfold cF;simp only [c];by_cases hc:(decide (s.1.c.d<=R.n) && !gB m.1 s.1.c.nm)=true
 ·rw [VJ hc,VJ hc];rw [ea];have l1:(b5 ((R.at m).sh b) (Sf.sh b s).1 (Sf.sh b s).2).lets=(b5 (R.at m) s.1 s.2).lets:=l1;have l2:(b5 ((R.at m).sh b) (Sf.sh b s).1 (Sf.sh b s).2).row=(b5 (R.at m) s.1 s.2).row.sh b:=l2;refine⟨?_,?_⟩
  ·show(if _ then _ else _)=gY b (if _ then _ else _);rw [l1,l2];split
   ·exact Ee _ _
   ·rfl
  ·show bP (t'++[_])=(bP (t++[_])).map _;rw [Eg,Eg,l1,l2,OM,h2];split <;> rfl
 ·rw [VI hc,VI hc];exact⟨rfl,h2⟩
theorem Ei{R:Rn}:∀(ss:List Sf){st' st:dX×List Lk},Rl b st' st->Rl b ((ss.map (Sf.sh b)).foldl (cF (R.sh b)) st') (ss.foldl (cF R) st)
 | [],_,_,h=>h
 | s::ss,_,_,h=>Ei ss (Nk h s)
theorem Nl{xs:List De}(g:cn xs)(n:Int)(rows:List Ro):cE (xs.map (De.sh b)) (n+b) (rows.map (Ro.sh b))=(cE xs n rows).sh b:=by
 have e:(rows.map (Ro.sh b)).foldl bT ([],[])=gY b (rows.foldl bT ([],[])):=Ef rows ([],[]);unfold cE;rw [MK,MO g,MP,e];rfl
theorem Ej{xs:List De}(g:cn xs)(n:Int)(rows:List Ro)(ss:List Sf):bP (jK (xs.map (De.sh b)) (n+b) (rows.map (Ro.sh b)) (ss.map (Sf.sh b)))=(bP (jK xs n rows ss)).map (Ro.sh b):=by
 unfold jK iH;rw [Nl g];exact(Ei ss ⟨rfl,rfl⟩).2
theorem Nm(xs:List De):dG (xs.map (De.sh b))=(dG xs).map (Sf.sh b):=by
 unfold dG;rw [mH,qT,Ov,Ov];refine Pm λc _=>?_;simp only [P2,Sf.sh];rw [DJ,ME]
theorem Ek{xs:List De}(g:cn xs)(ss:List Sf):∀(ns:List Int){st' st:List Ro×List Lk},st'.1=st.1.map (Ro.sh b)->bP st'.2=(bP st.2).map (Ro.sh b)->
 bP ((ns.map (·+b)).foldl (qU (xs.map (De.sh b)) (ss.map (Sf.sh b))) st').2=(bP (ns.foldl (qU xs ss) st).2).map (Ro.sh b)
 | [],_,_,_,h=>h
 | n::ns,(r',t'),(r,t),h1,h2=>by
  have h1:r'=r.map (Ro.sh b):=h1;have h2:bP t'=(bP t).map (Ro.sh b):=h2;subst h1;rw [Ol,O4,O4];refine Ek g ss ns ?_ ?_
  ·show r.map (Ro.sh b)++bP _=(r++bP _).map (Ro.sh b);rw [Ej g,OM]
  ·show bP (t'++_)=(bP (t++_)).map _;rw [Eh,Eh,Ej g,OM,h2]
theorem Nn(r:Rp)(s:bS):qh (r.sh b) s=(qh r s).map (·+b):=by
 cases s with
 | com=>rfl
 | fst wd=>show(dh (r.sh b).hs wd).take 1=((dh r.hs wd).take 1).map _;rw [show(r.sh b).hs=r.hs.map (cG b) from rfl,yB,SM]
 | lst wd=>show dh (r.sh b).hs wd=(dh r.hs wd).map _;rw [show(r.sh b).hs=r.hs.map (cG b) from rfl,yB]
theorem yG(kd:Str)(s:bS)(k:Int)(u:Str):∀rs:List Rp,fA (rs.map (Rp.sh b)) kd s k u=(fA rs kd s k u).map (·+b)
 | []=>rfl
 | r::rs=>by
  have ih:=yG kd s k u rs;unfold fA at ih⊢;rw [Ol,Qv,Qv,OM,ih];congr 1;rw [show(r.sh b).c.kd=r.c.kd from rfl];split
  ·rw [Nn,Ov,Ov];refine Pm λd _=>?_;simp only [P2,yA];omega
  ·rfl
theorem El(xs:List De):dS (xs.map (De.sh b))=(dS xs).map (Rp.sh b):=by
 unfold dS;rw [mH,qT,Ov,Ov];refine Pm λc _=>?_;simp only [P2];rw [DJ]
theorem Np(xs:List De)(x:De):bO (xs.map (De.sh b)) (x.sh b)=(bO xs x).map (·+b):=by
 cases x with
 | pap p=>rfl
 | oth w d nm r=>
  simp only [De.sh];unfold bO;split
  ·rename_i e;simp only [De.oth.injEq] at e;obtain⟨rfl,rfl,rfl,rfl⟩:=e;simp only;split
   ·split
    ·rw [El,yG]
    ·rw [El];split <;> rw [yG]
    ·rfl
   ·rfl
  ·rename_i e;split
   ·rename_i e2;simp only [De.oth.injEq] at e2;obtain⟨rfl,rfl,rfl,rfl⟩:=e2;exact absurd rfl (e _ _ _ _ _ _ _ _)
   ·rfl
theorem yH(xs:List De):gU (xs.map (De.sh b))=(gU xs).map (·+b):=by
 unfold gU;rw [OM,Ov,Ov];congr 1
 ·exact Pm λx _=>De.sh_d x
 ·have key:∀ys:List De,(ys.map (De.sh b)).flatMap (bO (xs.map (De.sh b)))=(ys.flatMap (bO xs)).map (·+b):=λys=>by
   induction ys with
   | nil=>rfl
   | cons y ys ih=>rw [Ol,Qv,Qv,OM,ih,Np]
  exact key xs
theorem De.sh_back(x:De):(x.sh b).sh (-b)=x:=by
 cases x with
 | pap p=>
  simp only [De.sh,Pp.sh];rw [show p.d+b+-b=p.d by omega]
 | oth w d nm r=>
  simp only [De.sh];rw [show d+b+-b=d by omega]
theorem Em{xs:List De}{ns:List Int}(h:mF xs ns):mF (xs.map (De.sh b)) (ns.map (·+b)):=by
 refine⟨λz=>?_,?_⟩
 ·rw [yH,Oq,Oq];simp only [h.1]
 ·rw [Px];exact h.2.imp λ{a c} z=>by omega
theorem En(xs:List De):dU (xs.map (De.sh b))=(dU xs).map (·+b):=by
 by_cases h:∃ns,mF xs ns
 ·obtain⟨ns,h⟩:=h;rw [<-yi h,<-yi (Em h)]
 ·have h':¬ ∃ns,mF (xs.map (De.sh b)) ns:=λuu71=>by obtain⟨ns,z⟩:=uu71;exact h ⟨ns.map (·+-b),by
   have:=Em (b:=-b) z;rw [Ov] at this;have e:xs.map (De.sh (-b)∘ De.sh b)=xs:=by
    conv=>rhs;rw [<-UT xs]
    exact Pm λz _=>De.sh_back z
   rwa [e] at this⟩
  unfold dU;rw [dif_neg h,dif_neg h'];rfl
theorem Nq{xs:List De}(g:cn xs):eZ (xs.map (De.sh b))=(eZ xs).map (Ro.sh b):=by
 unfold eZ fS;rw [Nm,En];exact Ek g _ _ rfl rfl
def Pl.sh(b:Int)(p:Pl):Pl:=⟨p.nm,p.d.map (·+b),p.lv⟩
theorem yI(z:Str):∀(rs:List Ro)(o:Option Ro),(rs.map (Ro.sh b)).foldl (λo r=>if r.nm=z then some r else o) (o.map (Ro.sh b))=(rs.foldl (λo r=>if r.nm=z then some r else o) o).map (Ro.sh b)
 | [],_=>rfl
 | r::rs,o=>by
  rw [Ol,O4,O4];by_cases h:r.nm=z
  ·rw [VJ h,VJ (show(r.sh b).nm=z from h)];exact yI z rs (some r)
  ·rw [VI h,VI (show ¬(r.sh b).nm=z from h)];exact yI z rs o
theorem Eo{xs:List De}(g:cn xs):bW (xs.map (De.sh b))=(bW xs).map (Pl.sh b):=by
 unfold bW;rw [mH,qT,Ov,Ov];refine Pm λc _=>?_;simp only [P2];rw [show(c.sh b).nm=c.nm from rfl,Nq g,show jL ((eZ xs).map (Ro.sh b)) c.nm=(jL (eZ xs) c.nm).map (Ro.sh b) from yI c.nm (eZ xs) none];cases jL (eZ xs) c.nm <;> rfl
theorem yJ(z:Str):∀(ps:List Pl)(o:Option (Option Int)),(ps.map (Pl.sh b)).foldl (λo p=>if p.nm=z then some p.d else o) (o.map (TC (·+b)))=(ps.foldl (λo p=>if p.nm=z then some p.d else o) o).map (TC (·+b))
 | [],_=>rfl
 | r::rs,o=>by
  rw [Ol,O4,O4];by_cases h:r.nm=z
  ·rw [VJ h,VJ (show(r.sh b).nm=z from h)];exact yJ z rs (some r.d)
  ·rw [VI h,VI (show ¬(r.sh b).nm=z from h)];exact yJ z rs o
theorem Nr(n:Int)(o:Option (Option Int)):qq (n+b) (o.map (TC (·+b)))=qq n o:=by
 cases o with
 | none=>rfl
 | some o=>
  cases o with
  | none=>rfl
  | some d=>exact decide_eq_decide.mpr (by show d+b > n+b↔d > n;omega)
theorem Nt{xs:List De}(g:cn xs)(n:Int):tJ (xs.map (De.sh b)) (n+b)=tJ xs n:=by
 unfold tJ;rw [mH,qT,qo (p:=λc:Pp=>decide (c.d<=n+b)) (q:=λc:Pp=>decide (c.d<=n)) (λc=>decide_eq_decide.mpr (by show c.d+b<=n+b↔_;omega)),Ov];rw [show(((λx:Pp=>x.nm)∘ Pp.sh b):Pp->Str)=λx=>x.nm from rfl];congr 1;funext z;rw [Eo g,show mI ((bW xs).map (Pl.sh b)) z=(mI (bW xs) z).map (TC (·+b)) from yJ z (bW xs) none,Nr]
theorem jF.sh{xs:List De}(f:jF xs):jF (xs.map (De.sh b)):=by
 obtain⟨h1,L,h2,h3⟩:=f;refine⟨by rw [yH,Of];exact h1,L.map (·+b),by rw [Of];exact h2,λz hz=>?_⟩;rw [yH] at hz;obtain⟨y,hy,rfl⟩:=Oq.mp hz;exact Oq.mpr ⟨y,h3 y hy,rfl⟩
theorem tK{xs:List De}{w nm:Str}{d:Int}{r:List VL}(h:De.oth w d nm r∈xs.map (De.sh b)):De.oth w (d - b) nm r∈xs:=by
 obtain⟨y,hy,e⟩:=Oq.mp h;cases y with
 | pap p=>cases e
 | oth w' d' nm' r'=>
  simp only [De.sh,De.oth.injEq] at e;obtain⟨rfl,rfl,rfl,rfl⟩:=e;rw [Int.add_sub_cancel];exact hy
theorem yK{xs:List De}{A:De->Prop}{B:De->De->Prop}(ha:∀x,A (De.sh b x)->A x)(hb:∀x y,B (De.sh b x) (De.sh b y)->B x y)(h:∀x∈xs,∀y∈xs,A x->A y->B x y->x=y):∀x∈xs.map (De.sh b),∀y∈xs.map (De.sh b),A x->A y->B x y->x=y:=by
 intro x' hx' y' hy' a1 a2 a3;obtain⟨x,hx,rfl⟩:=Oq.mp hx';obtain⟨y,hy,rfl⟩:=Oq.mp hy';rw [h x hx y hy (ha x a1) (ha y a2) (hb x y a3)]
theorem cn.sh{xs:List De}(g:cn xs)(hb:∀x∈xs,0<=x.d+b/\x.d+b < 100000):cn (xs.map (De.sh b)):=by
 obtain⟨⟨⟨⟨p1,p2,p3,p4,p5⟩,x2,x3,x4,x5⟩,d2,d3,d4,d5,d6⟩,n2,n3,n4,n5⟩:=g;have pm:∀{Φ:Pp->Prop},(∀p∈aD xs,Φ (p.sh b))->∀p∈aD (xs.map (De.sh b)),Φ p:=λh p hp=>by
  rw [mH] at hp;obtain⟨q,hq,rfl⟩:=Oq.mp hp;exact h q hq
 have xm:∀{Φ:De->Prop},(∀x∈xs,Φ (x.sh b))->∀x∈xs.map (De.sh b),Φ x:=λh p hp=>by
  obtain⟨q,hq,rfl⟩:=Oq.mp hp;exact h q hq
 refine⟨⟨⟨⟨by rw [mH,Of];exact p1,by rw [mH,Ov];exact p2,pm p3,pm p4,pm p5⟩,λw d nm r h=>x2 w _ nm r (tK h),by rw [Of];exact x3,xm λx hx=>by rw [De.sh_w];exact x4 x hx,xm λx hx=>by rw [De.sh_nm];exact x5 x hx⟩,λd nm r h=>d2 _ nm r (tK h),λd nm r h=>d3 _ nm r (tK h),?_,xm λx hx=>by rw [De.sh_d];exact hb x hx,?_⟩,λd nm r h=>n2 _ nm r (tK h),λd nm r h=>n3 _ nm r (tK h),?_,?_⟩
 ·rw [SD,Px];exact d4.imp λh e=>h (De.sh_inj e)
 ·have:=yK (b:=b) (xs:=xs) (A:=λx=>x.isE=true) (B:=λx y=>x.d=y.d/\x.nm=y.nm) (λx h=>by rw [De.sh_isE] at h;exact h) (λx y h=>by rw [De.sh_d,De.sh_d,De.sh_nm,De.sh_nm] at h;exact⟨VH,h.2⟩) (λx hx y hy a1 a2 a3=>d6 x hx y hy a1 a2 a3.1 a3.2);exact λx hx y hy a1 a2 a3 a4=>this x hx y hy a1 a2 ⟨a3,a4⟩
 ·have:=yK (b:=b) (xs:=xs) (A:=λx=>x.isL=true) (B:=λx y=>x.d=y.d/\x.nm=y.nm) (λx h=>by rw [De.sh_isL] at h;exact h) (λx y h=>by rw [De.sh_d,De.sh_d,De.sh_nm,De.sh_nm] at h;exact⟨VH,h.2⟩) (λx hx y hy a1 a2 a3=>n4 x hx y hy a1 a2 a3.1 a3.2);exact λx hx y hy a1 a2 a3 a4=>this x hx y hy a1 a2 ⟨a3,a4⟩
 ·exact yK (b:=b) (xs:=xs) (A:=λx=>x.w=Od "leave") (B:=λx y=>x.nm=y.nm) (λx h=>by rw [De.sh_w] at h;exact h) (λx y h=>by rw [De.sh_nm,De.sh_nm] at h;exact h) n5
end
end K78
open PySem L2
namespace K78
section
variable {P:VY} {w:VZ} {K:Oe} {mg:Str->Option VM} {base:V0} {t:cm}
theorem Nu{g:DG}{tb:DS}{E:hW}{xs:List VL}{δf:Int->Dl}{C D p q X:Prop} [Decidable C] [Decidable D]{d1 d2 d3:Int}(hp:p)(hq:q)(hX:X)(key:∀dg,j6 g tb E xs (δf dg)):
 if C then p/\q/\j6 g tb E xs (δf d1) else X/\if D then p/\q/\j6 g tb E xs (δf d2) else p/\q/\j6 g tb E xs (δf d3):=by
 split
 ·exact⟨hp,hq,key _⟩
 ·refine⟨hX,?_⟩;split
  ·exact⟨hp,hq,key _⟩
  ·exact⟨hp,hq,key _⟩
def Ep:List VL->(VL->Prop)->Prop:=λds Q=>∃(ns:List Int)(k:Int),ds=[gG (ns.map .int),.int k]/\0<=k/\k<=1000/\∀c:Int,Q (.int c)
theorem Er(T:Txt K mg t):aF P w K mg base CX0 1 t.a_x47 t.d_x47 ["_law_script","_law_k"] (ba K Ep):=by
 refine T.F_x47.okD vj (λds Q h=>?_) (λcdv A outer s H O ds Q E hr h=>?_)
 ·obtain⟨ns,k,rfl,_⟩:=h;rfl
 ·obtain⟨ns,k,rfl,k0,k1,q⟩:=h;refine'⟨_,?body,?read⟩
  case body=>
   refine' aq ?s1 ?r1
   case s1=>
    refine' bF ?c2 ?a2 bE
    case c2=>exact(aQ sG dO (df (dv 1)) (df (PE.imp (dq mN rfl T.n_len Rh (bu (df (dv 0)) bC)) (bU Ac))) (aM _))
    case' a2=>refine' aA ?s3
    case s3=>exact(aU (ar bj IG (df (dv 0)) (df (dv 1))))
   case' r1=>refine' aq ?s5 ?r5
   case s5=>
    refine' bw (i:=2) vj.nd rfl (by walk_at "o") ?e6 (hs:=uQ)
    case e6=>exact(aH bJ bp (df (aH mM bp (df ah) (df (aH dY cQ (df (aH dY cQ (df (aH mM bp (df (dv 1)) (df (dv 1)))) (df (aH mM bp (df ah) (df (dv 1)))))) (df ah))))) (df ah))
   case' r5=>refine' aq ?s8 ?r8
   case s8=>
    refine' qA Pz rfl (fe (IH (df (dv 0)) rj (cR ah))) ?a9 aO ?b9
    case a9=>exact(aL (i:=3) vj.nd rfl (by walk_at "o"))
    case' b9=>refine' aA ?s10
    case' s10=>refine' bw (i:=2) vj.nd rfl (by walk_at "o") ?e11 (hs:=uQ)
    case e11=>exact(aH bJ bp (df (aH dY cQ (df (aH mM bp (df (dv 2)) (df ah))) (df (dv 3)))) (df ah))
   case' r8=>refine' aA ?s13
   case s13=>exact(aU (dv 2))
  case read=>
  clear hr T;walk_at "rz";refine⟨_,rfl,?_⟩;rw [Of];split
  ·rename_i hlt;obtain⟨j,rfl⟩:=Q9 k0;have hj:j < ns.length:=VH
   exact⟨_,rfl,.int ns[j],gF (by simp [hj]),q _⟩
  ·refine⟨.inl ⟨VH,VH⟩,_,rfl,λi δ=>∃(st:Int)(o:Option Sl),δ=[some (Sl.v (gG (ns.map .int))),some (Sl.v (.int k)),some (Sl.v (.int st)),o],⟨_,_,rfl⟩,?_,?_⟩
   ·rintro i x δ hx ⟨st,o,rfl⟩;have hm:=OY hx;unfold cg at hm;have hm2:=Uk (RH hm);obtain⟨c,_,rfl⟩:=Oq.mp hm2;walk_at "rz"
    first | exact⟨_,_,rfl,rfl⟩ | exact⟨⟨_,rfl⟩,⟨_,rfl⟩⟩
   ·rintro δ ⟨st,o,rfl⟩;walk_at "rz";exact q _
def Es:List VL->(VL->Prop)->Prop:=λds Q=>∃c m:Int,ds=[.int c,.int m]/\0<=m/\m<=64/\∀ns:List Int,(ns.length:Int)=m->(∀z∈ns,0<=z/\z < 2000000000)->Q (.list (ns.map .int))
theorem Et(T:Txt K mg t):aF P w K mg base CX0 1 t.a_x48 t.d_x48 ["_law_cell_here","_law_many"] (ba K Es):=by
 refine T.F_x48.okD pZ (λds Q h=>?_) (λcdv A outer s H O ds Q E hr h=>?_)
 ·obtain⟨c,m,rfl,_⟩:=h;rfl
 ·obtain⟨c,m,rfl,m0,m1,q⟩:=h;refine'⟨_,?body,?read⟩
  case body=>
   refine' aq ?s1 ?r1
   case s1=>exact(ia (i:=2) pZ.nd rfl (by walk_at "o") (dN ao))
   case' r1=>refine' aq ?s3 ?r3
   case s3=>
    refine' bw (i:=3) pZ.nd rfl (by walk_at "o") ?e4 (hs:=uQ)
    case e4=>exact(aH bJ bp (df (aH mM bp (df (aH dY cQ (df (aH bJ bp (df (dv 0)) (df ah))) (df ah))) (df ah))) (df ah))
   case' r3=>refine' aq ?s6 ?r6
   case s6=>exact(bw (i:=4) pZ.nd rfl (by walk_at "o") ah)
   case' r6=>refine' aq ?s8 ?r8
   case s8=>
    refine' bF ?c9 ?a9 bE
    case c9=>exact(PW.pt (sP (aQ sG dO (df (dv 0)) (df ah) (aM _)) (sO (aQ FK dO (df (dv 0)) (df (aH FH bp (df ah) (df ah))) (aM _)))))
    case' a9=>refine' aA ?s10
    case s10=>exact(bw (i:=4) pZ.nd rfl (by walk_at "o") (PE.imp (dq FT rfl T.n_abs PyProof.Rows.boot_abs (bu (df (dv 0)) bC)) (bU IF)))
   case' r8=>refine' aq ?s12 ?r12
   case s12=>
    refine' z6 Pz rfl rfl T.n_range (aa (dv 1) ao) ?a13 aO ?b13
    case a13=>exact(aL (i:=5) pZ.nd rfl (by walk_at "o"))
    case' b13=>refine' aq ?s14 ?r14
    case s14=>
     generalize hG15:Expr.BinOp _ _ _ _=eg15;refine' bw (i:=3) pZ.nd rfl (by walk_at "o") ?e15 (hs:=by subst hG15;exact uQ)
     case' e15=>subst hG15
     exact(aH bJ bp (df (aH dY cQ (df (aH dY cQ (df (aH mM bp (df (dv 3)) (df (aH dY cQ (df (aH bJ bp (df (dv 3)) (df ah))) (df ah))))) (df (aH mM bp (df ah) (df (dv 5)))))) (df ah))) (df ah))
    case' r14=>refine' aq ?s17 ?r17
    case s17=>
     refine' j0 (i:=2) (pv 2) ?e18
     case' e18=>refine' ar bj bq (df ?a19) ?b19
     case a19=>exact(fe (dN (aa (dv 3) (aa (aH bJ bp (df (dv 4)) (df ah)) ao))))
     case b19=>exact(df (PE.imp (dA zt rfl T.n_int zT (bu (df (fF sH dO (df (dv 4)) (df ah) (aM _))) bC)) (bU Ah)))
    case' r17=>refine' aA ?s21
    case s21=>exact(bw (i:=4) pZ.nd rfl (by walk_at "o") (aH q5 bp (df (dv 4)) (df ah)))
   case' r12=>refine' aA ?s23
   case s23=>exact(sR (pv 2))
  case read=>
  clear hr T;walk_at "rz";have bt:0<=(c % 1999999913+41)*674506081 % 1999999913/\(c % 1999999913+41)*674506081 % 1999999913 < 1999999913:=⟨Rv _ VG,QW _ VG⟩;generalize (c % 1999999913+41)*674506081 % 1999999913=st at*;have b1:-4611686018427387904<=m:=VH
  have b2:m < 4611686018427387904:=VH
  refine Nu (δf:=λdg=>[some (Sl.v (.int c)),some (Sl.v (.int m)),some (Sl.o []),some (Sl.v (.int st)),some (Sl.v (.int dg)),none]) b1 b2 VG ?key
  case key=>
   intro dg;refine⟨λi δ=>∃(ns:List Int)(st dg:Int)(o:Option Sl),ns.length=i/\(∀z∈ns,0<=z/\z < 2000000000)/\0<=st/\st < 1999999913/\δ=[some (Sl.v (.int c)),some (Sl.v (.int m)),some (Sl.o (ns.map .int)),some (Sl.v (.int st)),some (Sl.v (.int dg)),o],⟨[],st,dg,none,rfl,by simp,bt.1,bt.2,rfl⟩,?_,?_⟩
   ·rintro i x δ hx ⟨ns,st,dg,o,hl,hn,s0,s1,rfl⟩;obtain⟨hi,rfl⟩:=uJ hx;clear bt;walk_at "rz";have n0:0<=(st*(st % 64921+39119)+11*(0+(i:Int))+3)% 1999999913:=Rv _ VG;have n1:(st*(st % 64921+39119)+11*(0+(i:Int))+3)% 1999999913 < 1999999913:=QW _ VG;generalize (st*(st % 64921+39119)+11*(0+(i:Int))+3)% 1999999913=nx at*;have d0:0<=dg % 1000000:=Rv _ VG;have d1:dg % 1000000 < 1000000:=QW _ VG;obtain⟨z,hz,z0,z1⟩:∃z:Int,atI [OZ nx,OZ (dg % 1000000)] (if 0 < dg then 1 else 0)=some (.int z)/\0<=z/\z < 2000000000:=by
     split
     ·exact⟨_,fk,d0,VH⟩
     ·exact⟨_,cT,n0,VH⟩
    refine⟨.inl ⟨VH,VH⟩,.int z,hz,by rw [Of];omega,⟨_,rfl⟩,ns++[z],by simp [hl],λy hy=>?_,nx,n0,n1,by simp,rfl,_,rfl⟩;rcases OL.mp hy with h | h
    ·exact hn y h
    ·rw [OO] at h;rw [h];exact⟨z0,z1⟩
   ·rintro δ ⟨ns,st,dg,o,hl,hn,s0,s1,rfl⟩;walk_at "rz";have hm:(ns.length:Int)=m:=by rw [hl];unfold qy;simp;omega
    exact q ns hm hn
end
end K78
open PySem L2
namespace K78
theorem Eu:bb (ag gN) ["_law_x","_law_many","_law_letters","_law_words","_law_size","_law_at","_law_stem","_law_ends"] ["_law_k","_law_words","_law_x"] 1 [3,0] {kind:=Ou,names:=[ (Og ".0",PySem.NameKind.local),(Og "_law_k",PySem.NameKind.local),(Og "len",O9),(Og "_law_words",OE),(Og "_law_x",OE)],isGenerator:=false,isCoroutine:=false,more:=[]:O3}:=⟨rfl,cp,cp,cp,rfl,cp,cp,cp,rfl⟩
theorem Ew:bb (ag gN) ["_law_x","_law_many","_law_letters","_law_words","_law_size","_law_at","_law_stem","_law_ends"] ["_law_k","_law_letters","_law_x"] 1 [2,0] {kind:=Ou,names:=[ (Og ".0",PySem.NameKind.local),(Og "_law_k",PySem.NameKind.local),(Og "_law_letters",OE),(Og "_law_x",OE)],isGenerator:=false,isCoroutine:=false,more:=[]:O3}:=⟨rfl,cp,cp,cp,rfl,cp,cp,cp,rfl⟩
theorem Ey:bb (ag gN) ["_law_x","_law_many","_law_letters","_law_words","_law_size","_law_at","_law_stem","_law_ends"] ["_law_one","_law_stem","_law_at","_law_size"] 1 [6,5,4] {kind:=Ou,names:=[ (Og ".0",PySem.NameKind.local),(Og "_law_one",PySem.NameKind.local),(Og "_law_at",OE),(Og "_law_size",OE),(Og "_law_stem",OE)],isGenerator:=false,isCoroutine:=false,more:=[]:O3}:=⟨rfl,cp,cp,cp,rfl,cp,cp,cp,rfl⟩
section
variable {P:VY} {w:VZ} {K:Oe} {mg:Str->Option VM} {base:V0} {t:cm}
theorem Nv{c:Nat}{n:Int}(h0:0<=n):(Tq ⟨#[c]⟩ n).cps.toList=OX n.toNat c:=by
 have key:∀(k:Nat)(a:Array Nat),((OX k #[c]).foldl (·++·) a).toList=a.toList++OX k c:=by
  intro k
  induction k with
  | zero=>intro a;simp
  | succ k ih=>intro a;rw [Ur,O4,ih];simp [Ur]
 unfold Tq;split
 ·rw [show n.toNat=0 by omega];rfl
 ·split
  ·rename_i h;have:n=1:=by
    rw [show(⟨#[c]⟩:Str).length=1 from rfl] at h;simpa using h
   subst this;rfl
  ·show((OX n.toNat #[c]).foldl (·++·) #[]).toList=_;rw [key];rfl
theorem mul_one{c:Nat}(hc:c < 0x110000){n:Int}(h0:0<=n)(h1:n<=50):PySem.MulOk ⟨#[c]⟩ n/\mY n.toNat (Tq ⟨#[c]⟩ n):=by
 have lc:(⟨#[c]⟩:Str).length=1:=rfl;constructor
 ·refine⟨by simp;omega,λa b=>?_,λa b=>?_⟩
  ·rw [lc];have:(2 ^ 63 - 1:Int)/ n >= 1:=by rw [ge_iff_le,Int.le_ediv_iff_mul_le VH];omega
   omega
  ·rw [lc];obtain⟨k,rfl⟩:=Q9 h0;rw [Nat.one_mul];unfold PySem.Builtin.Str.tooLong;simp;have:VW=16777216:=by first | rfl | decide | exact Wh
   omega
 ·have l:=Nv (c:=c) h0;refine⟨sV.mpr λd hd=>?_,?_⟩
  ·rw [l] at hd;rw [(List.mem_replicate.mp hd).2];exact hc
  ·show(Tq ⟨#[c]⟩ n).cps.size<=_;rw [<-OU,l,SS];exact Oj _
def yL:List Str:=["paper","rule","keep","gone","coming","days","first","last","kind","deep","end","hold","lift","leave","while","follow","happens","none","never","months","there","plan"]
theorem Nw:∀z∈yL,Om z=true:=by
 intro z hz;have a:yL.all Om=true:=cp
 exact QS.mp a z hz
def Nx:List VL->(VL->Prop)->Prop:=λds Q=>∃x m:Int,ds=[.int x,.int m]/\0<=m/\m<=50/\∀ss:List Str,(ss.length:Int)=m->(∀z∈ss,Om z=true)->Q (.list (ss.map .str))
theorem Ny(T:Txt K mg t):aF P w K mg base CX0 1 t.a_x49 t.d_x49 ["_law_x","_law_many"] (ba K Nx):=by
 refine T.F_x49.okD p6 (λds Q h=>?_) (λcdv A outer s H O ds Q E hr h=>?_)
 ·obtain⟨x,m,rfl,_⟩:=h;rfl
 ·obtain⟨x,m,rfl,m0,m1,q⟩:=h;refine'⟨_,?body,?read⟩
  case body=>
   refine' aq ?s1 ?r1
   case s1=>exact(bw (i:=2) p6.nd rfl (by walk_at "o") aY)
   case' r1=>refine' aq ?s3 ?r3
   case s3=>
    generalize hE4_0:T3 _ _=ee4_0;exact bw (i:=3) p6.nd rfl (by walk_at "o") (fe (sU (ds:=[.str "paper",.str "rule",.str "keep",.str "gone",.str "coming",.str "days",.str "first",.str "last",.str "kind",.str "deep",.str "end",.str "hold",.str "lift"]) (by first | (subst hE4_0;rfl)))) (hs:=wz (ds:=[.str "paper",.str "rule",.str "keep",.str "gone",.str "coming",.str "days",.str "first",.str "last",.str "kind",.str "deep",.str "end",.str "hold",.str "lift"]) (by first | (subst hE4_0;rfl)))
   case' r3=>refine' aq ?s5 ?r5
   case s5=>
    generalize hE6_0:T3 _ _=ee6_0;exact(bw (i:=3) p6.nd rfl (by walk_at "o") (fe (Hz (df (dv 3)) (df (fe (sU (ds:=[.str "leave",.str "while",.str "follow",.str "happens",.str "none",.str "never",.str "months",.str "there",.str "plan"]) (by first | (subst hE6_0;rfl))))))))
   case' r5=>refine' aq ?s7 ?r7
   case s7=>
    refine' bF ?c8 ?a8 bE
    case c8=>exact(aQ (dB hr.units) dD (df (aH bJ bp (df (aH q5 bp (df (dv 0)) (df ah))) (df ah))) (df ah) (aM _))
    case' a8=>refine' aA ?s9
    case' s9=>refine' aU ?e10
    case' e10=>refine' fe ?f11
    case f11=>exact(Hw rfl Eu rfl T.n_range (bu (df (dv 1)) bC) aO bL VG (λ_ _ _ _=>(aL (i:=0) Eu.nd rfl (by walk_at "o"))) (λ_ _ _ _=>cS) (λ_ _ _ _=>(ar bj bq (df (dv 1)) (df (aH bJ bp (df (aH dY cQ (df (aH q5 bp (df (dv 2)) (df ah))) (df (dv 0)))) (df (PE.imp (dq mN rfl T.n_len Rh (bu (df (dv 1)) bC)) (bU ro))))))))
   case' r7=>refine' aq ?s13 ?r13
   case s13=>exact(bw (i:=4) p6.nd rfl (by walk_at "o") (aH dY cQ (df ah) (df (aH bJ bp (df (dv 0)) (df ah)))))
   case' r13=>refine' aq ?s15 ?r15
   case s15=>exact(bw (i:=5) p6.nd rfl (by walk_at "o") (aH bJ bp (df (aH q5 bp (df (dv 0)) (df ah))) (df (dv 4))))
   case' r15=>refine' aq ?s17 ?r17
   case s17=>
    refine' bw (i:=6) p6.nd rfl (by walk_at "o") ?e18 (hs:=wF)
    case e18=>exact(ar zL Ag (df (dv 2)) (df (aH bJ bp (df (aH q5 bp (df (dv 0)) (df ah))) (df ah))))
   case' r17=>refine' aq ?s20 ?r20
   case s20=>exact(kH (i:=7) p6.nd rfl (by walk_at "o") (Ie rfl Ew rfl T.n_range (bu (df (dv 1)) bC) aO bL VG (λ_ _ _ _=>(aL (i:=0) Ew.nd rfl (by walk_at "o"))) (λ_ _ _ _=>cS) (λ_ _ _ _=>(ar zL Ag (df (dv 1)) (df (aH bJ bp (df (aH dY cQ (df (aH q5 bp (df (dv 2)) (df ah))) (df (aH mM bp (df ah) (df (dv 0)))))) (df ah)))))))
   case' r20=>refine' aA ?s22
   case' s22=>refine' aU ?e23
   case' e23=>refine' fe ?f24
   case f24=>exact(d8 rfl Ey (df (dv 7)) aO bL VG (λ_ _ _ _=>(aL (i:=0) Ey.nd rfl (by walk_at "o"))) (λ_ _ _ _=>cS) (λ_ _ _ _=>(aH zq Af (df (aH zq Af (df (aH AO AQ (df (dv 1)) (df (dv 2)))) (df (dv 0)))) (df (aH AO AQ (df (dv 1)) (df (aH vU cQ (df (aH vU cQ (df (dv 3)) (df (dv 2)))) (df ah))))))))
  case read=>
  clear hr T;walk_at "rz";split
  ·refine⟨VH,by have:(16777216:Nat)=(16777216:Int):=rfl;omega,?_⟩;refine⟨λi acc=>∃ys:List Str,acc=ys.map .str/\ys.length=i/\∀y∈ys,Om y=true,⟨[],rfl,rfl,by simp⟩,?_,?_⟩
   ·rintro i z acc hz ⟨ys,rfl,hl,hg⟩;obtain⟨hi,rfl⟩:=uJ hz;walk_at "rz";obtain⟨v,e1,m1⟩:=uu (xs:=yL.map Oi) (i:=(x / 344+(0+(i:Int)))% 22) VH (by show _ < (22:Int);omega);obtain⟨nm,hnm,rfl⟩:=Oq.mp m1;refine⟨VG,_,e1,ys++[nm],by rw [OM];rfl,by simp [hl],λy hy=>?_⟩;rcases OL.mp hy with h | h
    ·exact hg y h
    ·rw [OO] at h;rw [h];exact Nw nm hnm
   ·rintro acc ⟨ys,rfl,hl,hg⟩;rw [wu] at hl;exact q ys VH hg
  ·refine⟨VH,cp,?_⟩;obtain⟨c,e1,_,c1⟩:=Av (j:=x / 64 % 26) VH VH;refine⟨c,e1,VH,by have:(16777216:Nat)=(16777216:Int):=rfl;omega,?_⟩;generalize hsz:1+x % 8=sz;have s0:1<=sz:=VH
   have s1:sz<=8:=VH
   generalize hat:x / 8 % sz=at0;have a0:0<=at0:=by rw [<-hat];exact Rv _ VH
   have a1:at0 < sz:=by rw [<-hat];exact QW _ VH
   clear hsz hat;refine⟨λi acc=>∃ys:List Nat,acc=ys.map (λy=>.str ⟨#[y]⟩)/\ys.length=i/\∀y∈ys,y < 0x110000,⟨[],rfl,rfl,by simp⟩,?_,?_⟩
   ·rintro i z acc hz ⟨ys,rfl,hl,hg⟩;obtain⟨hi,rfl⟩:=uJ hz;walk_at "rz";obtain⟨y,g1,_,y1⟩:=Av (j:=(x / 1664+5*(0+(i:Int)))% 26) VH VH;refine⟨cp,y,g1,ys++[y],by rw [OM];rfl,by simp [hl],λz hz=>?_⟩;rcases OL.mp hz with h | h
    ·exact hg z h
    ·rw [OO] at h;rw [h];exact y1
   ·rintro acc ⟨ys,rfl,hl,hg⟩;rw [wu] at hl;refine⟨by rw [Of];omega,?_⟩;refine⟨λi acc=>∃zs:List Str,acc=zs.map .str/\zs.length=i/\∀y∈zs,Om y=true,⟨[],rfl,rfl,by simp⟩,?_,?_⟩
    ·rintro i z acc hz ⟨zs,rfl,hl2,hg2⟩;rw [OD] at hz;cases hz':ys[i]? with
     | none=>rw [hz'] at hz;cases hz
     | some y=>
      rw [hz'] at hz;cases hz;walk_at "rz";obtain⟨mo,gg⟩:=mul_one c1 a0 VH;obtain⟨mo2,gg2⟩:=mul_one c1 (n:=sz - at0 - 1) VH VH;have ly:(⟨#[y]⟩:Str).length=1:=rfl;have l1:=gg.le;have l2:=gg2.le;refine⟨mo,by rw [ly];omega,mo2,by rw [Au,ly];omega,zs++[_],by rw [OM];rfl,by simp [hl2],λz hz=>?_⟩;rcases OL.mp hz with h | h
      ·exact hg2 z h
      ·rw [OO] at h;rw [h];exact((gg.append (mY.chr (hg y (OY hz')))).append gg2).ok
    ·rintro acc ⟨zs,rfl,hl2,hg2⟩;rw [Of] at hl2;exact q zs VH hg2
theorem atI_c5{α:Type}{a b c d e f:α}{l:List α}:atI (a::b::c::d::e::f::l) 5=some f:=gF (j:=5) rfl
theorem atI_c7{α:Type}{a b c d e f g h:α}{l:List α}:atI (a::b::c::d::e::f::g::h::l) 7=some h:=gF (j:=7) rfl
theorem cell_iff{ns:List Int}{k:Int}{Q:VL->Prop}:Ep [gG (ns.map .int),.int k] Q↔(0<=k/\k<=1000/\∀c:Int,Q (.int c)):=by
 constructor
 ·rintro⟨ns',k',e,a,b,q⟩;simp only [Pb,PV,and_true] at e;rw [e.2];exact⟨a,b,q⟩
 ·rintro⟨a,b,q⟩;exact⟨ns,k,rfl,a,b,q⟩
theorem numbers_iff{c m:Int}{Q:VL->Prop}:Es [.int c,.int m] Q↔(0<=m/\m<=64/\∀ns:List Int,(ns.length:Int)=m->(∀z∈ns,0<=z/\z < 2000000000)->Q (.list (ns.map .int))):=by
 constructor
 ·rintro⟨c',m',e,a,b,q⟩;simp only [Pb,PV,and_true] at e;obtain⟨rfl,rfl⟩:=e;exact⟨a,b,q⟩
 ·rintro⟨a,b,q⟩;exact⟨c,m,rfl,a,b,q⟩
end
end K78
open PySem L2
namespace K78
section
variable {P:VY} {w:VZ} {K:Oe} {mg:Str->Option VM} {base:V0} {t:cm}
def Pt.k:Pt->Int
 | .two _ _=>0
 | .five _ _ _ k _=>k
structure qr (x:De):Prop where
 d0:0<=x.d/\x.d<=40
 nm:Om x.nm=true
 w:Om x.w=true
 ly:bV 6 x.enc
 pp:∀p,x= .pap p->Om p.kd=true/\(∀m∈p.ms,Om m=true)/\p.ms.length<=50
 np:∀w d nm r,x= .oth w d nm r->w≠Od "paper"
 hp:∀d nm r,x= .oth (Od "happens") d nm r->∃wd,r=[.str wd]/\Om wd=true
 ru:∀d nm r,x= .oth (Od "rule") d nm r->∃pt:Pt,r=[pt.enc]/\pt.Ok/\pt.k<=20
 ho:∀d nm r,x= .oth (Od "hold") d nm r->∃(ip:Bool)(tn:Str)(dp:Bool),r=[fR ip tn,.bool dp]/\Om tn=true
 le:∀d nm r,x= .oth (Od "leave") d nm r->∃kd,r=[.str kd]/\Om kd=true
 rl:∀w d nm r,x= .oth w d nm r->r.length<=5
def mJ(x y:De):Prop:=x≠y/\(∀p q,x= .pap p->y= .pap q->p.nm≠q.nm)/\(x.isE=true->y.isE=true->¬(x.d=y.d/\x.nm=y.nm))/\(x.isL=true->y.isL=true->¬(x.d=y.d/\x.nm=y.nm))/\(x.w=Od "leave"->y.w=Od "leave"->x.nm≠y.nm)
def De.r:De->List VL
 | .pap p=>[.str p.kd,.tuple (p.ms.map .str)]
 | .oth _ _ _ r=>r
theorem sf(x:De):x.enc= .tuple (.str x.w:: .int x.d:: .str x.nm::x.r):=by cases x <;> rfl
theorem Nz(x:De):x.isE=true↔x.w=Od "rule"\/x.w=Od "end":=by
 cases x with
 | pap p=>exact⟨λh=>(nomatch h),λh=>absurd h (by show ¬(Od "paper"=_\/Od "paper"=_);decide+kernel)⟩
 | oth w d nm r=>simp [De.isE,De.w]
theorem NA(x:De):x.isL=true↔x.w=Od "hold"\/x.w=Od "lift":=by
 cases x with
 | pap p=>exact⟨λh=>(nomatch h),λh=>absurd h (by show ¬(Od "paper"=_\/Od "paper"=_);decide+kernel)⟩
 | oth w d nm r=>simp [De.isL,De.w]
mutual
theorem tL:∀d:VL,d.canLay0=true->ON d d=true
 | .none,_=>by simp [ON]
 | .bool _,_ | .int _,_ | .str _,_=>by simp [ON]
 | .list xs,h=>by rw [ON];exact yM xs (by simpa [Pj] using h)
 | .tuple xs,h=>by rw [ON];exact yM xs (by simpa [Pj] using h)
 | .dict _,h=>by simp [Pj] at h
theorem yM:∀ds:List VL,Qe ds=true->Qr ds ds=true
 | [],_=>by simp [Qr]
 | d::ds,h=>by
  rw [Qe,Pw] at h;rw [Qr,tL d h.1,yM ds h.2];rfl
end
theorem Ez{a b:Int}{s u:Str}:ON (.tuple [.int a,.str s]) (.tuple [.int b,.str u])=false->¬(a=b/\s=u):=by
 rintro h ⟨rfl,rfl⟩;simp [ON,Qr] at h
def NB:List VL->(VL->Prop)->Prop:=λds Q=>∃x y:De,ds=[x.enc,y.enc]/\qr x/\qr y/\∀b:Bool,(b=false->mJ x y)->Q (.bool b)
theorem NC(T:Txt K mg t):aF P w K mg base CX0 1 t.a_x50 t.d_x50 ["_law_one","_law_other"] (ba K NB):=by
 refine T.F_x50.okD KL (λds Q h=>?_) (λcdv A outer s H O ds Q E hr h=>?_)
 ·obtain⟨x,y,rfl,_⟩:=h;rfl
 ·obtain⟨x,y,rfl,gx,gy,q⟩:=h;refine'⟨_,?body,?read⟩
  case body=>
   refine' aq ?s1 ?r1
   case s1=>
    refine' bF ?c2 ?a2 bE
    case c2=>exact(aQ (dB hr.units) dD (df (dv 0)) (df (dv 1)) (aM _))
    case a2=>refine' aA (aU z5)
   case' r1=>refine' aq ?s5 ?r5
   case s5=>
    refine' bF ?c6 ?a6 bE
    case c6=>exact(PW.pt (fH (aQ (qH hr) qI (df (ar aC aI (df (dv 0)) (df ah))) (df (bD (aa aY (aa aY ao)))) rfl) (fG (aQ (qH hr) qI (df (ar aC aI (df (dv 1)) (df ah))) (df (bD (aa aY (aa aY ao)))) rfl))))
    case' a6=>refine' aA ?s7
    case' s7=>refine' aU ?e8
    case e8=>exact(fF (dB hr.units) dD (df (sX (df (dv 0)) (cR ah) (cR ah))) (df (sX (df (dv 1)) (cR ah) (cR ah))) (aM _))
   case' r5=>refine' aq ?s10 ?r10
   case s10=>
    refine' bF ?c11 ?a11 bE
    case c11=>exact(PW.pt (fH (aQ (qH hr) qI (df (ar aC aI (df (dv 0)) (df ah))) (df (bD (aa aY (aa aY ao)))) rfl) (fG (aQ (qH hr) qI (df (ar aC aI (df (dv 1)) (df ah))) (df (bD (aa aY (aa aY ao)))) rfl))))
    case' a11=>refine' aA ?s12
    case' s12=>refine' aU ?e13
    case e13=>exact(fF (dB hr.units) dD (df (sX (df (dv 0)) (cR ah) (cR ah))) (df (sX (df (dv 1)) (cR ah) (cR ah))) (aM _))
   case' r10=>refine' aA ?s15
   case' s15=>refine' aU ?e16
   case e16=>exact(uC (fF (dB hr.units) dD (df (ar aC aI (df (dv 0)) (df ah))) (df (ar aC aI (df (dv 1)) (df ah))) (aM _)) (uC (fF (qH hr) qI (df (ar aC aI (df (dv 0)) (df ah))) (df (bD (aa aY (aa aY ao)))) rfl) (wt (fF (dB hr.units) dD (df (ar aC aI (df (dv 0)) (df ah))) (df (ar aC aI (df (dv 1)) (df ah))) (aM _)))))
  case read=>
  clear hr T;have ex:=gx.ly.shp VG;have ey:=gy.ly.shp VG;have ne:(x.enc).eqv y.enc=false->x≠y:=λh e=>by rw [e,tL _ gy.ly.can] at h;cases h
  have two:∀z:De,Om z.nm=true->Q1 (OW [OZ z.d,Oi z.nm])=true:=λz hz=>(eO (n:=1) λy hy=>by
   simp only [OA,O5,or_false] at hy;rcases hy with rfl | rfl
   ·exact sW
   ·exact ik hz).shp VG
  have tx:=two x gx.nm;have ty:=two y gy.nm;have ax:=cH.mpr gx.w;have ay:=cH.mpr gy.w;have bx:=cH.mpr gx.nm;have by':=cH.mpr gy.nm
  rw [sf] at ex;rw [sf] at ey;have pw:∀z:De,∀p,z= .pap p->z.w=Od "paper":=λz p e=>by rw [e];rfl
  have eE:=Nz;have eL:=NA;have q:∀b:Bool,(b=false->(x.enc).eqv y.enc=false/\(x.w=Od "paper"->y.w=Od "paper"->x.nm≠y.nm)/\((x.w=Od "rule"\/x.w=Od "end")->(y.w=Od "rule"\/y.w=Od "end")->¬(x.d=y.d/\x.nm=y.nm))/\((x.w=Od "hold"\/x.w=Od "lift")->(y.w=Od "hold"\/y.w=Od "lift")->¬(x.d=y.d/\x.nm=y.nm))/\(x.w=Od "leave"->y.w=Od "leave"->x.nm≠y.nm))->Q (.bool b):=λb h=>q b λe=>by
   obtain⟨h1,h2,h3,h4,h5⟩:=h e;refine⟨ne h1,λp q e1 e2=>?_,λa b=>h3 ((eE x).mp a) ((eE y).mp b),λa b=>h4 ((eL x).mp a) ((eL y).mp b),h5⟩;have h2:=h2 (pw x p e1) (pw y q e2);rw [e1,e2] at h2;exact h2
  clear ne pw eE eL two gx gy;rw [sf,sf] at q;rw [sf,sf];generalize x.w=xw at*;generalize y.w=yw at*;generalize x.d=xd at*;generalize y.d=yd at*;generalize x.nm=xn at*;generalize y.nm=yn at*;generalize x.r=xr at*;generalize y.r=yr at*;walk_at "rz";refine⟨ex,ey,?_⟩;clear ex ey;split
  ·exact q true (λe=>by cases e)
  ·rename_i hn;rw [SQ] at hn;have E':∀z:Str,(Od "rule"==z || Od "end"==z)=true↔(z=Od "rule"\/z=Od "end"):=λz=>by
    rw [So,beq_iff_eq,beq_iff_eq];exact⟨λh=>h.imp Eq.symm Eq.symm,λh=>h.imp Eq.symm Eq.symm⟩
   have L':∀z:Str,(Od "hold"==z || Od "lift"==z)=true↔(z=Od "hold"\/z=Od "lift"):=λz=>by
    rw [So,beq_iff_eq,beq_iff_eq];exact⟨λh=>h.imp Eq.symm Eq.symm,λh=>h.imp Eq.symm Eq.symm⟩
   have nw:∀{z:Str},(z=Od "rule"\/z=Od "end")\/(z=Od "hold"\/z=Od "lift")->z≠Od "paper"/\z≠Od "leave":=λ{z} h=>by
    rcases h with(h | h) | (h | h) <;> subst h <;> decide+kernel
   have cut:(xw=Od "rule"\/xw=Od "end")\/(xw=Od "hold"\/xw=Od "lift")->Q (RT ((OW [OZ xd,Oi xn]).eqv (OW [OZ yd,Oi yn]))):=λhx=>q _ λe=>⟨hn,λa=>absurd a (nw hx).1,λ_ _=>Ez e,λ_ _=>Ez e,λa=>absurd a (nw hx).2⟩;have tl:¬((xw=Od "rule"\/xw=Od "end")/\(yw=Od "rule"\/yw=Od "end"))->¬((xw=Od "hold"\/xw=Od "lift")/\(yw=Od "hold"\/yw=Od "lift"))->Q1 (Oi xw)=true/\Q1 (Oi yw)=true/\(if (xw==yw)=true then(if (Od "paper"==xw || Od "leave"==xw)=true then Q1 (Oi xn)=true/\Q1 (Oi yn)=true/\Q (RT (xn==yn)) else Q (RT false)) else Q (RT false)):=λhE hL=>by
    refine⟨ax,ay,?_⟩;split
    ·rename_i h;split
     ·exact⟨bx,by',q _ λe=>⟨hn,λ_ _=>by simpa using e,λa b=>absurd ⟨a,b⟩ hE,λa b=>absurd ⟨a,b⟩ hL,λ_ _=>by simpa using e⟩⟩
     ·rename_i h2;exact q _ λ_=>⟨hn,λa=>absurd (by rw [a];simp) h2,λa b=>absurd ⟨a,b⟩ hE,λa b=>absurd ⟨a,b⟩ hL,λa=>absurd (by rw [a];simp) h2⟩
    ·rename_i h;exact q _ λ_=>⟨hn,λa b=>absurd (by rw [a,b];simp) h,λa b=>absurd ⟨a,b⟩ hE,λa b=>absurd ⟨a,b⟩ hL,λa b=>absurd (by rw [a,b];simp) h⟩
   clear q ax ay bx by'
   split
   ·rename_i h1;split
    ·exact⟨tx,ty,cut (.inl ((E' _).mp h1))⟩
    ·rename_i h2;split
     ·rename_i h3;split
      ·exact⟨tx,ty,cut (.inl ((E' _).mp h1))⟩
      ·rename_i h4;exact tl (λz=>h2 ((E' _).mpr z.2)) (λz=>h4 ((L' _).mpr z.2))
     ·rename_i h3;exact tl (λz=>h2 ((E' _).mpr z.2)) (λz=>h3 ((L' _).mpr z.1))
   ·rename_i h1;split
    ·rename_i h3;split
     ·exact⟨tx,ty,cut (.inr ((L' _).mp h3))⟩
     ·rename_i h4;exact tl (λz=>h1 ((E' _).mpr z.1)) (λz=>h4 ((L' _).mpr z.2))
    ·rename_i h3;exact tl (λz=>h1 ((E' _).mpr z.1)) (λz=>h3 ((L' _).mpr z.1))
def ND:List VL->(VL->Prop)->Prop:=λds Q=>∃x:Int,ds=[.int x]/\∀n0 n1 n2 n3 n4 n5 n6:Str,(∀z∈[n0,n1,n2,n3,n4,n5,n6],Om z=true)->Q (.tuple [.list [.str n0,.str n1,.str n2,.str n3,.str n4,.str n5],.list [.str n1,.str n2,.str n3],.list [.str n2,.str n3],.list [.str n2,.str n3,.str n4,.str n5,.str n6]])
theorem NF(T:Txt K mg t):aF P w K mg base CX0 2 t.a_x53 t.d_x53 ["_law_x"] (ba K ND):=by
 have G_x49:=Ny (P:=P) (w:=w) (base:=base) T;refine T.F_x53.okD BR (λds Q h=>?_) (λcdv A outer s H O ds Q E hr h=>?_)
 ·obtain⟨x,rfl,_⟩:=h;rfl
 ·obtain⟨x,rfl,q⟩:=h;refine'⟨_,?body,?read⟩
  case body=>
   refine' aq ?s1 ?r1
   case s1=>exact(bw (i:=1) BR.nd rfl (by walk_at "o") (PE.imp (aR G_x49 (hr.mono VG) rfl T.m_x49 T.F_x49.kp T.b_x49 .nil aG (aa (dv 0) (aa ah ao))) aS))
   case' r1=>refine' aA ?s3
   case' s3=>generalize hG4:Va _ _ _=eg4
   refine' aU ?e4
   case' e4=>subst hG4
   refine' bD ?t5
   case' t5=>refine' aa ?u6 ?w6
   case u6=>exact(fe (qD (df (dv 1)) rj (cR ah)))
   case' w6=>refine' aa ?u8 ?w8
   case u8=>exact(fe (qD (df (dv 1)) (cR ah) (cR ah)))
   case' w8=>refine' aa ?u10 ?w10
   case u10=>exact(fe (qD (df (dv 1)) (cR ah) (cR ah)))
   case' w10=>refine' aa ?u12 ao
   case u12=>exact(fe (qD (df (dv 1)) (cR ah) (cR ah)))
  case read=>
  clear hr T G_x49;walk_at "rz";refine⟨x,7,rfl,VH,VH,λss sl sok=>?_⟩;obtain⟨n0,n1,n2,n3,n4,n5,n6,rfl⟩:∃a b c d e f g,ss=[a,b,c,d,e,f,g]:=by
   match ss,(show ss.length=7 by omega) with
   | [a,b,c,d,e,f,g],_=>exact⟨_,_,_,_,_,_,_,rfl⟩
  walk_at "rz";exact q n0 n1 n2 n3 n4 n5 n6 sok
end
end K78
open PySem L2
local macro_rules | `(tactic| walk_at "rzw") =>rzT (rzS++" K78.atI_c5 K78.atI_c7 true_and xD xF")
namespace K78
theorem yN:bb (ag jv) ["_law_sort_here","_law_xs","_law_pools_here","_law_names","_law_kinds","_law_words","_law_rules","_law_day","_law_name","_law_some","_law_target"] ["_law_k","_law_one","_law_xs"] 2 [1] {kind:=Ou,names:=[ (Og ".0",PySem.NameKind.local),(Og "_law_k",PySem.NameKind.local),(Og "_law_one",PySem.NameKind.local),(Og "_law_xs",OE)],isGenerator:=false,isCoroutine:=false,more:=[]:O3}:=⟨rfl,cp,cp,cp,rfl,cp,cp,cp,rfl⟩
section
variable {P:VY} {w:VZ} {K:Oe} {mg:Str->Option VM} {base:V0} {t:cm}
theorem mK(ss:List Str){i:Int}(h0:0<=i)(h1:i < ss.length):∃nm∈ss,atI (ss.map Oi) i=some (.str nm):=by
 obtain⟨v,e,m⟩:=uu (xs:=ss.map Oi) h0 (by rw [Of];exact h1);obtain⟨nm,hn,rfl⟩:=Oq.mp m;exact⟨nm,hn,e⟩
def jM(x0 x1 x2 x3 x4 x5 x6 x7 x8 x9 x10:Int):VL:= .list [.int x0,.int x1,.int x2,.int x3,.int x4,.int x5,.int x6,.int x7,.int x8,.int x9,.int x10]
def NG:List VL->(VL->Prop)->Prop:=λds Q=>∃(x0 x1 x2 x3 x4 x5 x6 x7 x8 x9 x10:Int)(a b c d e:Str),ds=[jM x0 x1 x2 x3 x4 x5 x6 x7 x8 x9 x10,.list [.str a,.str b,.str c],.list [.str d,.str e]]/\(∀z∈[a,b,c,d,e],Om z=true)/\∀pt:Pt,pt.Ok->pt.k<=20->Q pt.enc
theorem NH(T:Txt K mg t):aF P w K mg base CX0 1 t.a_x51 t.d_x51 ["_law_xs","_law_kinds","_law_words"] (ba K NG):=by
 refine T.F_x51.okD xK (λds Q h=>?_) (λcdv A outer s H O ds Q E hr h=>?_)
 ·obtain⟨x0,x1,x2,x3,x4,x5,x6,x7,x8,x9,x10,a,b,c,d,e,rfl,_⟩:=h;rfl
 ·obtain⟨x0,x1,x2,x3,x4,x5,x6,x7,x8,x9,x10,a,b,c,d,e,rfl,hok,q⟩:=h;refine'⟨_,?body,?read⟩
  case body=>
   refine' aq ?s1 ?r1
   case s1=>
    generalize hE2_0:T3 _ _=ee2_0;exact(bw (i:=3) xK.nd rfl (by walk_at "o") (ar bj bq (df (fe (sU (ds:=[.str "keep",.str "gone",.str "keep",.str "gone",.str "gone",.str "while",.str "follow",.str "leave"]) (by first | (subst hE2_0;rfl))))) (df (aH bJ bp (df (ar bj bq (df (dv 0)) (df ah))) (df ah)))))
   case' r1=>refine' aq ?s3 ?r3
   case s3=>
    refine' bF ?c4 ?a4 bE
    case c4=>exact(aQ (qH hr) qI (df (dv 3)) (df (bD (uL (ds:=[.str "while",.str "follow",.str "leave"]) (by rfl)))) rfl)
    case' a4=>refine' aA ?s5
    case' s5=>refine' aU ?e6
    case' e6=>refine' bD ?t7
    case' t7=>refine' aa (dv 3) ?w8
    case' w8=>refine' aa ?u10 ao
    case' u10=>refine' ar bj bq (df (dv 1)) ?b11
    case b11=>exact(df (aH bJ bp (df (ar bj bq (df (dv 0)) (df ah))) (df ah)))
   case' r3=>refine' aq ?s14 ?r14
   case s14=>
    generalize hG15:Vc _ _ _=eg15;refine' bw (i:=4) xK.nd rfl (by walk_at "o") ?e15 (hs:=by subst hG15;exact wF)
    case' e15=>subst hG15
    refine' ar bj bq (df ?a16) ?b16
    case a16=>
     refine' fe ?f17
     case' f17=>refine' dN ?g18
     case' g18=>refine' aa ?u19 ?w19
     case u19=>exact(bD (aa aY ao))
     case' w19=>refine' aa ?u21 ?w21
     case u21=>
      refine' bD ?t22
      case' t22=>refine' aa aY ?w23
      case' w23=>refine' aa ?u25 ao
      case' u25=>refine' ar bj bq (df (dv 2)) ?b26
      case b26=>exact(df (aH bJ bp (df (ar bj bq (df (dv 0)) (df ah))) (df ah)))
     case' w21=>refine' aa ?u29 ao
     case' u29=>refine' bD ?t30
     case' t30=>refine' aa aY ?w31
     case' w31=>refine' aa ?u33 ao
     case' u33=>refine' ar bj bq (df (dv 2)) ?b34
     case b34=>exact(df (aH bJ bp (df (ar bj bq (df (dv 0)) (df ah))) (df ah)))
    case b16=>exact(df (aH bJ bp (df (ar bj bq (df (dv 0)) (df ah))) (df ah)))
   case' r14=>refine' aA ?s38
   case' s38=>generalize hG39:Va _ _ _=eg39
   refine' aU ?e39
   case' e39=>subst hG39
   refine' bD ?t40
   case' t40=>refine' aa (dv 3) ?w41
   case' w41=>refine' aa ?u43 ?w43
   case u43=>
    refine' ar bj bq (df (dv 1)) ?b44
    case b44=>exact(df (aH bJ bp (df (ar bj bq (df (dv 0)) (df ah))) (df ah)))
   case' w43=>refine' aa (dv 4) ?w46
   case' w46=>refine' aa ?u48 ?w48
   case u48=>exact(aH bJ bp (df (ar bj bq (df (dv 0)) (df ah))) (df ah))
   case w48=>refine' aa aY ao
  case read=>
  clear hr T;simp only [jM];walk_at "rzw";obtain⟨so,hs,es⟩:=mK [Od "keep",Od "gone",Od "keep",Od "gone",Od "gone",Od "while",Od "follow",Od "leave"] (i:=x3 % 8) VH (by show _ < ((8:Nat):Int);omega);obtain⟨kd,hkd,ek⟩:=mK [a,b,c] (i:=x2 % 3) VH (by show _ < ((3:Nat):Int);omega);obtain⟨wd,hwd,ew⟩:=mK [d,e] (i:=x7 % 2) VH (by show _ < ((2:Nat):Int);omega);have kok:Om kd=true:=hok kd (by
   simp only [OA,O5,or_false] at hkd⊢;rcases hkd with h | h | h <;> simp [h])
  have wok:Om wd=true:=hok wd (by
   simp only [OA,O5,or_false] at hwd⊢;rcases hwd with h | h <;> simp [h])
  clear hkd hwd hok;refine⟨_,es,rfl,?_⟩;clear es;have fin5:KG so->∃x,atI [Oi d,Oi e] (x7 % 2)=some x/\∃x_1,atI [Oi d,Oi e] (x7 % 2)=some x_1/\∃d,atI [OW [Oi (Od "coming")],OW [Oi (Od "first"),x],OW [Oi (Od "last"),x_1]] (x4 % 3)=some d/\∃x,atI [Oi a,Oi b,Oi c] (x2 % 3)=some x/\Q (OW [.str so,x,d,OZ (x5 % 21),Oi (Od "days")]):=λkg=>by
   refine⟨_,ew,_,ew,?_⟩;obtain⟨v,e2,mv⟩:=uu (xs:=[OW [Oi (Od "coming")],OW [Oi (Od "first"),Oi wd],OW [Oi (Od "last"),Oi wd]]) (i:=x4 % 3) VH (by show _ < ((3:Nat):Int);omega);refine⟨_,e2,_,ek,?_⟩;have m1:x5 % 21<=20:=VH
   have m2:x5 % 21 < 1000:=VH
   simp only [OA,O5,or_false] at mv;rcases mv with rfl | rfl | rfl
   ·exact q (.five so kd .com (x5 % 21) (Od "days")) ⟨kg,kok,trivial,VH,m2,.inl rfl⟩ m1
   ·exact q (.five so kd (.fst wd) (x5 % 21) (Od "days")) ⟨kg,kok,wok,VH,m2,.inl rfl⟩ m1
   ·exact q (.five so kd (.lst wd) (x5 % 21) (Od "days")) ⟨kg,kok,wok,VH,m2,.inl rfl⟩ m1
  have fin2:¬KG so->Om so=true->∃x,atI [Oi a,Oi b,Oi c] (x2 % 3)=some x/\Q (OW [.str so,x]):=λnk ok=>⟨_,ek,q (.two so kd) ⟨nk,ok,kok⟩ (by show(0:Int)<=20;decide)⟩;have hs:so=Od "keep"\/so=Od "gone"\/so=Od "while"\/so=Od "follow"\/so=Od "leave":=by
   simp only [OA,O5,or_false] at hs;rcases hs with h | h | h | h | h | h | h | h <;> simp only [h,true_or,or_true]
  clear q ek ew;rw [cL,cL,cL];rcases hs with rfl | rfl | rfl | rfl | rfl
  ·rw [VI cp];exact fin5 (.inl rfl)
  ·rw [VI cp];exact fin5 (.inr rfl)
  ·rw [VJ cp];exact fin2 (by unfold KG;decide+kernel) cp
  ·rw [VJ cp];exact fin2 (by unfold KG;decide+kernel) cp
  ·rw [VJ cp];exact fin2 (by unfold KG;decide+kernel) cp
theorem NI{a b:Str}(ha:Om a=true)(hb:Om b=true):bV 2 (.tuple [.str a,.str b]):=eO (bM (ik ha) (bM (ik hb) fq))
theorem EA{w nm:Str}{d:Int}{r:List VL}(hw:Om w=true)(hn:Om nm=true)(hr:∀y∈r,bV 5 y):bV 6 (.tuple (.str w:: .int d:: .str nm::r)):=
 eO (bM ((ik hw).mono VG) (bM (sW.mono VG) (bM ((ik hn).mono VG) hr)))
structure NJ (w:Str) (r:List VL):Prop where
 np:w≠Od "paper"
 hp:w=Od "happens"->∃wd,r=[.str wd]/\Om wd=true
 ru:w=Od "rule"->∃pt:Pt,r=[pt.enc]/\pt.Ok/\pt.k<=20
 ho:w=Od "hold"->∃(ip:Bool)(tn:Str)(dp:Bool),r=[fR ip tn,.bool dp]/\Om tn=true
 le:w=Od "leave"->∃kd,r=[.str kd]/\Om kd=true
 ln:r.length<=5
theorem tM{w nm:Str}{d:Int}{r:List VL}(d0:0<=d/\d<=40)(hw:Om w=true)(hn:Om nm=true)(hr:∀y∈r,bV 5 y)(o:NJ w r):qr (.oth w d nm r):=by
 refine⟨d0,hn,hw,EA hw hn hr,λp e=>(by cases e),λw' d' nm' r' e=>(by cases e;exact o.np),λd' nm' r' e=>(by cases e;exact o.hp rfl),λd' nm' r' e=>(by cases e;exact o.ru rfl),λd' nm' r' e=>(by cases e;exact o.ho rfl),λd' nm' r' e=>(by cases e;exact o.le rfl),λw' d' nm' r' e=>(by cases e;exact o.ln)⟩
theorem NK{p:Pp}(d0:0<=p.d/\p.d<=40)(hn:Om p.nm=true)(hk:Om p.kd=true)(hm:∀m∈p.ms,Om m=true)(hl:p.ms.length<=50):qr (.pap p):=by
 refine⟨d0,hn,xR,EA xR hn (bM ((ik hk).mono VG) (bM ((eO (uP (n:=1) hm)).mono VG) fq)),λp' e=>(by cases e;exact⟨hk,hm,hl⟩),λw' d' nm' r' e=>(by cases e),λd' nm' r' e=>(by cases e),λd' nm' r' e=>(by cases e),λd' nm' r' e=>(by cases e),λd' nm' r' e=>(by cases e),λw' d' nm' r' e=>(by cases e)⟩
def sg:List Str:=[Od "paper",Od "rule",Od "happens",Od "hold",Od "end",Od "lift",Od "leave"]
theorem NL:∀z∈sg,Om z=true:=by
 intro z h;simp only [sg,OA,O5,or_false] at h;rcases h with rfl | rfl | rfl | rfl | rfl | rfl | rfl <;> decide+kernel
theorem NM(ss:List Str)(lo hi:Option Int):∃ms:List Str,cg (ss.map Oi) lo hi=ms.map .str/\(∀m∈ms,m∈ss)/\ms.length<=ss.length:=by
 unfold cg;rw [<-List.map_drop,<-SM];exact⟨_,rfl,λm hm=>Uk (RH hm),by rw [PF,R8];omega⟩
def yO(n0 n1 n2 n3 n4 n5 n6:Str):VL:= .tuple [.list [.str n0,.str n1,.str n2,.str n3,.str n4,.str n5],.list [.str n1,.str n2,.str n3],.list [.str n2,.str n3],.list [.str n2,.str n3,.str n4,.str n5,.str n6]]
def NN:List VL->(VL->Prop)->Prop:=λds Q=>∃(so:Str)(x0 x1 x2 x3 x4 x5 x6 x7 x8 x9 x10:Int)(n0 n1 n2 n3 n4 n5 n6:Str),ds=[.str so,jM x0 x1 x2 x3 x4 x5 x6 x7 x8 x9 x10,yO n0 n1 n2 n3 n4 n5 n6]/\so∈sg/\(∀z∈[n0,n1,n2,n3,n4,n5,n6],Om z=true)/\∀x:De,qr x->Q x.enc
theorem NO(T:Txt K mg t):aF P w K mg base CX0 2 t.a_x52 t.d_x52 ["_law_sort_here","_law_xs","_law_pools_here"] (ba K NN):=by
 have G_x51:=NH (P:=P) (w:=w) (base:=base) T;refine T.F_x52.okD p7 (λds Q h=>?_) (λcdv A outer s H O ds Q E hr h=>?_)
 ·obtain⟨so,x0,x1,x2,x3,x4,x5,x6,x7,x8,x9,x10,n0,n1,n2,n3,n4,n5,n6,rfl,_⟩:=h;rfl
 ·obtain⟨so,x0,x1,x2,x3,x4,x5,x6,x7,x8,x9,x10,n0,n1,n2,n3,n4,n5,n6,rfl,hso,hok,q⟩:=h;refine'⟨_,?body,?read⟩
  case body=>
   refine' aq ?s1 ?r1
   case s1=>exact(Ht (dv 2) (g6 (n:=4) rfl (cc (aL (i:=3) p7.nd rfl (by walk_at "o")) (cc (aL (i:=4) p7.nd rfl (by walk_at "o")) (cc (aL (i:=5) p7.nd rfl (by walk_at "o")) (cc (aL (i:=6) p7.nd rfl (by walk_at "o")) gZ))))) (ic (cf aO (cf aO (cf aO (cf aO ib))))))
   case' r1=>refine' aq ?s3 ?r3
   case s3=>exact(Hu (i:=7) (j:=8) rfl p7.nd rfl rfl VG rfl rfl (aa (aH bJ bp (df (ar bj bq (df (dv 1)) (df ah))) (df ah)) (aa (ar bj bq (df (dv 3)) (df (aH bJ bp (df (ar bj bq (df (dv 1)) (df ah))) (df ah)))) ao)) (by rfl))
   case' r3=>refine' aq ?s5 ?r5
   case s5=>
    refine' bF ?c6 ?a6 bE
    case c6=>exact(aQ (cz hr) cA (df (dv 0)) (df aY) (aM _))
    case' a6=>refine' aq ?s7 ?r7
    case s7=>exact(kH (i:=9) p7.nd rfl (by walk_at "o") (Kj rfl yN rfl T.n_enumerate (aa (dv 3) ao) (ic (cf aO (cf aO ib))) uY VG (λ_ _ _ _=>(g6 (n:=2) rfl (cc (aL (i:=0) yN.nd rfl (by walk_at "o")) (cc (aL (i:=1) yN.nd rfl (by walk_at "o")) gZ)))) (λ_ _ _ _=>(dJ (PW.pt (fH (aQ (dB hr.units) dD (df (aH Bs u9 (df (aH Br u9 (df (ar bj bq (df (dv 2)) (df ah))) (df (dv 0)))) (df ah))) (df ah) (aM _)) (fG (aQ (dB hr.units) dD (df (aH Bs u9 (df (aH Br u9 (df (ar bj bq (df (dv 2)) (df ah))) (df (dv 0)))) (df ah))) (df ah) (aM _))))))) (λ_ _ _ _=>(dv 1))))
    case' r7=>refine' aA ?s9
    case' s9=>refine' aU ?e10
    case' e10=>refine' bD ?t11
    case' t11=>refine' aa aY ?w12
    case' w12=>refine' aa (dv 7) ?w14
    case' w14=>refine' aa (dv 8) ?w16
    case' w16=>refine' aa ?u18 ?w18
    case u18=>
     refine' ar bj bq (df (dv 4)) ?b19
     case b19=>exact(df (aH bJ bp (df (ar bj bq (df (dv 1)) (df ah))) (df ah)))
    case' w18=>refine' aa ?u21 ao
    case u21=>exact(PE.imp (dA fc rfl T.n_tuple fg (bu (df (fe (qD (df (fe (Io rfl T.n_sorted QD (bu (df (dv 9)) bC)))) rj (cR ah)))) bC)) (bU fj))
   case' r5=>refine' aq ?s24 ?r24
   case s24=>
    refine' bF ?c25 ?a25 bE
    case c25=>exact(aQ (cz hr) cA (df (dv 0)) (df aY) (aM _))
    case' a25=>refine' aA ?s26
    case' s26=>refine' aU ?e27
    case' e27=>refine' bD ?t28
    case' t28=>refine' aa aY ?w29
    case' w29=>refine' aa (dv 7) ?w31
    case' w31=>refine' aa (dv 8) ?w33
    case' w33=>refine' aa ?u35 ao
    case' u35=>refine' ar bj bq (df (dv 5)) ?b36
    case b36=>exact(df (aH bJ bp (df (ar bj bq (df (dv 1)) (df ah))) (df ah)))
   case' r24=>refine' aq ?s39 ?r39
   case s39=>
    refine' bF ?c40 ?a40 bE
    case c40=>exact(aQ (cz hr) cA (df (dv 0)) (df aY) (aM _))
    case' a40=>refine' aA ?s41
    case' s41=>refine' aU ?e42
    case' e42=>refine' bD ?t43
    case' t43=>refine' aa aY ?w44
    case' w44=>refine' aa (dv 7) ?w46
    case' w46=>refine' aa ?u48 ?w48
    case u48=>
     refine' ar bj bq (df (dv 6)) ?b49
     case b49=>exact(df (aH bJ bp (df (ar bj bq (df (dv 1)) (df ah))) (df ah)))
    case' w48=>refine' aa ?u51 ao
    case u51=>exact(PE.imp (aR G_x51 (hr.mono VG) rfl T.m_x51 T.F_x51.kp T.b_x51 .nil aG (aa (dv 1) (aa (dv 4) (aa (dv 5) ao)))) aS)
   case' r39=>refine' aq ?s54 ?r54
   case s54=>
    refine' bF ?c55 ?a55 bE
    case c55=>exact(aQ (cz hr) cA (df (dv 0)) (df aY) (aM _))
    case' a55=>refine' aq ?s56 ?r56
    case s56=>
     generalize hG57:Vc _ _ _=eg57;refine' bw (i:=10) p7.nd rfl (by walk_at "o") ?e57 (hs:=by subst hG57;exact wF)
     case' e57=>subst hG57
     refine' ar bj bq (df ?a58) ?b58
     case a58=>
      refine' fe ?f59
      case' f59=>refine' dN ?g60
      case' g60=>refine' aa ?u61 ?w61
      case u61=>
       refine' bD ?t62
       case' t62=>refine' aa aY ?w63
       case' w63=>refine' aa ?u65 ao
       case' u65=>refine' ar bj bq (df (dv 3)) ?b66
       case b66=>exact(df (aH bJ bp (df (ar bj bq (df (dv 1)) (df ah))) (df ah)))
      case' w61=>refine' aa ?u69 ao
      case' u69=>refine' bD ?t70
      case' t70=>refine' aa aY ?w71
      case' w71=>refine' aa ?u73 ao
      case' u73=>refine' ar bj bq (df (dv 4)) ?b74
      case b74=>exact(df (aH bJ bp (df (ar bj bq (df (dv 1)) (df ah))) (df ah)))
     case b58=>exact(df (aH bJ bp (df (ar bj bq (df (dv 1)) (df ah))) (df ah)))
    case' r56=>refine' aA ?s78
    case' s78=>generalize hG79:Va _ _ _=eg79
    refine' aU ?e79
    case' e79=>subst hG79
    refine' bD ?t80
    case' t80=>refine' aa aY ?w81
    case' w81=>refine' aa (dv 7) ?w83
    case' w83=>refine' aa ?u85 ?w85
    case u85=>
     refine' ar bj bq (df (dv 6)) ?b86
     case b86=>exact(df (aH bJ bp (df (ar bj bq (df (dv 1)) (df ah))) (df ah)))
    case' w85=>refine' aa (dv 10) ?w88
    case' w88=>refine' aa ?u90 ao
    case u90=>exact(fF (dB hr.units) dD (df (aH bJ bp (df (ar bj bq (df (dv 1)) (df ah))) (df ah))) (df ah) (aM _))
   case' r54=>refine' aq ?s93 ?r93
   case s93=>
    refine' bF ?c94 ?a94 bE
    case c94=>exact(aQ (cz hr) cA (df (dv 0)) (df aY) (aM _))
    case' a94=>refine' aA ?s95
    case' s95=>refine' aU ?e96
    case' e96=>refine' bD ?t97
    case' t97=>refine' aa aY ?w98
    case' w98=>refine' aa (dv 7) ?w100
    case' w100=>refine' aa (dv 8) ?w102
    case' w102=>refine' aa ?u104 ao
    case' u104=>refine' ar bj bq (df (dv 4)) ?b105
    case b105=>exact(df (aH bJ bp (df (ar bj bq (df (dv 1)) (df ah))) (df ah)))
   case' r93=>refine' aA ?s108
   case' s108=>refine' aU ?e109
   case' e109=>refine' bD ?t110
   case' t110=>refine' aa (dv 0) ?w111
   case' w111=>refine' aa (dv 7) ?w113
   case' w113=>refine' aa ?u115 ao
   case' u115=>refine' ar bj bq (df (dv 6)) ?b116
   case b116=>exact(df (aH bJ bp (df (ar bj bq (df (dv 1)) (df ah))) (df (ar bj bq (df (fe (dN (aa ah (aa ah ao))))) (df (PE.imp (dA zt rfl T.n_int zT (bu (df (fF (cz hr) cA (df (dv 0)) (df aY) (aM _))) bC)) (bU Ah)))))))
  case read=>
  clear hr T G_x51;simp only [jM,yO];walk_at "rzw";have six:∀i:Int,0<=i->i < 6->∃nm,atI [Oi n0,Oi n1,Oi n2,Oi n3,Oi n4,Oi n5] i=some (.str nm)/\Om nm=true:=λi i0 i1=>by
   obtain⟨nm,hm,e⟩:=mK [n0,n1,n2,n3,n4,n5] i0 (show i < ((6:Nat):Int) by omega);exact⟨nm,e,hok nm (by simp only [OA,O5,or_false] at hm⊢;rcases hm with h | h | h | h | h | h <;> simp only [h,true_or,or_true])⟩
  have thr:∀i:Int,0<=i->i < 3->∃nm,atI [Oi n1,Oi n2,Oi n3] i=some (.str nm)/\Om nm=true:=λi i0 i1=>by
   obtain⟨nm,hm,e⟩:=mK [n1,n2,n3] i0 (show i < ((3:Nat):Int) by omega);exact⟨nm,e,hok nm (by simp only [OA,O5,or_false] at hm⊢;rcases hm with h | h | h <;> simp only [h,true_or,or_true])⟩
  have fiv:∀i:Int,0<=i->i < 5->∃nm,atI [Oi n2,Oi n3,Oi n4,Oi n5,Oi n6] i=some (.str nm)/\Om nm=true:=λi i0 i1=>by
   obtain⟨nm,hm,e⟩:=mK [n2,n3,n4,n5,n6] i0 (show i < ((5:Nat):Int) by omega);exact⟨nm,e,hok nm (by simp only [OA,O5,or_false] at hm⊢;rcases hm with h | h | h | h | h <;> simp only [h,true_or,or_true])⟩
  have l1:∀{s:Str},Om s=true->bV 5 (.str s):=λh=>(ik h).mono VG;obtain⟨nm,en,hn⟩:=six (x1 % 6) VH VH;have d0:0<=x0 % 41/\x0 % 41<=40:=VH
  generalize x0 % 41=d at*;refine⟨_,en,?_⟩;clear en;split
  ·refine⟨λi acc=>∃ss:List Str,acc=ss.map .str/\ss.length<=i/\∀z∈ss,Om z=true,⟨[],rfl,Oj _,by simp⟩,?_,?_⟩
   ·rintro i z acc hz ⟨ss,rfl,sl,sok⟩;rw [xc,show [Oi n0,Oi n1,Oi n2,Oi n3,Oi n4,Oi n5]=[n0,n1,n2,n3,n4,n5].map Oi from rfl,OD] at hz;cases hz':[n0,n1,n2,n3,n4,n5][i]? with
    | none=>rw [hz'] at hz;cases hz
    | some nm'=>
     rw [hz'] at hz;cases hz;have hn':Om nm'=true:=hok nm' (by
      have hm:=OY hz';simp only [OA,O5,or_false] at hm⊢;rcases hm with h | h | h | h | h | h <;> simp only [h,true_or,or_true])
     have yes:∃ss_1:List Str,Pr Oi ss++[Oi nm']=Pr Oi ss_1/\ss_1.length<=i+1/\∀(z:Str),z∈ss_1->Om z=true:=⟨ss++[nm'],by rw [OM];rfl,by rw [OH,Qw];omega,λz hz=>by
      rcases OL.mp hz with h | h
      ·exact sok z h
      ·rw [OO] at h;rw [h];exact hn'⟩
     have no:∃ss_1:List Str,Pr Oi ss=Pr Oi ss_1/\ss_1.length<=i+1/\∀(z:Str),z∈ss_1->Om z=true:=⟨ss,rfl,VH,sok⟩;clear q;walk_at "rzw";refine⟨⟨_,rfl⟩,VH,λ_ r=>?_⟩;split
     ·refine⟨⟨_,rfl⟩,VH,λ_ r=>?_⟩;split
      ·exact yes
      ·exact no
     ·exact no
   ·rintro acc ⟨ss,rfl,sl,sok⟩;rw [xb] at sl;have sl:ss.length<=6:=sl;obtain⟨kd,ek,hk⟩:=thr (x2 % 3) VH VH;refine⟨_,ek,ss,rfl,VH,?_⟩;obtain⟨ms,em,m1,m2⟩:=NM (eQ ss) none (some 4);have sp:=kK ss;rw [em];exact q (.pap ⟨d,nm,kd,ms⟩) (NK d0 hn hk (λm hm=>sok m (sp.mem_iff.mp (m1 m hm))) (by rw [sp.length_eq] at m2;show ms.length<=50;omega))
  ·rename_i ep;split
   ·obtain⟨kd,hk,ek⟩:=mK [n2,n3] (i:=x2 % 2) VH (by show _ < ((2:Nat):Int);omega);have hk:Om kd=true:=hok kd (by simp only [OA,O5,or_false] at hk⊢;rcases hk with h | h <;> simp only [h,true_or,or_true]);exact⟨_,ek,q (.oth (Od "happens") d nm [.str kd]) (tM d0 cp hn (bM (l1 hk) fq) ⟨cp,λ_=>⟨kd,rfl,hk⟩,λh=>absurd h cp,λh=>absurd h cp,λh=>absurd h cp,by simp⟩)⟩
   ·rename_i eh;split
    ·obtain⟨rn,er,hr⟩:=fiv (x1 % 5) VH VH;refine⟨_,er,x0,x1,x2,x3,x4,x5,x6,x7,x8,x9,x10,n1,n2,n3,n2,n3,rfl,λz hz=>hok z ?_,λpt hpt hk=>?_⟩
     ·simp only [OA,O5,or_false] at hz⊢;rcases hz with h | h | h | h | h <;> simp only [h,true_or,or_true]
     ·exact q (.oth (Od "rule") d rn [pt.enc]) (tM d0 cp hr (bM ((Pt.lay hpt).mono VG) fq) ⟨cp,λh=>absurd h cp,λ_=>⟨pt,rfl,hpt,hk⟩,λh=>absurd h cp,λh=>absurd h cp,by simp⟩)
    ·rename_i er;split
     ·obtain⟨tn,et,ht⟩:=six (x2 % 6) VH VH;obtain⟨kd,ek,hk⟩:=thr (x2 % 3) VH VH;obtain⟨ho,eo,hh⟩:=fiv (x1 % 2) VH VH;obtain⟨v,ev,hv⟩:=uu (xs:=[OW [Oi (Od "paper"),.str tn],OW [Oi (Od "kind"),.str kd]]) (i:=x3 % 2) VH (by show _ < ((2:Nat):Int);omega);have lv:∃(ip:Bool)(z:Str),v=fR ip z/\Om z=true:=by
       simp only [OA,O5,or_false] at hv;rcases hv with rfl | rfl
       ·exact⟨true,tn,rfl,ht⟩
       ·exact⟨false,kd,rfl,hk⟩
      obtain⟨ip,z,rfl,hz⟩:=lv;have ly:bV 5 (fR ip z):=(NI (by cases ip <;> decide+kernel) hz).mono VG;exact⟨_,et,_,ek,_,ev,_,eo,q (.oth (Od "hold") d ho [fR ip z,.bool (x4 % 2==0)]) (tM d0 cp hh (bM ly (bM (Ic.mono VG) fq)) ⟨cp,λh=>absurd h cp,λh=>absurd h cp,λ_=>⟨ip,z,_,rfl,hz⟩,λh=>absurd h cp,by simp⟩)⟩
     ·rename_i eo;split
      ·obtain⟨kd,ek,hk⟩:=thr (x2 % 3) VH VH;exact⟨_,ek,q (.oth (Od "leave") d nm [.str kd]) (tM d0 cp hn (bM (l1 hk) fq) ⟨cp,λh=>absurd h cp,λh=>absurd h cp,λh=>absurd h cp,λ_=>⟨kd,rfl,hk⟩,by simp⟩)⟩
      ·rename_i el;have fin:∀m:Int,0 < m->m<=5->∃x_1,atI [Oi n2,Oi n3,Oi n4,Oi n5,Oi n6] (x1 % m)=some x_1/\Q (OW [Oi so,OZ d,x_1]):=λm m0 m5=>by
        obtain⟨rn,en,hn⟩:=fiv (x1 % m) (Rv _ VH) (Int.lt_of_lt_of_le (QW _ m0) m5);exact⟨_,en,q (.oth so d rn []) (tM d0 (NL so hso) hn fq ⟨λh=>ep (by rw [h];rfl),λh=>absurd (by rw [h];rfl) eh,λh=>absurd (by rw [h];rfl) er,λh=>absurd (by rw [h];rfl) eo,λh=>absurd (by rw [h];rfl) el,by simp⟩)⟩
       split
       ·exact⟨_,fk,2,rfl,VG,fin 2 VG VG⟩
       ·exact⟨_,cT,5,rfl,VG,fin 5 VG VG⟩
end
end K78
open PySem L2
local macro_rules | `(tactic| walk_at "rzw") =>rzT (rzS++" K78.atI_c5 K78.atI_c7 K78.cell_iff K78.numbers_iff true_and xD xF")
namespace K78
theorem EB:bb (ag jw) ["_law_script","_law_pools_here","_law_found","_law_k","_law_xs","_law_deed_here"] ["_law_other","_law_deed_here"] 1 [5] {kind:=Ou,names:=[ (Og ".0",PySem.NameKind.local),(Og "_law_other",PySem.NameKind.local),(Og "_law_quarrel",O9),(Og "_law_deed_here",OE)],isGenerator:=false,isCoroutine:=false,more:=[]:O3}:=⟨rfl,cp,cp,cp,rfl,cp,cp,cp,rfl⟩
section
variable {P:VY} {w:VZ} {K:Oe} {mg:Str->Option VM} {base:V0} {t:cm}
theorem NP{ns:List Int}(h:(ns.length:Int)=11):∃a0 a1 a2 a3 a4 a5 a6 a7 a8 a9 a10,ns=[a0,a1,a2,a3,a4,a5,a6,a7,a8,a9,a10]:=by
 match ns,(show ns.length=11 by omega) with
 | [a0,a1,a2,a3,a4,a5,a6,a7,a8,a9,a10],_=>exact⟨_,_,_,_,_,_,_,_,_,_,_,rfl⟩
theorem NQ{ns:List Int}(h:(ns.length:Int)=1):∃a,ns=[a]:=by
 match ns,(show ns.length=1 by omega) with
 | [a],_=>exact⟨_,rfl⟩
theorem EC{l:List Str}(h:l.all (λz=>sg.contains z)=true){z:Str}(hz:z∈l):z∈sg:=by
 have:=QS.mp h z hz;simpa using this
def NR:List VL->(VL->Prop)->Prop:=λds Q=>∃(k x0 x1 x2 x3 x4 x5 x6 x7 x8 x9 x10:Int),ds=[.int k,jM x0 x1 x2 x3 x4 x5 x6 x7 x8 x9 x10]/\0<=k/\∀so∈sg,Q (.str so)
theorem NS(T:Txt K mg t):aF P w K mg base CX0 1 t.a_x54 t.d_x54 ["_law_k","_law_xs"] (ba K NR):=by
 refine T.F_x54.okD xM (λds Q h=>?_) (λcdv A outer s H O ds Q E hr h=>?_)
 ·obtain⟨k,x0,x1,x2,x3,x4,x5,x6,x7,x8,x9,x10,rfl,_⟩:=h;rfl
 ·obtain⟨k,x0,x1,x2,x3,x4,x5,x6,x7,x8,x9,x10,rfl,k0,q⟩:=h;refine'⟨_,?body,?read⟩
  case body=>
   refine' aq ?s1 ?r1
   case s1=>
    generalize hE2_0:T3 _ _=ee2_0;exact bw (i:=2) xM.nd rfl (by walk_at "o") (fe (sU (ds:=[.str "paper",.str "rule",.str "paper",.str "rule",.str "paper",.str "happens",.str "rule",.str "hold",.str "leave",.str "rule"]) (by first | (subst hE2_0;rfl)))) (hs:=wz (ds:=[.str "paper",.str "rule",.str "paper",.str "rule",.str "paper",.str "happens",.str "rule",.str "hold",.str "leave",.str "rule"]) (by first | (subst hE2_0;rfl)))
   case' r1=>refine' aq ?s3 ?r3
   case s3=>
    refine' bF ?c4 ?a4 bE
    case c4=>exact(aQ sG dO (df (dv 0)) (df (PE.imp (dq mN rfl T.n_len Rh (bu (df (dv 2)) bC)) (bU ro))) (aM _))
    case' a4=>refine' aA ?s5
    case s5=>exact(aU (ar bj bq (df (dv 2)) (df (dv 0))))
   case' r3=>refine' aq ?s7 ?r7
   case s7=>
    generalize hE8_0:T3 _ _=ee8_0;exact bw (i:=3) xM.nd rfl (by walk_at "o") (fe (sU (ds:=[.str "paper",.str "happens",.str "rule",.str "rule",.str "end",.str "hold",.str "lift",.str "leave",.str "happens"]) (by first | (subst hE8_0;rfl)))) (hs:=wz (ds:=[.str "paper",.str "happens",.str "rule",.str "rule",.str "end",.str "hold",.str "lift",.str "leave",.str "happens"]) (by first | (subst hE8_0;rfl)))
   case' r7=>refine' aA ?s9
   case' s9=>refine' aU ?e10
   case' e10=>refine' ar bj bq (df (dv 3)) ?b11
   case b11=>exact(df (aH bJ bp (df (ar bj bq (df (dv 1)) (df ah))) (df (PE.imp (dq mN rfl T.n_len Rh (bu (df (dv 3)) bC)) (bU ro)))))
  case read=>
  clear hr T;simp only [jM];walk_at "rzw";split
  ·rename_i h;obtain⟨so,hs,es⟩:=mK [Od "paper",Od "rule",Od "paper",Od "rule",Od "paper",Od "happens",Od "rule",Od "hold",Od "leave",Od "rule"] (i:=k) k0 h;exact⟨_,es,q so (EC cp hs)⟩
  ·obtain⟨so,hs,es⟩:=mK [Od "paper",Od "happens",Od "rule",Od "rule",Od "end",Od "hold",Od "lift",Od "leave",Od "happens"] (i:=x10 % ((9:Nat):Int)) (Rv _ VG) (QW _ VG);exact⟨_,gF (j:=10) rfl,x10,rfl,VG,_,es,q so (EC cp hs)⟩
structure Dr (xs:List De):Prop where
 it:∀x∈xs,qr x
 pw:xs.Pairwise mJ
 ln:xs.length<=16
def NT:List VL->(VL->Prop)->Prop:=λds Q=>∃ns:List Int,ds=[gG (ns.map .int)]/\∀xs,Dr xs->Q (.tuple (xs.map De.enc))
theorem mJ.symm{x y:De}(h:mJ x y):mJ y x:=⟨λe=>h.1 e.symm,λp q e1 e2 e=>h.2.1 q p e2 e1 e.symm,λa b e=>h.2.2.1 b a ⟨e.1.symm,e.2.symm⟩,λa b e=>h.2.2.2.1 b a ⟨e.1.symm,e.2.symm⟩,λa b e=>h.2.2.2.2 b a e.symm⟩
def NU(ns:List Int)(n0 n1 n2 n3 n4 n5 n6:Str)(i:Nat)(δ:Dl):Prop:=∃(xs:List De)(o3 o4 o5:Option Sl),xs.length<=i/\(∀x∈xs,qr x)/\xs.Pairwise mJ/\δ=[some (Sl.v (gG (ns.map .int))),some (Sl.v (yO n0 n1 n2 n3 n4 n5 n6)),some (Sl.o (xs.map De.enc)),o3,o4,o5]
theorem NV(T:Txt K mg t):aF P w K mg base CX0 3 t.a_x55 t.d_x55 ["_law_script"] (ba K NT):=by
 have G_x47:=Er (P:=P) (w:=w) (base:=base) T;have G_x48:=Et (P:=P) (w:=w) (base:=base) T;have G_x53:=NF (P:=P) (w:=w) (base:=base) T;have G_x54:=NS (P:=P) (w:=w) (base:=base) T;have G_x52:=NO (P:=P) (w:=w) (base:=base) T;have G_x50:=NC (P:=P) (w:=w) (base:=base) T;refine T.F_x55.okD rO (λds Q h=>?_) (λcdv A outer s H O ds Q E hr h=>?_)
 ·obtain⟨ns,rfl,_⟩:=h;rfl
 ·obtain⟨ns,rfl,q⟩:=h;refine'⟨_,?body,?read⟩
  case body=>
   refine' aq ?s1 ?r1
   case s1=>
    refine' bw (i:=1) rO.nd rfl (by walk_at "o") ?e2 (hs:=qJ)
    case e2=>exact(PE.imp (aR G_x53 (hr.mono VG) rfl T.m_x53 T.F_x53.kp T.b_x53 .nil aG (aa (ar bj bq (df (PE.imp (aR G_x48 (hr.mono VG) rfl T.m_x48 T.F_x48.kp T.b_x48 .nil aG (aa (PE.imp (aR G_x47 (hr.mono VG) rfl T.m_x47 T.F_x47.kp T.b_x47 .nil aG (aa (dv 0) (aa ah ao))) aS) (aa ah ao))) aS)) (df ah)) ao)) aS)
   case' r1=>refine' aq ?s4 ?r4
   case s4=>exact(ia (i:=2) rO.nd rfl (by walk_at "o") (dN ao))
   case' r4=>refine' aq ?s6 ?r6
   case s6=>
    refine' z6 Pz rfl rfl T.n_range (aa (PE.imp (dq (FU rfl) rfl T.n_max VC (bu (df ah) (bu (df (PE.imp (dq (FV rfl) rfl T.n_min VD (bu (df (aH vU cQ (df (PE.imp (dq mN rfl T.n_len Rh (bu (df (dv 0)) bC)) (bU Ac))) (df ah))) (bu (df ah) bC))) (bU Ad))) bC))) (bU Ad)) ao) ?a7 aO ?b7
    case a7=>exact(aL (i:=3) rO.nd rfl (by walk_at "o"))
    case' b7=>refine' aq ?s8 ?r8
    case s8=>
     refine' bw (i:=4) rO.nd rfl (by walk_at "o") ?e9 (hs:=qJ)
     case e9=>exact(PE.imp (aR G_x48 (hr.mono VG) rfl T.m_x48 T.F_x48.kp T.b_x48 .nil aG (aa (PE.imp (aR G_x47 (hr.mono VG) rfl T.m_x47 T.F_x47.kp T.b_x47 .nil aG (aa (dv 0) (aa (aH dY cQ (df ah) (df (dv 3))) ao))) aS) (aa ah ao))) aS)
    case' r8=>refine' aq ?s11 ?r11
    case s11=>
     refine' bw (i:=5) rO.nd rfl (by walk_at "o") ?e12 (hs:=qJ)
     case e12=>exact(PE.imp (aR G_x52 (hr.mono VG) rfl T.m_x52 T.F_x52.kp T.b_x52 .nil aG (aa (PE.imp (aR G_x54 (hr.mono VG) rfl T.m_x54 T.F_x54.kp T.b_x54 .nil aG (aa (dv 3) (aa (dv 4) ao))) aS) (aa (dv 4) (aa (dv 1) ao)))) aS)
    case' r11=>refine' aA ?s14
    case' s14=>refine' bF ?c15 ?a15 bE
    case c15=>exact(wq (qw (PE.imp (dq (zY rfl) rfl T.n_any z3 (bu (df (fe (d8 rfl EB (dw 2) aO bL VG (λ_ _ _ _=>(aL (i:=0) EB.nd rfl (by walk_at "o"))) (λ_ _ _ _=>cS) (λ_ _ _ _=>(PE.imp (aR G_x50 (hr.mono VG) rfl T.m_x50 T.F_x50.kp T.b_x50 .nil aG (aa (dv 1) (aa (dv 0) ao))) aS))))) bC)) (bU uG))))
    case' a15=>refine' aA ?s16
    case s16=>exact(j0 (i:=2) (pv 2) (dv 5))
   case' r6=>refine' aA ?s18
   case s18=>exact(aU (PE.imp (dA fc rfl T.n_tuple fg (bu (dw 2) bC)) (bU fj)))
  case read=>
  clear hr T G_x47 G_x48 G_x53 G_x54 G_x52 G_x50;walk_at "rzw";intro c ms ml mn;obtain⟨a,rfl⟩:=NQ ml;clear ml mn;refine⟨_,cT,a,rfl,λn0 n1 n2 n3 n4 n5 n6 nok=>⟨_,rfl,?_⟩⟩;generalize hm:(if (if (16:Int) < ((Pr OZ ns).length:Int) - 2 then(16:Int) else((Pr OZ ns).length:Int) - 2) > 10 then(if (16:Int) < ((Pr OZ ns).length:Int) - 2 then(16:Int) else((Pr OZ ns).length:Int) - 2) else 10)=m;have m0:10<=m/\m<=16:=by
   rw [<-hm];split <;> split <;> omega
  clear hm;obtain⟨m0,m1⟩:=m0;refine⟨VH,VH,?_⟩;generalize hE:hW.mk _ _ _ _=EE;have eN:EE.nx=iV (fY i3 (fX (iS 2) fW)) {nx:=λx=>Q RV,rt:=Q}:=by rw [<-hE]
  clear hE;refine⟨NU ns n0 n1 n2 n3 n4 n5 n6,⟨[],none,none,none,Oj _,by simp,.nil,rfl⟩,?_,?_⟩
  ·rintro i z δ hz ⟨xs,o3,o4,o5,sl,hg,hp,rfl⟩;obtain⟨hi,rfl⟩:=uJ hz;have hi:i < 16:=VH
   walk_at "rzw";refine⟨VH,VH,λc1 ys yl yn=>?_⟩;obtain⟨y0,y1,y2,y3,y4,y5,y6,y7,y8,y9,y10,rfl⟩:=NP yl;clear yl yn;refine⟨0+(i:Int),y0,y1,y2,y3,y4,y5,y6,y7,y8,y9,y10,rfl,VH,λso hso=>⟨so,y0,y1,y2,y3,y4,y5,y6,y7,y8,y9,y10,n0,n1,n2,n3,n4,n5,n6,rfl,hso,nok,λx gx=>?_⟩⟩;refine⟨by rw [Of];omega,λi acc=>∃bs:List Bool,acc=bs.map .bool/\bs.length=i/\∀j:Nat,bs[j]?=some false->∀y,xs[j]?=some y->mJ x y,⟨[],rfl,rfl,by simp⟩,?_,?_⟩
   ·rintro j z acc hz ⟨bs,rfl,bl,hb⟩;rw [OD] at hz;cases hy':xs[j]? with
    | none=>rw [hy'] at hz;cases hz
    | some y=>
     rw [hy'] at hz;cases hz;walk_at "rz";refine⟨x,y,rfl,gx,hg y (OY hy'),λb hb2=>⟨bs++[b],by rw [OM];rfl,by rw [OH,bl];rfl,λn hn y' hy2=>?_⟩⟩;rcases QL n bs.length with h | h
     ·rw [PK h] at hn;exact hb n hn y' hy2
     ·rw [Qf h] at hn;have n0:n - bs.length=0:=by
       rcases UE (n - bs.length) with h0 | h0
       ·exact h0
       ·rw [Qm (by rw [Qw];omega)] at hn;cases hn
      rw [n0] at hn;have ek:n=j:=VH
      rw [ek,hy'] at hy2;cases hy2;exact hb2 (by simpa using hn)
   ·rintro acc ⟨bs,rfl,bl,hb⟩;rw [Of] at bl;refine⟨bs,rfl,?_⟩;split
    ·rename_i hany;have hno:∀y∈xs,mJ x y:=λy hy=>by
      obtain⟨j,hj⟩:=List.getElem?_of_mem hy;have jl:j < bs.length:=by rw [bl];exact(OB.mp hj).1
      refine hb j ?_ y hj;have:bs[j]=false:=by simpa using UI.mp hany bs[j] (Qy jl)
      rw [OT jl,this]
     refine⟨by rw [Of];omega,xs++[x],_,_,_,by rw [OH,Qw];omega,λy hy=>?_,S0.mpr ⟨hp,TZ _ _,λu hu v hv=>?_⟩,by rw [OM];rfl⟩
     ·rcases OL.mp hy with h | h
      ·exact hg y h
      ·rw [OO] at h;rw [h];exact gx
     ·rw [OO] at hv;rw [hv];exact(hno u hu).symm
    ·exact⟨xs,_,_,_,VH,hg,hp,rfl⟩
  ·rintro δ ⟨xs,o3,o4,o5,sl,hg,hp,rfl⟩;rw [eN];rw [wu] at sl;walk_at "rz";exact q xs ⟨hg,hp,VH⟩
end
end K78
open PySem L2
namespace K78
theorem Dr.good{xs:List De}(h:Dr xs):cn xs:=by
 obtain⟨it,pw,ln⟩:=h;have pg:∀p∈aD xs,qr (.pap p):=λp hp=>it _ (xQ.mp hp);have pl:(aD xs).length<=xs.length:=TN De.pp xs;have two:∀{A:De->De->Prop},(∀x y,mJ x y->¬A x y)->(∀x y,A x y->A y x)->∀x∈xs,∀y∈xs,A x y->x=y:=λ{A} h sy x hx y hy a=>by
  clear it pg pl ln
  induction xs with
  | nil=>cases hx
  | cons z xs ih=>
   rw [P8] at pw;rcases OA.mp hx with e1 | h1
   ·rcases OA.mp hy with e2 | h2
    ·rw [e1,e2]
    ·exact absurd (by rw [<-e1];exact a) (h z y (pw.1 y h2))
   ·rcases OA.mp hy with e2 | h2
    ·exact absurd (by rw [<-e2];exact sy _ _ a) (h z x (pw.1 x h1))
    ·exact ih pw.2 h1 h2
 refine⟨⟨⟨⟨VH,?_,λp hp=>(pg p hp).nm,λp hp=>((pg p hp).pp p rfl).1,λp hp=>((pg p hp).pp p rfl).2⟩,λw d nm r h=>(it _ h).np w d nm r rfl,VH,λx hx=>(it x hx).w,λx hx=>(it x hx).nm⟩,λd nm r h=>(it _ h).hp d nm r rfl,λd nm r h=>?_,pw.imp λh=>h.1,λx hx=>?_,λx hx y hy a1 a2 a3 a4=>?_⟩,λd nm r h=>(it _ h).ho d nm r rfl,λd nm r h=>(it _ h).le d nm r rfl,λx hx y hy a1 a2 a3 a4=>?_,λx hx y hy a1 a2 a3=>?_⟩
 ·rw [SD,Px];refine pw.filterMap De.pp λa b h p hp q hq=>?_;cases a with
  | oth=>cases hp
  | pap p'=>
   cases b with
   | oth=>cases hq
   | pap q'=>cases hp;cases hq;exact h.2.1 _ _ rfl rfl
 ·obtain⟨pt,e,ok,_⟩:=(it _ h).ru d nm r rfl;exact⟨pt,e,ok⟩
 ·have:=(it x hx).d0;omega
 ·exact two (A:=λx y=>x.isE=true/\y.isE=true/\x.d=y.d/\x.nm=y.nm) (λx y h a=>h.2.2.1 a.1 a.2.1 a.2.2) (λx y a=>⟨a.2.1,a.1,a.2.2.1.symm,a.2.2.2.symm⟩) x hx y hy ⟨a1,a2,a3,a4⟩
 ·exact two (A:=λx y=>x.isL=true/\y.isL=true/\x.d=y.d/\x.nm=y.nm) (λx y h a=>h.2.2.2.1 a.1 a.2.1 a.2.2) (λx y a=>⟨a.2.1,a.1,a.2.2.1.symm,a.2.2.2.symm⟩) x hx y hy ⟨a1,a2,a3,a4⟩
 ·exact two (A:=λx y=>x.w=Od "leave"/\y.w=Od "leave"/\x.nm=y.nm) (λx y h a=>h.2.2.2.2 a.1 a.2.1 a.2.2) (λx y a=>⟨a.2.1,a.1,a.2.2.symm⟩) x hx y hy ⟨a1,a2,a3⟩
theorem ED(l:List (Int×Str)):(fP l).length<=l.length/\∀z∈fP l,z∈l:=by
 unfold fP;split
 ·rename_i h;exact⟨Uw h.choose_spec.1.length_eq,λz hz=>h.choose_spec.1.mem_iff.mp hz⟩
 ·exact⟨Pe _,λz hz=>nomatch hz⟩
theorem NW(xs:List De)(nm:Str):(cZ xs nm).length<=(xs.filter De.isH).length:=by
 unfold cZ;rw [Of]
 induction xs with
 | nil=>exact Oj _
 | cons x xs ih=>
  rw [PH,PH];by_cases h:iA nm x=true
  ·have h2:x.isH=true:=by
    cases x with
    | pap p=>cases h
    | oth w d n r=>
     simp only [iA,Pw] at h;exact h.1
   rw [VJ h,VJ h2];exact Nat.succ_le_succ ih
  ·rw [VI h];split
   ·exact Nat.le_succ_of_le ih
   ·exact ih
theorem EF:∀xs:List De,(aD xs).length+(xs.filter De.isH).length<=xs.length
 | []=>Oj _
 | x::xs=>by
  have ih:=EF xs;unfold aD at ih⊢;rw [Pu,PH,Oz];cases x with
  | pap p=>
   show((p::Vd De.pp xs).length+(QN De.isH xs).length)<=_;rw [Oz];omega
  | oth w d nm r=>
   show((Vd De.pp xs).length+(if (De.oth w d nm r).isH=true then De.oth w d nm r::QN De.isH xs else QN De.isH xs).length)<=_;split
   ·rw [Oz];omega
   ·omega
theorem NX:∀p m:Nat,p+m<=16->(m+1)*p<=72:=by
 have h:∀p:Fin 17,∀m:Fin 17,p.1+m.1<=16->(m.1+1)*p.1<=72:=cp
 intro p m hpm;exact h ⟨p,VH⟩ ⟨m,VH⟩ hpm
theorem EG{α β:Type}{f:α->List β}{B:Nat}:∀{l:List α},(∀x∈l,(f x).length<=B)->(l.flatMap f).length<=B*l.length
 | [],_=>Pe _
 | x::l,h=>by
  have ih:=EG (f:=f) (B:=B) (l:=l) λy hy=>h y (OQ _ hy);have h1:=h x O8;rw [Qv,OH,Oz,Vp];omega
theorem NY{xs:List De}{x:De}(h:bO xs x≠[]):∃d nm r,x= .oth (Od "rule") d nm r:=by
 unfold bO at h;split at h
 ·split at h
  ·rename_i hw;exact⟨_,_,_,by rw [eq_of_beq hw]⟩
  ·exact absurd rfl h
 ·exact absurd rfl h
theorem NZ(xs:List De)(d:Int)(nm w2 kd:Str):bO xs (.oth (Od "rule") d nm [(Pt.two w2 kd).enc])=[]:=by simp [bO,Pt.enc]
theorem EH{xs:List De}(h:Dr xs){r:Rp}(hr:r∈dS xs):(0<=r.c.d/\r.c.d<=40)/\r.hs.length<=(xs.filter De.isH).length/\∀z∈r.hs,0<=z.1/\z.1<=40:=by
 obtain⟨c,hc,rfl⟩:=Oq.mp hr;have hc:=xQ.mp (gQ.mp hc);refine⟨(h.it _ hc).d0,O6 (ED _).1 (NW xs c.nm),λz hz=>?_⟩;have hz:=(ED _).2 z hz;obtain⟨x,hx,rfl⟩:=Oq.mp hz;have hx:=(Pa.mp hx).1;have e:(rQ x).1=x.d:=by
  unfold rQ;split <;> rfl
 rw [e];exact(h.it x hx).d0
theorem N0{r:Rp}(h1:0<=r.c.d/\r.c.d<=40)(h2:∀z∈r.hs,0<=z.1/\z.1<=40)(s:bS):∀d∈qh r s,0<=d/\d<=40:=by
 have dl:∀wd,∀d∈dh r.hs wd,0<=d/\d<=40:=λwd d hd=>by
  unfold dh at hd;obtain⟨z,hz,rfl⟩:=Oq.mp hd;exact h2 z (Pa.mp hz).1
 intro d hd;cases s with
 | com=>rw [show d=r.c.d by simpa [qh] using hd];exact h1
 | fst wd=>exact dl wd d (RH hd)
 | lst wd=>exact dl wd d hd
theorem EI{xs:List De}(h:Dr xs){x:De}(hx:x∈xs):(bO xs x).length<=72/\∀z∈bO xs x,0<=z/\z<=60:=by
 by_cases e:bO xs x=[]
 ·rw [e];exact⟨Pe _,λz hz=>nomatch hz⟩
 ·obtain⟨d,nm,r,rfl⟩:=NY e;obtain⟨pt,rfl,ok,hk⟩:=(h.it _ hx).ru d nm r rfl;cases pt with
  | two w2 kd=>exact absurd (NZ xs d nm w2 kd) e
  | five w2 kd s k u=>
   rw [CD];obtain⟨_,_,_,k0,_,_⟩:=ok;have hk:k<=20:=hk;have pm:=EF xs;have ln:=h.ln;have rl:(dS xs).length=(aD xs).length:=by unfold dS;rw [Of,iz]
   have b1:=CC (rs:=dS xs) (m:=(xs.filter De.isH).length) (λr hr=>(EH h hr).2.1) kd s k u;rw [rl] at b1;refine⟨O6 b1 (NX _ _ VH),λz hz=>?_⟩;unfold fA at hz;obtain⟨r,hr,hz⟩:=SR.mp hz;split at hz
   ·obtain⟨d',hd',rfl⟩:=Oq.mp hz;obtain⟨c1,_,c2⟩:=EH h hr;have:=N0 c1 c2 s d' hd';rw [yA];omega
   ·cases hz
theorem Dr.few{xs:List De}(h:Dr xs):jF xs:=by
 have ln:=h.ln;have fb:=EG (f:=bO xs) (B:=72) (l:=xs) λx hx=>(EI h hx).1;refine⟨?_,(Qa 61).map λn:Nat=>(n:Int),by simp,λz hz=>?_⟩
 ·unfold gU;rw [OH,Of];omega
 ·have key:0<=z/\z<=60:=by
   unfold gU at hz;rcases OL.mp hz with hz | hz
   ·obtain⟨x,hx,rfl⟩:=Oq.mp hz;have:=(h.it x hx).d0;omega
   ·obtain⟨x,hx,hz⟩:=SR.mp hz;exact(EI h hx).2 z hz
  exact Oq.mpr ⟨z.toNat,RZ.mpr VH,by show((z.toNat:Nat):Int)=z;omega⟩
end K78
open PySem L2
namespace K78
theorem EJ:bb (ag gO) ["_law_deeds","_law_by","_law_others","_law_due","_law_name","_law_day","_law_leave"] ["_law_deed_here","_law_by"] 1 [1] {kind:=Ou,names:=[ (Og ".0",PySem.NameKind.local),(Og "_law_deed_here",PySem.NameKind.local),(Og "_law_by",OE)],isGenerator:=false,isCoroutine:=false,more:=[]:O3}:=⟨rfl,cp,cp,cp,rfl,cp,cp,cp,rfl⟩
theorem EK:bb (ag gO) ["_law_deeds","_law_by","_law_others","_law_due","_law_name","_law_day","_law_leave"] ["_law_day","_law_by"] 1 [1] {kind:=Ou,names:=[ (Og ".0",PySem.NameKind.local),(Og "_law_day",PySem.NameKind.local),(Og "_law_by",OE)],isGenerator:=false,isCoroutine:=false,more:=[]:O3}:=⟨rfl,cp,cp,cp,rfl,cp,cp,cp,rfl⟩
theorem EL:bb (ag gO) ["_law_deeds","_law_by","_law_others","_law_due","_law_name","_law_day","_law_leave"] ["_law_day","_law_others","_law_deeds","_law_by"] 1 [2,0,1] {kind:=Ou,names:=[ (Og ".0",PySem.NameKind.local),(Og "_law_day",PySem.NameKind.local),(Og "there",O9),(Og "_law_by",OE),(Og "_law_deeds",OE),(Og "_law_others",OE)],isGenerator:=false,isCoroutine:=false,more:=[]:O3}:=⟨rfl,cp,cp,cp,rfl,cp,cp,cp,rfl⟩
theorem EM:bb (ag jx) ["_law_script","_law_xs","_law_deeds"] ["_law_by","_law_deeds"] 1 [2] {kind:=Ou,names:=[ (Og ".0",PySem.NameKind.local),(Og "_law_by",PySem.NameKind.local),(Og "_law_moved_right",O9),(Og "_law_deeds",OE)],isGenerator:=false,isCoroutine:=false,more:=[]:O3}:=⟨rfl,cp,cp,cp,rfl,cp,cp,cp,rfl⟩
section
variable {P:VY} {w:VZ} {K:Oe} {mg:Str->Option VM} {base:V0} {t:cm}
def vI(k:Lk):Prop:=∀v,k.lv=some v->Om v=true
theorem EN{R:Rn}(h:∀p∈R.lvs,Om p.nm=true):∀(ss:List Sf)(st:dX×List Lk),(∀k∈st.2,vI k)->∀k∈(ss.foldl (cF R) st).2,vI k
 | [],st,z=>z
 | s::ss,st,z=>by
  rw [O4];refine EN h ss _ λk hk=>?_;unfold cF at hk;split at hk
  ·rcases OL.mp hk with y | y
   ·exact z k y
   ·rw [OO] at y;subst y;intro v hv;have hv:eY (R.at st.1) s.1.c.kd=some v:=hv;unfold eY at hv;split at hv
    ·cases hv
    ·unfold jJ at hv;rw [QM] at hv;obtain⟨p,hp,rfl⟩:=hv;exact h p (Tw hp)
  ·exact z k hk
theorem N1{xs:List De}(g:cn xs)(n:Int):∀p∈tI xs n,Om p.nm=true:=λp hp=>by
 have hp:=(Pa.mp (gQ.mp hp)).1;obtain⟨x,hx,e⟩:=vE hp;have:=g.gd.gx.nm x hx;rw [e] at this;exact this
theorem EO{xs:List De}(g:cn xs)(ss:List Sf):∀(ns:List Int)(st:List Ro×List Lk),(∀k∈st.2,vI k)->∀k∈(ns.foldl (qU xs ss) st).2,vI k
 | [],_,h=>h
 | n::ns,st,h=>by
  rw [O4];refine EO g ss ns _ λk hk=>?_;rcases OL.mp hk with y | y
  ·exact h k y
  ·exact EN (R:=cE xs n st.1) (N1 g n) ss (((cE xs n st.1).go,(cE xs n st.1).us),[]) (λk hk=>nomatch hk) k y
theorem ER{z:Str}:∀(rs:List Ro)(o:Option Ro)(r:Ro),rs.foldl (λo r=>if r.nm=z then some r else o) o=some r->r∈rs\/o=some r
 | [],o,r,e=>.inr e
 | a::rs,o,r,e=>by
  rw [O4] at e;rcases ER rs _ r e with h | h
  ·exact .inl (OQ _ h)
  ·by_cases ha:a.nm=z
   ·rw [VJ ha] at h;cases h;exact .inl O8
   ·rw [VI ha] at h;exact .inr h
theorem N2{xs:List De}(g:cn xs):∀p∈bW xs,Om p.nm=true/\∀v,p.lv=some v->Om v=true:=λp hp=>by
 obtain⟨c,hc,rfl⟩:=Oq.mp hp;have hn:=g.gd.gx.gp.nm c (gQ.mp hc);cases e:jL (eZ xs) c.nm with
 | none=>exact⟨hn,λv h=>nomatch h⟩
 | some r=>
  refine⟨?_,λv hv=>?_⟩
  ·show Om r.nm=true;rw [yF _ none (λr h=>nomatch h) r e];exact hn
  ·have hm:r∈eZ xs:=(ER _ _ r e).resolve_right (λh=>nomatch h);unfold eZ bP at hm;obtain⟨k,hk,rfl⟩:=Oq.mp hm;exact EO g (dG xs) (dU xs) ([],[]) (λk hk=>nomatch hk) k (Pa.mp hk).1 v hv
theorem ES:bV 1 .none:=⟨by simp [Pj],by simp [Sv]⟩
theorem N3{ps:List Pl}(h:∀p∈ps,Om p.nm=true/\∀v,p.lv=some v->Om v=true):bV 3 (.tuple (ps.map Pl.enc)):=by
 refine eO λd hd=>?_;obtain⟨p,hp,rfl⟩:=Oq.mp hd;obtain⟨h1,h2⟩:=h p hp;refine eO (bM (ik h1) (bM ?_ (bM ?_ fq)))
 ·cases p.d with
  | none=>exact ES
  | some d=>exact sW
 ·cases e:p.lv with
  | none=>exact ES
  | some v=>exact ik (h2 v e)
theorem N4(ns:List Int):bV 2 (.tuple (ns.map .int)):=eO λd hd=>by
 obtain⟨n,_,rfl⟩:=Oq.mp hd;exact sW
theorem N5{xs:List De}(g:cn xs)(n:Int):bV 2 (.tuple ((tJ xs n).map .str)):=eO (uP λz hz=>by
 obtain⟨c,hc,rfl⟩:=Oq.mp (Pa.mp hz).1;exact g.gd.gx.gp.nm c (gQ.mp (Pa.mp hc).1))
def N6:List VL->(VL->Prop)->Prop:=λds Q=>∃(xs:List De)(b:Int),ds=[.tuple (xs.map De.enc),.int b]/\Dr xs/\0<=b/\b < 99000/\Q (.bool true)
theorem N7(T:Txt K mg t):aF P w K mg base CX0 15 t.a_x56 t.d_x56 ["_law_deeds","_law_by"] (ba K N6):=by
 have G_x44:=D9 (P:=P) (w:=w) (base:=base) T;have G_x31:=CG (P:=P) (w:=w) (base:=base) T;have G_x46:=Ni (P:=P) (w:=w) (base:=base) T;refine T.F_x56.okD qN (λds Q h=>?_) (λcdv A outer s H O ds Q E hr h=>?_)
 ·obtain⟨xs,b,rfl,_⟩:=h;rfl
 ·obtain⟨xs,b,rfl,dr,b0,b1,q⟩:=h;refine'⟨_,?body,?read⟩
  case body=>
   refine' aq ?s1 ?r1
   case s1=>
    refine' bw (i:=2) qN.nd rfl (by walk_at "o") ?e2 (hs:=qJ)
    case e2=>exact(PE.imp (dA fc rfl T.n_tuple fg (bu (df (fe (kc rfl EJ (df (dv 0)) aO bL VG (λ_ _ _ _=>(aL (i:=0) EJ.nd rfl (by walk_at "o"))) (λ_ _ _ _=>cS) (λ_ _ _ _=>(aH Jt Ju (df (bD (aa (ar aC aI (df (dv 0)) (df ah)) (aa (aH dY cQ (df (ar aC aI (df (dv 0)) (df ah))) (df (dv 1))) ao)))) (df (sX (df (dv 0)) (cR ah) rj))))))) bC)) (bU fj))
   case' r1=>refine' aq ?s4 ?r4
   case s4=>exact(ia (i:=3) qN.nd rfl (by walk_at "o") (dN ao))
   case' r4=>refine' aq ?s6 ?r6
   case s6=>
    refine' qB Pz rfl (PE.imp (aR G_x44 (hr.mono VG) rfl T.m_x44 T.F_x44.kp T.b_x44 .nil aG (aa (dv 0) ao)) aS) ?a7 (ic (cf aO (cf aO (cf aO ib)))) ?b7
    case a7=>exact(g6 (n:=3) rfl (cc (aL (i:=4) qN.nd rfl (by walk_at "o")) (cc (aL (i:=5) qN.nd rfl (by walk_at "o")) (cc (aL (i:=6) qN.nd rfl (by walk_at "o")) gZ))))
    case' b7=>refine' aq ?s8 ?r8
    case s8=>
     refine' bF ?c9 ?a9 bE
     case c9=>exact(aQ vV wJ (df (dv 5)) (df fE) (aM _))
     case' a9=>refine' aA ?s10
     case s10=>exact(bw (i:=5) qN.nd rfl (by walk_at "o") (aH dY cQ (df (dv 5)) (df (dv 1))))
    case' r8=>refine' aA ?s12
    case' s12=>refine' j0 (i:=3) (pv 3) ?e13
    case e13=>exact(bD (aa (dv 4) (aa (dv 5) (aa (dv 6) ao))))
   case' r6=>refine' aq ?s15 ?r15
   case s15=>
    refine' bF ?c16 ?a16 bE
    case c16=>exact(PW.pt (sP (aQ (Aa hr.units) Ab (df (PE.imp (aR G_x44 (hr.mono VG) rfl T.m_x44 T.F_x44.kp T.b_x44 .nil aG (aa (dv 2) ao)) aS)) (df (PE.imp (dA fc rfl T.n_tuple fg (bu (dw 3) bC)) (bU fj))) (aM _)) (sO (aQ (Aa hr.units) Ab (df (PE.imp (aR G_x31 (hr.mono VG) rfl T.m_x31 T.F_x31.kp T.b_x31 .nil aG (aa (dv 2) ao)) aS)) (df (PE.imp (dA fc rfl T.n_tuple fg (bu (df (fe (kc rfl EK (df (PE.imp (aR G_x31 (hr.mono VG) rfl T.m_x31 T.F_x31.kp T.b_x31 .nil aG (aa (dv 0) ao)) aS)) aO bL VG (λ_ _ _ _=>(aL (i:=0) EK.nd rfl (by walk_at "o"))) (λ_ _ _ _=>cS) (λ_ _ _ _=>(aH dY cQ (df (dv 0)) (df (dv 1))))))) bC)) (bU fj))) (aM _)))))
    case a16=>refine' aA (aU z5)
   case' r15=>refine' aA ?s19
   case' s19=>refine' aU ?e20
   case e20=>exact(PE.imp (dq (zX rfl) rfl T.n_all zZ (bu (df (fe (Kn rfl EL rfl T.n_range (bu (df ah) (bu (df ah) (bu (df ah) bC))) aO bL VG (λ_ _ _ _=>(aL (i:=0) EL.nd rfl (by walk_at "o"))) (λ_ _ _ _=>cS) (λ_ _ _ _=>(fF (dB hr.units) dD (df (PE.imp (aR G_x46 (hr.mono VG) rfl T.m_x46 T.F_x46.kp T.b_x46 .nil aG (aa (dv 1) (aa (aH dY cQ (df (dv 0)) (df (dv 3))) ao))) aS)) (df (PE.imp (aR G_x46 (hr.mono VG) rfl T.m_x46 T.F_x46.kp T.b_x46 .nil aG (aa (dv 2) (aa (dv 0) ao))) aS)) (aM _)))))) bC)) (bU uG))
  case read=>
  clear hr T G_x44 G_x31 G_x46;walk_at "rzw";have g:=dr.good;have fw:=dr.few;have ln:=dr.ln;have gs:cn (xs.map (De.sh b)):=g.sh λx hx=>by
   have:=(dr.it x hx).d0;omega
  have fs:jF (xs.map (De.sh b)):=fw.sh;have pl:=Eb g;refine⟨by rw [Of];omega,jz (λ_=>true) (λx:De=>(x.sh b).enc) (λx hx R S h1 _=>?_) ?_⟩
  ·have h:=h1 rfl;have rl:=(dr.it x hx).rl;cases x with
   | pap p=>
    simp only [De.enc,De.sh,Pp.enc,Pp.sh] at h⊢;walk_at "rzw";exact h
   | oth wo d nm r=>
    have rl:=rl wo d nm r rfl;simp only [De.enc,De.sh] at h⊢;walk_at "rzw";exact⟨VH,h⟩
  ·rw [gm,show(xs.map λx:De=>(x.sh b).enc)=(xs.map (De.sh b)).map De.enc by rw [Ov];rfl];refine⟨xs,rfl,g,fw,_,rfl,?_⟩;have ps:=Eo (b:=b) g;generalize hE:hW.mk _ _ _ _=EE;have eN:=congrArg hW.nx hE;simp only at eN;clear hE;refine⟨λi δ=>∃(o4 o5 o6:Option Sl),δ=[some (Sl.v (OW (Pr De.enc xs))),some (Sl.v (OZ b)),some (Sl.v (OW ((xs.map (De.sh b)).map De.enc))),some (Sl.o ((((bW xs).take i).map (Pl.sh b)).map Pl.enc)),o4,o5,o6],⟨none,none,none,rfl⟩,?_,?_⟩
   ·rintro i z δ hz ⟨o4,o5,o6,rfl⟩;rw [OD] at hz;cases hz':(bW xs)[i]? with
    | none=>rw [hz'] at hz;cases hz
    | some r=>
     rw [hz'] at hz;cases hz;have ts:(((bW xs).take (i+1)).map (Pl.sh b)).map Pl.enc=(((bW xs).take i).map (Pl.sh b)).map Pl.enc++[(r.sh b).enc]:=by
      rw [Pk,hz',OM,OM];rfl
     have tl:((((bW xs).take i).map (Pl.sh b)).map Pl.enc).length<=41:=by
      rw [Of,Of,PF];omega
     clear eN;simp only [ts];generalize (((bW xs).take i).map (Pl.sh b)).map Pl.enc=acc at*;obtain⟨nm,d,lv⟩:=r;simp only [Pl.enc,Pl.sh];cases d with
     | none=>
      walk_at "rzw";rw [VI (by simp [dF,bN])];exact⟨VH,_,rfl⟩
     | some d=>
      walk_at "rzw";rw [VJ (by simp [dF,bN])];exact⟨d,rfl,VH,rfl,_,rfl⟩
   ·rintro δ ⟨o4,o5,o6,rfl⟩;rw [<-eN,Of,O7 (Oj _)];clear eN;walk_at "rzw";have l1:=N3 (N2 gs);refine⟨xs.map (De.sh b),rfl,gs,fs,?_⟩;rw [<-ps];refine⟨l1.shp VG,l1.shp VG,?_⟩;rw [tL _ l1.can,VI VG];refine⟨xs.map (De.sh b),rfl,gs.gd,λ_=>fs,λ_ t1=>⟨xs,rfl,g.gd,λ_=>fw,λ_ t2=>⟨_,rfl,by rw [Of];omega,?_⟩⟩⟩;refine jz (λ_=>true) (λn:Int=>.int (n+b)) (λn hn R S h1 _=>?_) ?_
    ·walk_at "rzw";exact h1 rfl
    ·rw [gm,show(dU xs).map (λn:Int=>OZ (n+b))=(dU (xs.map (De.sh b))).map .int by rw [En,Ov];rfl];have l2:=N4 (dU (xs.map (De.sh b)));refine⟨l2.shp VG,l2.shp VG,?_⟩;rw [tL _ l2.can,VI VG];refine⟨VG,cp,cp,10,cp,VG,?_⟩;refine AL (p:=λb=>Q (.bool b)) (gg:=λbs=>bs.all id) (λ_=>true) (λd hd R hR=>?_) ?_
     ·obtain⟨k,hk,rfl⟩:=Oq.mp hd;walk_at "rzw";have l3:=N5 g (0+(k:Int)*7);refine⟨xs.map (De.sh b),_,rfl,gs,fs,xs,_,rfl,g,fw,?_⟩;rw [Nt g];refine⟨l3.shp VG,l3.shp VG,?_⟩;rw [tL _ l3.can];exact hR
     ·have e:(((BI 0 7 10).map λ_=>true).all id)=true:=by
       rw [Vq];exact QS.mpr λ_ _=>rfl
      rw [e];exact q
def F_x57:List VL->(VL->Prop)->Prop:=λds Q=>∃ns:List Int,ds=[gG (ns.map .int)]/\ns.length<=63/\(∀z∈ns,Qb z<=1048576)/\Q (.bool true)
def sp_law(K:Oe):Sp:=ba K F_x57
theorem start_law{K:Oe}{H:Hp}{a:VO}{ns:List Int}(hl:ns.length<=63)(hb:∀z∈ns,Qb z<=1048576)(hS:bg K H a (ns.map V.int)):sp_law K [.ref a] H (λv _=>v= .bl true) λ_ _ _=>False:=
 ⟨λ_=>False,[gG (ns.map .int)],λd=>d= .bool true,λ_ z=>z.elim,.cons (.scr (by
  rcases hS with h | h
  ·exact .inl ⟨h,λz=>z⟩
  ·exact .inr (.inr h)) (aj.ints ns)) .nil,⟨ns,rfl,hl,hb,rfl⟩,λd v H' e _ r=>by subst e;cases r;rfl⟩
theorem ok_law(T:Txt K mg t):aF P w K mg base CX0 20 t.a_x57 t.d_x57 ["_law_script"] (sp_law K):=by
 have G_x47:=Er (P:=P) (w:=w) (base:=base) T;have G_x48:=Et (P:=P) (w:=w) (base:=base) T;have G_x55:=NV (P:=P) (w:=w) (base:=base) T;have G_x56:=N7 (P:=P) (w:=w) (base:=base) T;refine T.F_x57.okD xN (λds Q h=>?_) (λcdv A outer s H O ds Q E hr h=>?_)
 ·obtain⟨ns,rfl,_⟩:=h;rfl
 ·obtain⟨ns,rfl,_,_,q⟩:=h;refine'⟨_,?body,?read⟩
  case body=>
   refine' aq ?s1 ?r1
   case s1=>exact(bw (i:=1) xN.nd rfl (by walk_at "o") (PE.imp (aR G_x48 (hr.mono VG) rfl T.m_x48 T.F_x48.kp T.b_x48 .nil aG (aa (PE.imp (aR G_x47 (hr.mono VG) rfl T.m_x47 T.F_x47.kp T.b_x47 .nil aG (aa (dv 0) (aa ah ao))) aS) (aa ah ao))) aS))
   case' r1=>refine' aq ?s3 ?r3
   case s3=>exact(bw (i:=2) xN.nd rfl (by walk_at "o") (PE.imp (aR G_x55 (hr.mono VG) rfl T.m_x55 T.F_x55.kp T.b_x55 .nil aG (aa (dv 0) ao)) aS))
   case' r3=>refine' aA ?s5
   case' s5=>refine' aU ?e6
   case e6=>exact(PE.imp (dq (zX rfl) rfl T.n_all zZ (bu (df (fe (d8 rfl EM (df (dv 1)) aO bL VG (λ_ _ _ _=>(aL (i:=0) EM.nd rfl (by walk_at "o"))) (λ_ _ _ _=>cS) (λ_ _ _ _=>(PE.imp (aR G_x56 (hr.mono VG) rfl T.m_x56 T.F_x56.kp T.b_x56 .nil aG (aa (dv 1) (aa (aH bJ bp (df (dv 0)) (df ah)) ao))) aS))))) bC)) (bU uG))
  case read=>
  clear hr T G_x47 G_x48 G_x55 G_x56;walk_at "rzw";intro c ms ml mn;refine⟨ns,rfl,λxs dr=>⟨by rw [Of];omega,?_⟩⟩;refine AL (p:=λb=>Q (.bool b)) (gg:=λbs=>bs.all id) (λ_=>true) (λd hd R hR=>?_) ?_
  ·obtain⟨z,hz,rfl⟩:=Oq.mp hd;walk_at "rzw";exact⟨xs,z % 99000,rfl,dr,Rv _ VG,QW _ VG,hR⟩
  ·have e:(((ms.map OZ).map λ_=>true).all id)=true:=by
    rw [Vq];exact QS.mpr λ_ _=>rfl
   rw [e];exact q
end
end K78
namespace PySem.W.Fast
def tw5319246025836442087:=0
def tw10245235726414467354:=0
def tw8487656931897118143:=0
def tw11461013421984209332:=0
def tw2050666691487340804:=0
def tw9352909674945108736:=0
def tw1417702031590061694:=0
def tw5587191655723656552:=0
def tw14401219692228269625:=0
def tw14287026148522685883:=0
def tw15346556592604344259:=0
def tw14634106459352312246:=0
def tw10596420557696771857:=0
def tw6623438270349491825:=0
def tw9915083327034456376:=0
def tw406823594836881762:=0
def tw7149684715913925019:=0
def tw2607182153869648032:=0
def tw6517194800303837655:=0
def tw49585970098497022:=0
def tw1095363159215220013:=0
def tw18100914001851882527:=0
def tw17036139722886298536:=0
def tw894428387866214968:=0
def tw14620771494546065458:=0
def tw2458279550000506733:=0
def tw1248739845509911639:=0
def tw2031188064545168917:=0
def tw18439368605141201465:=0
def tw5697493402456857770:=0
def tw11652586953092638853:=0
def tw12220434271385053002:=0
def tw8182955920331796671:=0
def tw6698496311741098159:=0
def tw13447009539573220048:=0
def tw11943489942432303549:=0
def tw15888582908934157225:=0
def tw8713058410366159503:=0
def tw535421295926841165:=0
def tw1433828574092998724:=0
def tw261142831942421801:=0
def tw4923355401688810990:=0
def tw13375101948893350031:=0
def tw6619344398937705352:=0
def tw6941477378110050185:=0
def tw10024183604104522150:=0
def tw2962633952130336508:=0
def tw9985855130472437226:=0
def tw13660682884807969322:=0
def tw15601706250020905554:=0
def tw9980404896427896695:=0
def tw17715919530493121450:=0
def tw7678342949660417348:=0
def tw11586935278623179452:=0
def tw2968180283800786924:=0
def tw1044407613096913181:=0
def tw1315562988288375587:=0
def tw16015965438560294530:=0
def tw1885473056513254732:=0
def tw2638609536590838165:=0
def tw1752233447661950239:=0
def tw978087013037464341:=0
def tw16111990402125430251:=0
def tw13932404147486761289:=0
def tw10106606764048076182:=0
def tw14236902953860504881:=0
def tw15079043611371462688:=0
def tw10989537719844354245:=0
def tw7682689331177172324:=0
def tw8083980869552228801:=0
def tw6673951573948469029:=0
def tw3427391109980272481:=0
def tw14989457427817258074:=0
def tw2498700370054718639:=0
def tw14936344101721048632:=0
def tw2705134257541008286:=0
def tw2015192395742922278:=0
def tw17819123950236278955:=0
def tw3014105050216207817:=0
def tw17874711816750307242:=0
def tw6757284405971844052:=0
def tw14337424386412361491:=0
def tw16393096634155959799:=0
def tw367529774238483940:=0
def tw15986905921513695097:=0
def tw9721828931545779413:=0
def tw14273900554834510497:=0
def tw11040630060182367013:=0
def tw1640597482122727990:=0
def tw7179249233979174789:=0
def tw3025487728834932470:=0
def tw14156666872074870287:=0
def tw10502348262160207613:=0
def tw1642464049288473598:=0
def tw16669879662140933966:=0
def tw3093421681269814134:=0
def tw2849763782009091871:=0
def tw2410790462463160411:=0
def tw2367786961517577504:=0
def tw5885650637797418230:=0
def tw6728653820452156751:=0
def tw14952891751496528117:=0
def tw7073128618526034823:=0
def tw17041996910850391422:=0
def tw12541121206190740412:=0
def tw12228185323492517503:=0
def tw10226766953146942110:=0
def tw2698611879802782508:=0
def tw14045844148615926953:=0
def tw11750718645956469046:=0
def tw11566783827982542778:=0
def tw8870738071251165598:=0
def tw20010929298784720:=0
def tw1796592594885583283:=0
def tw744188447336808552:=0
def tw440153622496883508:=0
def tw2159025021995043545:=0
def tw11466765534796967428:=0
def tw4283465764892429853:=0
def tw656299561398070577:=0
def tw15962709132869376598:=0
def tw15170081439308355598:=0
def tw1230287101372516470:=0
def tw12033693424501859353:=0
def tw2789902888173445015:=0
def tw17093232604551019281:=0
def tw13671476276573569242:=0
def tw10327151752244426534:=0
def tw14854206020435257555:=0
def tw2510502430918889896:=0
def tw11041950354504007334:=0
def tw16193401254373668993:=0
def tw8369672805342881958:=0
def tw16986258998108955094:=0
def tw7731294771291873371:=0
def tw13193346727307074004:=0
def tw79752868256726770:=0
def tw16740644600137824952:=0
def tw5417333265877194565:=0
def tw16074340312607570883:=0
def tw12606081074200402226:=0
def tw14853120466521620168:=0
def tw9019767617645554979:=0
def tw1065474446410507785:=0
def tw5925466721411422641:=0
def tw7851900908704807976:=0
def tw5333944654563764526:=0
def tw3306657268221947153:=0
def tw279452110462568686:=0
def tw6872364006030585367:=0
def tw10417323297333594560:=0
def tw8864438635821716956:=0
def tw15028728733467498957:=0
def tw2644860470304988998:=0
def tw8016510578421814486:=0
def tw9287837446250068238:=0
def tw11703546800177527815:=0
def tw4655712527784115304:=0
def tw13305186972985332425:=0
def tw18330429954373415263:=0
def tw15070715926530732569:=0
def tw15288403533049706163:=0
def tw1528153286028373537:=0
def tw11158739168753467327:=0
def tw939867355935234690:=0
def tw12048675836557510461:=0
def tw16549321079680983555:=0
def tw15108678328345960646:=0
def tw2516940847036899494:=0
def tw11263110342136666959:=0
def tw9018941801250330078:=0
def tw17630353812855704256:=0
def tw1225706864769515773:=0
def tw5946240665240914755:=0
def tw2426335681330267197:=0
def tw5806014420509030178:=0
def tw17307085893255972305:=0
def tw10007022022541481261:=0
def tw3757962133432135462:=0
def tw13140727111166031722:=0
def tw12084115652302719528:=0
def tw9454023719997873191:=0
def tw17653119894704433394:=0
def tw1035542676248833124:=0
def tw17835090447429167491:=0
def tw16786427826836379571:=0
def tw16101655278443934862:=0
def tw2422425330054905589:=0
def tw13309463100250723065:=0
def tw5819836997028241308:=0
def tw9693114389208481321:=0
def tw8627517078001423454:=0
def tw7933271150120189471:=0
def tw1811331598533282634:=0
def tw13918388085461376039:=0
def tw10846718144022379255:=0
def tw16107086912870389667:=0
def tw1279451734006449066:=0
def tw6949862584470102319:=0
def tw17680106421370154914:=0
def tw12204069594849565626:=0
def tw11248132999590800765:=0
def tw17903844173514492028:=0
def tw15236807466052087728:=0
def tw8036717492656386521:=0
def tw5265864956874083998:=0
def tw13987476398624177197:=0
def tw9586820069343190423:=0
def tw6321900399938815803:=0
def tw18435532159190813107:=0
def tw10968660329852625670:=0
def tw7255743393786323322:=0
def tw15332905375976378781:=0
def tw1928399718690405248:=0
def tw7201084450294372810:=0
def tw14515062238699156157:=0
def tw6759708703273470948:=0
def tw2938941112767198874:=0
def tw18336995840197901635:=0
def tw15710306660644383425:=0
def tw2090439350982033849:=0
def tw15214123438666592153:=0
def tw4315144091588905315:=0
def tw6396912001627545443:=0
def tw13021636827782936279:=0
def tw6218916462401564988:=0
def tw574475244266911159:=0
def tw4217556028712909508:=0
def tw9947787572807694961:=0
def tw9108343327297827264:=0
def tw14609506956353707709:=0
def tw16617561386184674125:=0
def tw6064671934926456674:=0
def tw9790397862372529749:=0
def tw632062970514377022:=0
def tw6291146543926996427:=0
def tw14604428203770794506:=0
def tw12537510640693353781:=0
def tw11765663636340844054:=0
def tw9022463141968061583:=0
def tw3885310998955968335:=0
def tw343468436018728100:=0
def tw17499641147912986874:=0
def tw4389668112050655070:=0
def tw8038389663990432857:=0
def tw13646552096011365298:=0
def tw13381716543363704280:=0
def tw8416634153652914623:=0
def tw4048327937186543580:=0
def tw18295710755349219622:=0
def tw4802050498359159619:=0
def tw7784280439740164237:=0
def tw14218845158769320713:=0
def tw9938994693641799111:=0
def tw5477078414335717199:=0
def tw2024116835940383960:=0
def tw13819397679574275395:=0
def tw4363261989781833922:=0
def tw9607302391606850354:=0
def tw9240523243157518810:=0
def tw2613774117540539678:=0
def tw18245337416197680718:=0
def tw7030127176091354155:=0
def tw3341976189366349722:=0
def tw11365091876327796033:=0
def tw2244695597131674394:=0
def tw8891304867453943568:=0
def tw2691186051483144749:=0
def tw4253785881773557705:=0
def tw18410048487726288441:=0
def tw161959546845108853:=0
def tw11529163301486449868:=0
def tw10247715913451677489:=0
def tw16531783615703312722:=0
def tw18418566435845876395:=0
def tw9556682677726881156:=0
def tw8933447670329784172:=0
def tw594434592352144351:=0
def tw15957589021869656634:=0
def tw11887783341784184766:=0
def tw8119262890025797964:=0
def tw4740661263099686513:=0
def tw4028389168525492634:=0
def tw18429588783041470168:=0
def tw18000981743449591392:=0
def tw1354594609195464649:=0
def tw4819869905445294370:=0
def tw9660616210688899470:=0
def tw270370294768418104:=0
def tw1858108611837406740:=0
def tw17083000546875648494:=0
def tw11394213278410747443:=0
def tw10080046870902398487:=0
def tw9862007087464363594:=0
def tw9461489737731506224:=0
def tw9125812277285600260:=0
def tw9048640269535379771:=0
def tw8911994217505615271:=0
def tw8482499400161193545:=0
def tw8210567105463494614:=0
end PySem.W.Fast
open PySem PySem.W PyProof.Rows
set_option maxRecDepth 100000 in
theorem PySem.Challenge.cw_goneday_k78_whole_days_moved_holds : PySem.Challenge.rw_goneday_k78_whole_days_moved.Holds := by
 w_on;o_law;k_head;(case hw=>w_witness2)
 k_fill
 refine L2.walk_ofBK (l:=PySem.Challenge.rw_goneday_k78_whole_days_moved) (n:=63) (k:=20) (x:="_law_script") (CX:=L2.CX0) (sp:=K78.sp_law) rfl VG rfl ⟨rfl,VG,VG⟩ (λw h Y=>PySem.W.kIn_of Y) ?F ?S ?C
 case F=>
  intro w mg fa h KX G hmg;have T:∃t,K78.Txt (L2.KOf KX) mg t:=by
   dsimp only [L2.KOf];refine' K78.txt_mk KX G ?a0 ?l0 ?c0 ?k0 ?a1 ?l1 ?c1 ?k1 ?a2 ?l2 ?c2 ?k2 ?a3 ?l3 ?c3 ?k3 ?a4 ?l4 ?c4 ?k4 ?a5 ?l5 ?c5 ?k5 ?a6 ?l6 ?c6 ?k6 ?a7 ?l7 ?c7 ?k7 ?a8 ?i8 ?l8 ?c8 ?k8 ?a9 ?l9 ?c9 ?k9 ?a10 ?l10 ?c10 ?k10 ?a11 ?jM ?c11 ?k11 ?a12 ?l12 ?c12 ?k12 ?a13 ?l13 ?c13 ?k13 ?a14 ?l14 ?c14 ?k14 ?a15 ?l15 ?c15 ?k15 ?a16 ?l16 ?c16 ?k16 ?a17 ?l17 ?c17 ?k17 ?a18 ?l18 ?c18 ?k18 ?a19 ?l19 ?c19 ?k19 ?a20 ?l20 ?c20 ?k20 ?a21 ?l21 ?c21 ?k21 ?a22 ?l22 ?c22 ?k22 ?a23 ?l23 ?c23 ?k23 ?a24 ?l24 ?c24 ?k24 ?a25 ?l25 ?c25 ?k25 ?a26 ?l26 ?c26 ?k26 ?a27 ?l27 ?c27 ?k27 ?a28 ?l28 ?c28 ?k28 ?a29 ?l29 ?c29 ?k29 ?a30 ?l30 ?c30 ?k30 ?a31 ?l31 ?c31 ?k31 ?a32 ?i32 ?l32 ?c32 ?k32 ?a33 ?i33 ?l33 ?c33 ?k33 ?a34 ?i34 ?l34 ?c34 ?k34 ?a35 ?i35 ?l35 ?c35 ?k35 ?a36 ?i36 ?l36 ?c36 ?k36 ?a37 ?i37 ?l37 ?c37 ?k37 ?a38 ?i38 ?l38 ?c38 ?k38 ?a39 ?l39 ?c39 ?k39 ?a40 ?l40 ?c40 ?k40 ?a41 ?l41 ?c41 ?k41 ?a42 ?l42 ?c42 ?k42 ?a43 ?l43 ?c43 ?k43 ?a44 ?l44 ?c44 ?k44 ?a45 ?l45 ?c45 ?k45 ?a46 ?l46 ?c46 ?k46 ?a47 ?l47 ?c47 ?k47 ?a48 ?l48 ?c48 ?k48 ?a49 ?l49 ?c49 ?k49 ?a50 ?l50 ?c50 ?k50 ?a51 ?l51 ?c51 ?k51 ?a52 ?l52 ?c52 ?k52 ?a53 ?l53 ?c53 ?k53 ?a54 ?l54 ?c54 ?k54 ?a55 ?l55 ?c55 ?k55 ?a56 ?l56 ?c56 ?k56 ?a57 ?l57 ?c57 ?k57 ?x_MONTH_DAYS ?y_MONTH_DAYS ?z_MONTH_DAYS ?w_MONTH_DAYS ?x_FIRST_YEAR ?r_FIRST_YEAR ?x_ROUND_DAYS ?r_ROUND_DAYS ?x_ROUND_YEARS ?r_ROUND_YEARS ?x_NoPaper ?x_Paper ?x_Look ?x_Round ?pg_Paper ?hd_Paper ?po_Paper ?sa_Paper ?mk_Paper ?kc_Paper ?na_Paper_name ?na_Paper_coming ?na_Paper_kind ?na_Paper_makers ?na_Paper_happenings ?pg_Look ?hd_Look ?po_Look ?sa_Look ?mk_Look ?kc_Look ?na_Look_day ?na_Look_paper ?na_Look_to_stay ?na_Look_to_go ?na_Look_bars ?na_Look_leave ?pg_Round ?hd_Round ?po_Round ?sa_Round ?mk_Round ?kc_Round ?na_Round_day ?na_Round_rules ?na_Round_holds ?na_Round_leaves ?na_Round_gone ?na_Round_used ?n_abs ?n_all ?n_any ?n_enumerate ?n_int ?n_len ?n_list ?n_max ?n_min ?n_range ?n_set ?n_sorted ?n_sum ?n_tuple
   (case a0=>k_is)
   (case l0=>k_is)
   (case c0=>k_is)
   (case k0=>k_is)
   (case a1=>k_is)
   (case l1=>k_is)
   (case c1=>k_is)
   (case k1=>k_is)
   (case a2=>k_is)
   (case l2=>k_is)
   (case c2=>k_is)
   (case k2=>k_is)
   (case a3=>k_is)
   (case l3=>k_is)
   (case c3=>k_is)
   (case k3=>k_is)
   (case a4=>k_is)
   (case l4=>k_is)
   (case c4=>k_is)
   (case k4=>k_is)
   (case a5=>k_is)
   (case l5=>k_is)
   (case c5=>k_is)
   (case k5=>k_is)
   (case a6=>k_is)
   (case l6=>k_is)
   (case c6=>k_is)
   (case k6=>k_is)
   (case a7=>k_is)
   (case l7=>k_is)
   (case c7=>k_is)
   (case k7=>k_is)
   (case a9=>k_is)
   (case l9=>k_is)
   (case c9=>k_is)
   (case k9=>k_is)
   (case a10=>k_is)
   (case l10=>k_is)
   (case c10=>k_is)
   (case k10=>k_is)
   (case a11=>k_is)
   (case jM=>k_is)
   (case c11=>k_is)
   (case k11=>k_is)
   (case a12=>k_is)
   (case l12=>k_is)
   (case c12=>k_is)
   (case k12=>k_is)
   (case a13=>k_is)
   (case l13=>k_is)
   (case c13=>k_is)
   (case k13=>k_is)
   (case a14=>k_is)
   (case l14=>k_is)
   (case c14=>k_is)
   (case k14=>k_is)
   (case a15=>k_is)
   (case l15=>k_is)
   (case c15=>k_is)
   (case k15=>k_is)
   (case a16=>k_is)
   (case l16=>k_is)
   (case c16=>k_is)
   (case k16=>k_is)
   (case a17=>k_is)
   (case l17=>k_is)
   (case c17=>k_is)
   (case k17=>k_is)
   (case a18=>k_is)
   (case l18=>k_is)
   (case c18=>k_is)
   (case k18=>k_is)
   (case a19=>k_is)
   (case l19=>k_is)
   (case c19=>k_is)
   (case k19=>k_is)
   (case a20=>k_is)
   (case l20=>k_is)
   (case c20=>k_is)
   (case k20=>k_is)
   (case a21=>k_is)
   (case l21=>k_is)
   (case c21=>k_is)
   (case k21=>k_is)
   (case a22=>k_is)
   (case l22=>k_is)
   (case c22=>k_is)
   (case k22=>k_is)
   (case a23=>k_is)
   (case l23=>k_is)
   (case c23=>k_is)
   (case k23=>k_is)
   (case a24=>k_is)
   (case l24=>k_is)
   (case c24=>k_is)
   (case k24=>k_is)
   (case a25=>k_is)
   (case l25=>k_is)
   (case c25=>k_is)
   (case k25=>k_is)
   (case a26=>k_is)
   (case l26=>k_is)
   (case c26=>k_is)
   (case k26=>k_is)
   (case a27=>k_is)
   (case l27=>k_is)
   (case c27=>k_is)
   (case k27=>k_is)
   (case a28=>k_is)
   (case l28=>k_is)
   (case c28=>k_is)
   (case k28=>k_is)
   (case a29=>k_is)
   (case l29=>k_is)
   (case c29=>k_is)
   (case k29=>k_is)
   (case a30=>k_is)
   (case l30=>k_is)
   (case c30=>k_is)
   (case k30=>k_is)
   (case a31=>k_is)
   (case l31=>k_is)
   (case c31=>k_is)
   (case k31=>k_is)
   (case a39=>k_is)
   (case l39=>k_is)
   (case c39=>k_is)
   (case k39=>k_is)
   (case a40=>k_is)
   (case l40=>k_is)
   (case c40=>k_is)
   (case k40=>k_is)
   (case a41=>k_is)
   (case l41=>k_is)
   (case c41=>k_is)
   (case k41=>k_is)
   (case a42=>k_is)
   (case l42=>k_is)
   (case c42=>k_is)
   (case k42=>k_is)
   (case a43=>k_is)
   (case l43=>k_is)
   (case c43=>k_is)
   (case k43=>k_is)
   (case a44=>k_is)
   (case l44=>k_is)
   (case c44=>k_is)
   (case k44=>k_is)
   (case a45=>k_is)
   (case l45=>k_is)
   (case c45=>k_is)
   (case k45=>k_is)
   (case a46=>k_is)
   (case l46=>k_is)
   (case c46=>k_is)
   (case k46=>k_is)
   (case a47=>k_is)
   (case l47=>k_is)
   (case c47=>k_is)
   (case k47=>k_is)
   (case a48=>k_is)
   (case l48=>k_is)
   (case c48=>k_is)
   (case k48=>k_is)
   (case a49=>k_is)
   (case l49=>k_is)
   (case c49=>k_is)
   (case k49=>k_is)
   (case a50=>k_is)
   (case l50=>k_is)
   (case c50=>k_is)
   (case k50=>k_is)
   (case a51=>k_is)
   (case l51=>k_is)
   (case c51=>k_is)
   (case k51=>k_is)
   (case a52=>k_is)
   (case l52=>k_is)
   (case c52=>k_is)
   (case k52=>k_is)
   (case a53=>k_is)
   (case l53=>k_is)
   (case c53=>k_is)
   (case k53=>k_is)
   (case a54=>k_is)
   (case l54=>k_is)
   (case c54=>k_is)
   (case k54=>k_is)
   (case a55=>k_is)
   (case l55=>k_is)
   (case c55=>k_is)
   (case k55=>k_is)
   (case a56=>k_is)
   (case l56=>k_is)
   (case c56=>k_is)
   (case k56=>k_is)
   (case a57=>k_is)
   (case l57=>k_is)
   (case c57=>k_is)
   (case k57=>k_is)
   (case x_MONTH_DAYS=>k_is)
   (case y_MONTH_DAYS=>k_is)
   (case z_MONTH_DAYS=>first | (repeat (first | exact .nil | refine .cons ⟨_,rfl⟩ ?_)))
   (case w_MONTH_DAYS=>decide)
   (case x_FIRST_YEAR=>k_is)
   (case r_FIRST_YEAR=>exact⟨_,rfl⟩)
   (case x_ROUND_DAYS=>k_is)
   (case r_ROUND_DAYS=>exact⟨_,rfl⟩)
   (case x_ROUND_YEARS=>k_is)
   (case r_ROUND_YEARS=>exact⟨_,rfl⟩)
   (case x_NoPaper=>k_is)
   (case x_Paper=>k_is)
   (case x_Look=>k_is)
   (case x_Round=>k_is)
   (case pg_Paper=>k_is)
   (case hd_Paper=>k_is)
   (case po_Paper=>k_is)
   (case sa_Paper=>k_is)
   (case mk_Paper=>k_is)
   (case kc_Paper=>k_is)
   (case na_Paper_name=>k_is)
   (case na_Paper_coming=>k_is)
   (case na_Paper_kind=>k_is)
   (case na_Paper_makers=>k_is)
   (case na_Paper_happenings=>k_is)
   (case pg_Look=>k_is)
   (case hd_Look=>k_is)
   (case po_Look=>k_is)
   (case sa_Look=>k_is)
   (case mk_Look=>k_is)
   (case kc_Look=>k_is)
   (case na_Look_day=>k_is)
   (case na_Look_paper=>k_is)
   (case na_Look_to_stay=>k_is)
   (case na_Look_to_go=>k_is)
   (case na_Look_bars=>k_is)
   (case na_Look_leave=>k_is)
   (case pg_Round=>k_is)
   (case hd_Round=>k_is)
   (case po_Round=>k_is)
   (case sa_Round=>k_is)
   (case mk_Round=>k_is)
   (case kc_Round=>k_is)
   (case na_Round_day=>k_is)
   (case na_Round_rules=>k_is)
   (case na_Round_holds=>k_is)
   (case na_Round_leaves=>k_is)
   (case na_Round_gone=>k_is)
   (case na_Round_used=>k_is)
   (case n_abs=>k_is)
   (case n_all=>k_is)
   (case n_any=>k_is)
   (case n_enumerate=>k_is)
   (case n_int=>k_is)
   (case n_len=>k_is)
   (case n_list=>k_is)
   (case n_max=>k_is)
   (case n_min=>k_is)
   (case n_range=>k_is)
   (case n_set=>k_is)
   (case n_sorted=>k_is)
   (case n_sum=>k_is)
   (case n_tuple=>k_is)
   (case a8=>k_is)
   (case i8=>k_is)
   (case l8=>k_is)
   (case c8=>k_is)
   (case k8=>k_is)
   (case a32=>k_is)
   (case i32=>k_is)
   (case l32=>k_is)
   (case c32=>k_is)
   (case k32=>k_is)
   (case a33=>k_is)
   (case i33=>k_is)
   (case l33=>k_is)
   (case c33=>k_is)
   (case k33=>k_is)
   (case a34=>k_is)
   (case i34=>k_is)
   (case l34=>k_is)
   (case c34=>k_is)
   (case k34=>k_is)
   (case a35=>k_is)
   (case i35=>k_is)
   (case l35=>k_is)
   (case c35=>k_is)
   (case k35=>k_is)
   (case a36=>k_is)
   (case i36=>k_is)
   (case l36=>k_is)
   (case c36=>k_is)
   (case k36=>k_is)
   (case a37=>k_is)
   (case i37=>k_is)
   (case l37=>k_is)
   (case c37=>k_is)
   (case k37=>k_is)
   (case a38=>k_is)
   (case i38=>k_is)
   (case l38=>k_is)
   (case c38=>k_is)
   (case k38=>k_is)
  obtain⟨t,T⟩:=T;have e0:=hmg.symm.trans T.m_x57;cases e0;exact⟨t.d_x57,T.bt_x57,λbase kb nb=>K78.ok_law T⟩
 case S=>exact λK H a ns hl hb hO hS=>K78.start_law hl hb hS
 case C=>exact λ_ _ _ _ z=>z
