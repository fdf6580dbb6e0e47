import PyProof.Rows.All
import Wide.All
import OpenK.AllK
import PySem.Challenge.RW_goneday_k23_there_on_days
open PySem.Str renaming ofString->Od,ofString->Of,empty->Ut
open List renaming length_map->Oe,map_cons->Ol,mem_cons->Ox,getElem?_eq_some_iff->OB,length_cons->OC,getElem?_map->OD,mem_map->OE,getElem?_set_ne->OF,length_append->OG,size_toArray->OH,map_map->OI,replicate->OL,mem_append->ON,map_append->OO,mem_singleton->OS,mem_cons_of_mem->OT,getElem?_set_self->OU,getElem?_eq_getElem->OW,not_mem_nil->OY,take_of_length_le->OZ,mem_of_getElem?->O4,length_filter_le->O8,mem_cons_self->Pa,filter_cons->Pb,take_succ->Pd,length_take->Pf,lookup_cons->Pg,append_nil->Pj,map->Pn,mem_filter->Po,mem_append_right->Pq,map_nil->Pw,length_nil->Px,getElem?_cons_succ->Py,foldl_cons->PF,getElem?_append_left->PH,find?_cons->PJ,pairwise_map->PK,nil_append->PL,cons_append->PN,any_cons->PQ,pairwise_cons->P5,nodup_cons->P6,range->P7,filterMap_cons->P8,getElem?_cons_zero->Qe,getElem?_append_right->Qf,replicate_succ->Qk,getElem?_eq_none->Qo,getElem_mem->Qr,set_cons_zero->Qy,set_cons_succ->Qz,getElem?_nil->QE,getD_eq_getElem?_getD->QL,length_singleton->QQ,filter->QV,foldl_append->Q2,getElem?_replicate->Q4,map_congr_left->Q6,length_drop->Q8,all_eq_true->Q9,any_eq_true->Ra,sum_cons->Ru,all_cons->Ry,flatten_cons->RA,mem_of_mem_take->RF,ext_getElem->RK,flatMap_append->RP,mem_filterMap->RT,append_assoc->RY,length_range->RZ,take_append_drop->R6,all_nil->R7,any_nil->R8,filterMap_append->R9,mem_append_left->Sb,perm_ext_iff_of_nodup->Sd,map_take->Se,lookup->Sg,getElem_of_mem->Si,filter_sublist->Sj,drop_eq_getElem_cons->So,pairwise_iff_getElem->Sv,find?_eq_none->Sz,mem_range->SG,getElem_inj->SM,length_replicate->SO,any_map->SV,pairwise_append->SW,Nodup->SX,eq_nil_of_length_eq_zero->S0,tail_cons->S8,length->S9,contains_cons->Tc,length_eraseIdx_of_lt->Ti,nodup_append->Tr,flatMap_cons->Tt,length_filterMap_le->TL,getElem?_set_self'->TR,length_eq_zero_iff->TX,pairwise_singleton->TY,of_mem_zip->T1,range_succ->T2,drop_of_length_le->T4,pairwise_lt_range->T5,mem_of_mem_drop->Uh,getElem?_of_mem->Ui,map_drop->Uj,filterMap_map->Ux,toArray->UA,filter_filter->UD,append_of_mem->UE,any_eq_false->UI,find?_append->UP,not_lt->US,le_antisymm->UW,map_snd_zip->U0,take_length->U1,mem_flatMap->U2,foldl->U3,forIn_cons->U4,lt_trans->Vh,all_map->Vo
open PySem.W renaming Frag->Og,fnOf->Oh,keepIn->Oo,nsIn->Ov,codeIn->Ow,mg_of->Oz,findIn->OR,mg_none_of->Pm,emptyDict->Qt,isFn->QG,instObj->QW,plainGet->Q7,hasDictIn->Rz,plainOver->RX,methodCall_KW->R4,makesIn->Sk,callWith_K->Sx,plainGet_of->S4,lookIn->S6,methodObj->Tp,takerIn->TZ,cellsFrom_some->T3,callWith_K0->Uk,handedIn->UT,OpenLaw->U6,WalkO->Ve
open Nat renaming le_refl->Oi,ne_of_lt->O6,le_trans->O7,zero_le->Pc,lt_of_lt_of_le->PB,le_succ->Qj,reduceAdd->Qm,reduceSub->Qn,lt_succ_of_lt->Qu,lt_or_ge->QH,lt_irrefl->QJ,lt_succ_self->QM,le_of_not_lt->QN,reduceLeDiff->Rc,le_of_lt->Rj,sub_self->Rm,zero_add->Rq,add_zero->RL,reduceLT->RM,ne_of_gt->R1,lt_of_le_of_lt->SF,min_le_right->TC,mul_le_mul_left->Um,add_le_add_left->Uo,le_of_eq->Uu,eq_zero_or_pos->UC,lt_trans->Vm,mul_succ->Vn
open PySem.PyData renaming str->Oj,strOk->Om,int->OJ,eqv->OP,tuple->O5,canLay0->Pr,list->PX,canLayAll0->Qb,eqvAll->Qs,bool->Rh,none->RH,depthAll->Sq,depth->SU
open PySem.ScopeKind renaming function->Oq
open Bool renaming false_ne_true->Ot,and_eq_true->Pz,false_eq_true->PY,not_eq_true'->Qc,true_and->Qg,not_eq_true->QA,false_or->QB,or_false->QK,true_eq_false->QS,eq_iff_iff->Rr,not_false->RI,not_true->RQ,and_true->RR,false_and->R3,or_eq_true->Su,not_eq_false->Tu,and_false->Vb,and_comm->Vj
open PySem.Heap renaming get?_push_of_some->Ou,lt_size->OM,get?_push_size->OX,get?_update_self->Qw,SameBut->QX,get?_update_other->Rg,size_push->S7,get?_update_ne->Ul,get?_push_ne->UJ,ExtBut->Vx
open PySem renaming Spec->Oy,Scope->OV,boot_len->Pu,mem_of_lookup->Q5,Within->Us,Fin->UB,call->U5
open PySem.NameKind renaming free->OA,globalImplicit->OQ,free->P0,cell->Th
open Array renaming length_toList->O3,getD_eq_getD_getElem?->Qa,getD->RD,getElem?_eq_getElem->RE,getElem?_toList->SQ,perm_iff_toList_perm->Tj,getElem?_eq_none->T6,mem_toList_iff->Ud,toList_push->UL,toList_inj->UX,toList_map->UY,toList_zip->UZ,toList->Vk
open PySem.Value renaming ref->O9,int->QF,none->QI,bool->Rf,str->RG,type->RS,isInt_shape->UH,isInt->UR,isStrOf->Vc,bytes->Vq,float->Vr
open List.cons renaming injEq->Pe,inj->Tn
open Option.some renaming inj->Ph,injEq->P2
open PySem.PassesOwn renaming never->Pk
open PySem.Heap.SameBut renaming update->PD
open PySem.PyData.int renaming injEq->PM
open PySem.Obj renaming mapSeq->PR,data_mapFields->Qx,isFreed_of_fields->R5,cls_mapFields->Ts,putSet->Tw,mapFields->Vg
open PySem.SeqAt renaming canLay_of_shaped->PV,shaped->QZ
open PySem.PyData.tuple renaming injEq->PZ
open PySem.PyData.str renaming injEq->P1
open Sum renaming inr->P4,inl->Tz
open PySem.Builtin.Int renaming intBits->P9
open PySem.SetTable renaming below->Qh,grown->Rb,orStandIn->Uy,sizeAbove->Uz,layClean->UK,relaid->U8,laid->Vf,slot->Vi
open True renaming intro->Qi
open Int renaming toNat_natCast->Ql,eq_ofNat_of_zero_le->QD,emod_lt_of_pos->QT,emod_nonneg->Rt,reduceNeg->Rv,reducePow->Rx,reduceLT->RN,reduceLE->RO,lt_trichotomy->UO,le_antisymm->U9,le_refl->Vv
open PyProof.Rows renaming boot_sorted->Qp,slot_tuple_getitem->QU,callWith_type1->Rk,bubble->S5,boot_sum->Ub,boot_max->Uc,boot_min->Vy
open False renaming elim->Qq
open PySem.PyData.list renaming injEq->Qv
open Function renaming comp->QC
open Option renaming join_some->QO,join_none->QP,map_some->Q0,map_none->Q1,map_eq_some_iff->Ri,isSome_iff_exists->Sy,isSome_map->SI,getD_none->TH,mem_toList->UQ,bind->Vw
open PySem.F renaming slot_dict_get->QR,entry_dict_get->RW,slot_list_extend->SA,plainAttrs_list->SH,plain_extend_loop->Tx,type_list_extend->TJ,args_dict_get_2->TM,args_dict_get_3->TN,plainAttrs_dict->TQ,plain_list_iadd->TV,type_dict_get->T8,plain_set_new->T9,slot_set_iter->Ua
open PySem.Builtin.List renaming listTooLong->QY,listLengthHint->Ta,listExtendWith->Tb,listSameRef->TK,listUpdate->TU,listFitsIndex->Vd
open PySem.PyData.bool renaming injEq->Q3
open PyProof.Rows.F renaming plain_set_update_loop->Rl,entry_set_update_loop->SD
open PySem.Builtin.Slice renaming slicePlaces->RB,sliceAdjust->Sm,sliceApplied->Tf
open PySem.Around renaming under_plainId->RC,under->Uv
open PySem.Builtin.Tuple renaming tupleExact->RJ,tupleItemsOf->Tg
open PySem.W.WData renaming int->RU,weightAll->Sn,list->Tv,layableAll->UU,weight->Vl
open ForInStep renaming yield->RV
open PySem.SetTable.below renaming go->R0
open PySem.Expr renaming Subscript->Sa,BinOp->SY,List->UG,Tuple->Va,Call->VA
open PySem.Calls renaming call_function_entry->Sr,spliced_cons->Sw,callWith_builtin->SJ,evalArgs_plain->SR,Name_function_global->Te,spliced_nil->Tq
open PySem.W.KasT renaming kasWp_bind->Ss
open Nat.succ renaming inj->SE
open Prod.mk renaming injEq->SK
open PySem.AutoSeq1 renaming list_extend_list_list_0->SN
open Or renaming inr->SS,inl->T7
open PySem.Paired renaming length->Td,snoc->Vu
open PySem.Txt renaming mul->To
open PySem.SeqAt.RcAt renaming tuple_str->Ue
open PySem.SeqAt.EqAt renaming str_tuple->Ug,str_int->Ur
open PySem.Code renaming isFrame->Uw,frames->Vt
open PySem.PyData.dict renaming injEq->UM
open PySem.SetTable.probe renaming go->UN
open PySem.Walks renaming list->U7
open PySem.Builtin.Range renaming rangeSize->Vp
open PySem.CmpOp renaming NotIn->Vs
open PyProof.Rows.IsTup renaming new->Vz
open PySem renaming PyData->VI,Value->VJ,wpAny_bind->VL,Addr->VM,Shared->VN,wpAny_pure->VO,mainGlobals->VP,starEach->VQ,wpAny->VR,model->VS,Expr->VT,FuncData->VU,sizeLine->VV,Program->VW,World->VX,Heap->VY,Stmt->VZ,Around->V0,bootBuiltins->V1,foldedSetIterable->V2,backTo->V4,swapsWith->V5,compareOp->V6,wpAny_newObj_type->V7,wpAny_mono->V8,cLine->Wa,wpAny_call_entry->Wb,wpAny_truthy_bool->Wc,wpAny_holding->We,behindInMarks->Wf,sizeLine_eq->Wg,attributeBase->Wh,wpAny_callSpecial?_slot->Wi,keywordEach->Wj,wpAny_loadPart'->Wk,SetTable->Wl,Scope->Wm,binaryOp->Wn,sysModules->Wo,wpAny_Call_Name_kw->Wq,tupleKind_room_in1->Wr,wpAny_passesOwn->Ws,wpAny_setState_of->Wt,backToKw->Wu,codeAny_mono->Wv,NameKind->Ww,wpAny_askSetting->Wx,wpAny_setEntries_of->Wy,codeAny->Wz,Keyword->WA,call_meets->WB,codeAny_builtin->WC,scanBound->WD,rawInt->WE,wpAny_setField->WG,pyNext->WH,wpAny_newList->WJ,getItem->WL,sliceBounds->WM,PassesOwn->WO,intKind->WQ,holding->WR,assignEach->WS,setNext->WT,plainId_quiet->WU,wpAny_attempt->WV,relayAll->WW,tupleKind->WX,standAt->WZ,getMethod->W0,wpAny_execs_nil->W3,letOwnedTupleGo->W4,wpAny_typeOf->W5,typeIs_str->W6,wpAny_ite_split->W7,wpAny_fieldsOf->Xa,firstArgMember->Xb,subscripted->Xc,wpAny_of_eq->Xd,DictEntry->Xe,pickOrder->Xf,wpAny_pyIter_list->Xg,wpAny_comprehension_free->Xh,wpAny_isInstance->Xi,GenState->Xj
open PyProof.Rows renaming seqObj->V3,IntsAre->V9,envOfC->WI,listUpdate_at->WK,get?_update_seq->WN,AllBare->WY,entry_list_sort->W8,slot_list_sort->W9
open PySem.W renaming kia_one->W2
theorem VB{p:Prop}[Decidable p](h:decide p=true:=by decide+kernel):p:=of_decide_eq_true h
theorem VC{p:Prop}(h:p:=by decide):p:=h
theorem VD{p:Prop}(h:p:=by omega):p:=h
theorem VH{p:Prop}(h:p:=by simp):p:=h
theorem VE{c:Prop}{h:Decidable c}(k:¬c){α:Sort u}{t e:α}:ite c t e=e:=if_neg k
theorem VF{c:Prop}{h:Decidable c}(k:c){α:Sort u}{t e:α}:ite c t e=t:=if_pos k
abbrev Xk:=PySem.NameKind.local
def rzS:="↓pW ↓pY ↓pZ ↓p5 ↓p6 ↓pX ↓mZ ↓px ↓qa ↓qc ↓qg ↓qh ↓qi ↓qj ↓pz ↓pA ↓pB ↓pC ↓pE ↓pF ↓pG ↓pH ↓pI ↓pJ ↓pK ↓pL ↓pM ↓pN ↓pO ↓pP ↓pQ ↓pR ↓pT ↓pU ↓pV fP j2 gQ lX iX iW iY lY mh j4 lN dC cV dI mx my mz mB gU mN mM mC dL j3 lO gO ik dR lP jZ lQ lR lT lU lW gP pj pk pq mG kc mE mF mH mI mJ mK mL j8 mO mP gT mi mj mq mU mX mT gY mW mV mY ni nc nk nq nt nv ki ny nF nB nE nA nG nM jd nJ nK nL nN nP nQ nS nT nU nV nR nW nZ n8 nY iA pe pf ne_eq oX oY oZ pb pd oW i4 i5 j6 i3 mf me md gS fh dS jU jV ib Ol Pw OC Px OL PN PL Pj Qm Qn RL Rq Rm Qe Py QE Qy Qz P2 exists_eq_left' exists_eq_left exists_and_left exists_and_right QO QP Sl.v.injEq Sl.o.injEq Sl.k.injEq PM Q3 P1 PZ Qv Pe and_true true_and RM Rc exists_const decide_eq_true_eq RN RO Rv Rx Qc decide_eq_false_iff_not and_assoc or_true true_or ↓reduceIte if_true if_false PY QS not_true_eq_false not_false_eq_true RQ RI ite_true ite_false eq_self exists_eq reduceCtorEq false_and and_false or_false false_or exists_false Q0 Q1 Ry R7 PQ R8 RR QK Qg QB d7 eQ ix fQ mQ d8 oQ beq_self_eq_true oN oO oP cM sizeLine_eq"
def rzT (n : String) : Lean.MacroM (Lean.TSyntax `tactic) := do
 let ts : Array (Lean.TSyntax `Lean.Parser.Tactic.simpLemma) <- ((n.splitOn " ").toArray).mapM λs =>do
  if s.startsWith "↓" then
   let i := Lean.mkIdent (s.drop 1).toString.toName
   `(Lean.Parser.Tactic.simpLemma| ↓ $i:ident)
  else
   let i := Lean.mkIdent s.toName
   `(Lean.Parser.Tactic.simpLemma| $i:ident)
 `(tactic| simp only [$ts,*])
local macro_rules|`(command|def $i:declId $s:optDeclSig $v:declVal)=>`(command|noncomputable def $i:declId $s:optDeclSig $v:declVal)|`(command|abbrev $i:declId $s:optDeclSig $v:declVal)=>`(command|noncomputable abbrev $i:declId $s:optDeclSig $v:declVal)
noncomputable section
set_option Elab.async false
set_option linter.all false
set_option maxRecDepth 100000
set_option maxHeartbeats 0
set_option genSizeOf false
namespace L2
open PySem PySem.Spec PyProof.Rows
abbrev au:=Sum Int Str
def qF:au->VJ->Bool
 | .inl k,v=>UR k v
 | .inr x,v=>Vc x v
def EV(w:VX):au->Int
 | .inl k=>hashInt k
 | .inr x=>hashStr w x
theorem iO:∀{k:au}{v:VJ},qF k v=true->(∃i t,k=Tz i/\v=QF i t)\/(∃x t,k=P4 x/\v=RG x t)
 | .inl i,v,h=>by
  obtain⟨t,e⟩:=UH (k:=i) (v:=v) h;exact .inl ⟨i,t,rfl,e⟩
 | .inr x,v,h=>by
  obtain⟨t,e⟩:=Value.isStrOf_shape (x:=x) (v:=v) h;exact .inr ⟨x,t,rfl,e⟩
theorem EW(i:Int)(t:Tok):qF (.inl i) (.int i t)=true:=by simp [qF,UR]
theorem EX(x:Str)(t:Tok):qF (.inr x) (.str x t)=true:=by simp [qF,Vc]
theorem EY(a b:Int):decide ((Tz a:au)=Tz b)=(a==b):=by
 by_cases e:a=b
 ·subst e;simp
 ·have h:¬(Tz a:au)=Tz b:=λq=>e (Tz.inj q);rw [decide_eq_false h];exact(beq_eq_false_iff_ne.mpr e).symm
theorem EZ(a b:Str):decide ((P4 a:au)=P4 b)=decide (a=b):=by
 by_cases e:a=b
 ·subst e;simp
 ·have h:¬(P4 a:au)=P4 b:=λq=>e (P4.inj q);rw [decide_eq_false h,decide_eq_false e]
theorem E1(a:Int)(b:Str):decide ((Tz a:au)=P4 b)=false:=decide_eq_false (λq=>nomatch q)
theorem E2(a:Str)(b:Int):decide ((P4 a:au)=Tz b)=false:=decide_eq_false (λq=>nomatch q)
def dQ(prog:VW)(w:VX):PySem.KeyKind prog w au where
 is:=qF
 hash:=EV w
 inj:=λv a b ha hb=>by
  rcases iO ha with⟨i,t,rfl,rfl⟩ | ⟨x,t,rfl,rfl⟩
  ·rcases iO hb with⟨j,u,rfl,e⟩ | ⟨y,u,rfl,e⟩
   ·injection e with e1 _;rw [e1]
   ·exact nomatch e
  ·rcases iO hb with⟨j,u,rfl,e⟩ | ⟨y,u,rfl,e⟩
   ·exact nomatch e
   ·injection e with e1 _;rw [e1]
 byValue:=λk v h=>by
  rcases iO h with⟨i,t,rfl,rfl⟩ | ⟨x,t,rfl,rfl⟩ <;> rfl
 pyHash:=λhv h=>by
  rcases iO hv with⟨i,t,rfl,rfl⟩ | ⟨x,t,rfl,rfl⟩
  ·exact wpAny_pyHash_int h
  ·exact wpAny_pyHash_str h
 eqBool:=λhu hv h=>by
  rcases iO hu with⟨i,t,rfl,rfl⟩ | ⟨x,t,rfl,rfl⟩
  ·rcases iO hv with⟨j,u,rfl,rfl⟩ | ⟨y,u,rfl,rfl⟩
   ·rw [EY] at h;exact wpAny_eqBool_int h
   ·rw [E1] at h;exact SeqAt.EqAt.int_str i t y u _ _ _ _ h
  ·rcases iO hv with⟨j,u,rfl,rfl⟩ | ⟨y,u,rfl,rfl⟩
   ·rw [E2] at h;exact Ur x t j u _ _ _ _ h
   ·rw [EZ] at h;exact wpAny_eqBool_str h
 «strs»:=λk x t v h=>by
  rcases iO h with⟨i,u,rfl,e⟩ | ⟨y,u,rfl,e⟩
  ·exact nomatch e
  ·injection e with e1 _
   subst e1;cases v <;> rfl
theorem E3(prog:VW)(w:VX)(i:Int)(t:Tok):(dQ prog w).is (.inl i) (.int i t)=true:=EW i t
theorem E4(prog:VW)(w:VX)(x:Str)(t:Tok):(dQ prog w).is (.inr x) (.str x t)=true:=EX x t
inductive V where
 | non | bl (b:Bool) | int (i:Int) | str (x:Str) | byt (b:Array UInt8) | flt (b:UInt64) | ref (a:VM) | ty (n:String)
 deriving DecidableEq
def aO:V->VJ->Prop
 | .non,u=>u=QI
 | .bl b,u=>u=Rf b
 | .int i,u=>∃t,u=QF i t
 | .str x,u=>∃t,u=RG x t
 | .byt b,u=>∃t,u=Vq b t
 | .flt b,u=>∃t,u=Vr b t
 | .ref a,u=>u=O9 a
 | .ty n,u=>u=RS n
abbrev aP:List V->List VJ->Prop:=Paired aO
theorem aP.length{xs:List V}{us:List VJ}(r:aP xs us):xs.length=us.length:=Td r
theorem aP.get:∀{xs:List V}{us:List VJ}{i:Nat}{x:V},aP xs us->xs[i]?=some x->∃u,us[i]?=some u/\aO x u
 | _,_,_,_,.nil,e=>by simp at e
 | _,_,0,_,.cons r _,e=>by simp at e;subst e;exact⟨_,rfl,r⟩
 | _,_,i+1,x,.cons _ t,e=>by
  obtain⟨u,h1,h2⟩:=aP.get (i:=i) (x:=x) t (by simpa using e);exact⟨u,by simpa using h1,h2⟩
theorem aP.append:∀{xs ys:List V}{us ws:List VJ},aP xs us->aP ys ws->aP (xs++ys) (us++ws)
 | _,_,_,_,.nil,s=>s
 | _,_,_,_,.cons r t,s=>.cons r (aP.append t s)
theorem aP.take:∀{xs:List V}{us:List VJ}(n:Nat),aP xs us->aP (xs.take n) (us.take n)
 | _,_,0,_=>.nil
 | _,_,_+1,.nil=>.nil
 | _,_,n+1,.cons r t=>.cons r (aP.take n t)
theorem aP.drop:∀{xs:List V}{us:List VJ}(n:Nat),aP xs us->aP (xs.drop n) (us.drop n)
 | _,_,0,r=>r
 | _,_,_+1,.nil=>.nil
 | _,_,n+1,.cons _ t=>aP.drop n t
def dY:Option V->Option VJ->Prop
 | some v,some u=>aO v u
 | none,none=>True
 | _,_=>False
def KV{κ:Type}:List (κ×V)->List (κ×VJ)->Prop:=Paired λ(p:κ×V) (q:κ×VJ)=>p.1=q.1/\aO p.2 q.2
def kV:au->V
 | .inl i=>.int i
 | .inr x=>.str x
inductive HO where
 | lst (xs:List V)
 | tup (xs:List V)
 | dK (kvs:List (au×V)) | dT (kvs:List (List au×V))
 | set (S:Int->Bool) (n:Nat)
 | ins (C dx:VM) (fs:List (Str×V))
 | own (x:VM)
 | xd (fs:List (Str×V))
 | met (f x:VM)
 | rng (lo hi:Int)
 | frz (o:Obj) (u:HO)
 | tbl (ps:Array VJ)
 | ext (φ:VY->Prop)
abbrev Hp:=VM->Option HO
def ai(H:Hp)(a:VM)(o:HO):Hp:=λb=>if b=a then some o else H b
theorem bA{H:Hp}{a:VM}{o:HO}:ai H a o a=some o:=by unfold ai;rw [VF rfl]
theorem aC{H:Hp}{a b:VM}{o:HO}(h:b≠a):ai H a o b=H b:=by unfold ai;rw [VE h]
theorem E5{H:Hp}{a:VM}{o u:HO}:ai (ai H a o) a u=ai H a u:=by
 funext b;unfold ai;split <;> rfl
theorem E6{H:Hp}{a b:VM}{o u:HO}(h:H a=some o)(h':H b=some u)(d:o≠u):a≠b:=by
 intro e;subst e;rw [h] at h';exact d (Ph h')
theorem eG{H:Hp}{a b:VM}{o:HO}(h:H a=some o)(h':H b=none):a≠b:=by
 intro e;subst e;rw [h] at h';cases h'
section
variable (P:VW) (w:VX)
def cg(H:Hp)(h:VY)(a:VM):HO->Prop
 | .lst xs=>xs.length<=VV/\∃(its:List VJ)(n:Nat),aP xs its/\h.get? a=some {cls:= .type "list",data:= .seq its.toArray n}
 | .tup xs=>xs.length<=VV/\∃its:List VJ,aP xs its/\IsTup h a its.toArray
 | .dK kvs=>kvs.length<=VV/\(a==Wo)=false/\∃vs,KV kvs vs/\h.DictOf (dQ P w) a vs
 | .dT kvs=>kvs.length<=VV/\(a==Wo)=false/\∃xs:List (List au×VM×VJ),
  Paired (λ(p:List au×V) (q:List au×VM×VJ)=>p.1=q.1/\H q.2.1=some (.tup (p.1.map kV))/\aO p.2 q.2.2) kvs xs/\
  ∃o es ep,h.get? a=some o/\o.ExactDict/\o.data= .dict es ep/\es.toList=xs.map (entryOfKey (WX (dQ P w)))/\(xs.map (·.1)).Nodup
 | .set S n=>h.SetOf (WQ P w) a S n
 | .ins C dx fs=>H dx=some (.own a)/\fs.length<=1000/\dx≠a/\h.get? a=some (QW C dx)/\
  ∃mA,h.Ns1 dx mA/\(∀f,dY (fs.lookup f) (mA f))/\Us mA (fs.map (·.1))
 | .own _=>∃o,h.get? a=some o
 | .xd fs=>∃mA,h.Ns1 a mA/\∀f,dY (fs.lookup f) (mA f)
 | .rng lo hi=>∃t u v,h.get? a=some {cls:= .type "range",data:= .fields #[.int lo t,.int hi u,.int 1 v]}
 | .frz o u=>h.get? a=some o/\cg H h a u
 | .tbl ps=>h.get? a=some {cls:= .none,data:= .fields ps}
 | .met f x=>h.get? a=some (Tp (.ref f) (.ref x))
 | .ext φ=>φ h/\(∃o,h.get? a=some o)/\∀h1 h2:VY,φ h1->(∀o,h1.get? a=some o->h2.get? a=some o)->φ h2
def bQ(H:Hp)(h:VY):Prop:=∀a o,H a=some o->cg P w H h a o
end
section
variable {P:VW} {w:VX} {H H':Hp} {h h':VY} {a:VM} {o:HO}
theorem cg.lt(x:cg P w H h a o):a < h.objs.size:=by
 cases o with
 | lst xs=>obtain⟨_,_,_,_,e⟩:=x;exact OM e
 | tup xs=>obtain⟨_,_,_,p⟩:=x;exact p.lt
 | dK kvs=>obtain⟨_,_,_,_,o,_,_,e,_⟩:=x;exact OM e
 | dT kvs=>obtain⟨_,_,_,_,o,_,_,e,_⟩:=x;exact OM e
 | set S n=>obtain⟨o,_,_,_,e,_⟩:=x;exact OM e
 | ins C dx fs=>obtain⟨_,_,_,e,_⟩:=x;exact OM e
 | own y=>obtain⟨_,e⟩:=x;exact OM e
 | xd fs=>obtain⟨_,⟨_,_,_,e,_⟩,_⟩:=x;exact OM e
 | rng lo hi=>obtain⟨_,_,_,e⟩:=x;exact OM e
 | frz ob u=>obtain⟨e,_⟩:=x;exact OM e
 | tbl ps=>exact OM (show h.get? a=some _ from x)
 | met f y=>exact OM (show h.get? a=some _ from x)
 | ext φ=>obtain⟨_,⟨_,e⟩,_⟩:=x;exact OM e
theorem Paired.mapP{α β:Type}{F G:α->β->Prop}:∀{l₁:List α}{l₂:List β},Paired F l₁ l₂->(∀a b,F a b->G a b)->Paired G l₁ l₂
 | _,_,.nil,_=>.nil
 | _,_,.cons r t,f=>.cons (f _ _ r) (Paired.mapP t f)
theorem cg.stay(x:cg P w H h a o)(k:∀b u,(b=a\/H b=some (.own a))->h.get? b=some u->h'.get? b=some u)
 (ho:∀b,H b=some (.own a)->H' b=some (.own a))(ht:∀b xs,H b=some (.tup xs)->H' b=some (.tup xs)):cg P w H' h' a o:=by
 induction o with
 | lst xs=>obtain⟨z,its,n,r,e⟩:=x;exact⟨z,its,n,r,k _ _ (.inl rfl) e⟩
 | tup xs=>obtain⟨z,its,r,ob,e,c⟩:=x;exact⟨z,its,r,ob,k _ _ (.inl rfl) e,c⟩
 | dK kvs=>obtain⟨z,y,vs,r,ob,es,ep,e,c⟩:=x;exact⟨z,y,vs,r,ob,es,ep,k _ _ (.inl rfl) e,c⟩
 | dT kvs=>
  obtain⟨z,y,xs,r,ob,es,ep,e,c⟩:=x;exact⟨z,y,xs,Paired.mapP r λp q z=>⟨z.1,ht _ _ z.2.1,z.2.2⟩,ob,es,ep,k _ _ (.inl rfl) e,c⟩
 | set S n=>obtain⟨ob,es,ep,t,e,c⟩:=x;exact⟨ob,es,ep,t,k _ _ (.inl rfl) e,c⟩
 | ins C dx fs=>
  obtain⟨d,z,ne,e,mA,⟨od,es,ep,e2,c⟩,r⟩:=x;exact⟨ho _ d,z,ne,k _ _ (.inl rfl) e,mA,⟨od,es,ep,k _ _ (.inr d) e2,c⟩,r⟩
 | own y=>obtain⟨ob,e⟩:=x;exact⟨ob,k _ _ (.inl rfl) e⟩
 | xd fs=>obtain⟨mA,⟨od,es,ep,e,c⟩,r⟩:=x;exact⟨mA,⟨od,es,ep,k _ _ (.inl rfl) e,c⟩,r⟩
 | rng lo hi=>obtain⟨t,u,v,e⟩:=x;exact⟨t,u,v,k _ _ (.inl rfl) e⟩
 | frz ob u ih=>obtain⟨e,q⟩:=x;exact⟨k _ _ (.inl rfl) e,ih q⟩
 | tbl ps=>
  have e:h.get? a=some {cls:= .none,data:= .fields ps}:=x;show h'.get? a=some {cls:= .none,data:= .fields ps};exact k a _ (.inl rfl) e
 | met f y=>
  have e:h.get? a=some (Tp (.ref f) (.ref y)):=x;show h'.get? a=some (Tp (.ref f) (.ref y));exact k a _ (.inl rfl) e
 | ext φ=>obtain⟨p,⟨o,e⟩,st⟩:=x;exact⟨st _ _ p λo q=>k _ _ (.inl rfl) q,⟨o,k _ _ (.inl rfl) e⟩,st⟩
theorem bQ.lt(x:bQ P w H h)(e:H a=some o):a < h.objs.size:=(x a o e).lt
theorem bQ.fresh(x:bQ P w H h)(e:h.objs.size<=a):H a=none:=by
 cases q:H a with
 | none=>rfl
 | some u=>exact absurd (PB (x.lt q) e) (QJ _)
theorem bQ.kept(x:bQ P w H h)(k:∀b u,h.get? b=some u->h'.get? b=some u):bQ P w H h':=λa o e=>
 (x a o e).stay (λb u _ q=>k b u q) (λ_ q=>q) λ_ _ q=>q
theorem bQ.laid(x:bQ P w H h)(k:∀b u,h.get? b=some u->h'.get? b=some u)(hp:h.objs.size<=a)(new:cg P w (ai H a o) h' a o):bQ P w (ai H a o) h':=λb u e=>by
 have hn:=x.fresh hp;by_cases hb:b=a
 ·subst hb;rw [bA] at e;cases e;exact new
 ·rw [aC hb] at e;exact(x b u e).stay (λc v _ q=>k c v q) (λc q=>by rw [aC (eG q hn)];exact q) λc xs q=>by rw [aC (eG q hn)];exact q
end
def Rd(H:Hp)(a:VM)(u:HO):Prop:=H a=some u\/∃o,H a=some (.frz o u)
theorem Rd.ok{P:VW}{w:VX}{H:Hp}{h:VY}{a:VM}{u:HO}(r:Rd H a u)(x:bQ P w H h):cg P w H h a u:=by
 rcases r with r | ⟨o,r⟩
 ·exact x a u r
 ·obtain⟨_,q⟩:=x a _ r;exact q
def se:Option HO->Prop
 | some (.lst _)=>True
 | some (.dK _)=>True
 | some (.dT _)=>True
 | some (.set _ _)=>True
 | some (.ins _ _ _)=>True
 | some (.ext _)=>True
 | _=>False
section
variable {P:VW} {w:VX} {H:Hp} {h h':VY} {x e:VM} {o':HO}
theorem bQ.write(ok:bQ P w H h)(mu:se (H x))(he:e=x\/H e=some (.own x))(k:∀b u,b≠e->h.get? b=some u->h'.get? b=some u)(heo:∃u,h'.get? e=some u)
 (new:cg P w (ai H x o') h' x o'):bQ P w (ai H x o') h':=λb u q=>by
 have nown:∀c y,H c=some (.own y)->c≠x:=λc y r z=>by subst z;rw [r] at mu;exact mu
 have ntup:∀c xs,H c=some (.tup xs)->c≠x:=λc xs r z=>by subst z;rw [r] at mu;exact mu
 by_cases hb:b=x
 ·subst hb;rw [bA] at q;cases q;exact new
 ·rw [aC hb] at q;by_cases hbe:b=e
  ·have q':H b=some (.own x):=by
    rcases he with z | z
    ·exact absurd (hbe.trans z) hb
    ·rw [hbe];exact z
   rw [q] at q';cases q';obtain⟨v,hv⟩:=heo;exact⟨v,by rw [hbe];exact hv⟩
  ·refine(ok b u q).stay (λc v hc r=>k c v ?_ r) (λc r=>by rw [aC (nown c b r)];exact r) λc xs r=>by rw [aC (ntup c xs r)];exact r
   rcases hc with rfl | hc
   ·exact hbe
   ·rintro rfl;rcases he with z | z
    ·exact nown c b hc z
    ·rw [hc] at z;cases z;exact hb rfl
end
structure Un (fs ex:List VM) (H H':Hp) (h h':VY):Prop where
 keep:∀b o,h.get? b=some o->H b=none->b ∉ fs->b ∉ ex->h'.get? b=some o
 slot:∀b o,h.get? b=some o->H b=none->b∈fs->b ∉ ex->∃sl,h'.get? b=some {o with slots:=sl}
 free:∀b o,h.get? b=some o->H b=none->b ∉ ex->H' b=none
 there:∀b o,h.get? b=some o->b ∉ ex->∃o',h'.get? b=some o'
 tups:∀b xs,H b=some (.tup xs)->H' b=some (.tup xs)
 frzs:∀b o u,H b=some (.frz o u)->H' b=some (.frz o u)
 tbls:∀b ps,H b=some (.tbl ps)->∃more,H' b=some (.tbl (ps++more))
section
variable {fs fs' ex ex':List VM} {H H1 H2:Hp} {h h1 h2 h':VY} {a x e:VM} {o:HO}
theorem Un.any(u:Un fs ex H H1 h h1){b:VM}{ob:Obj}(q:h.get? b=some ob)(n:H b=none)(hx:b ∉ ex):∃sl,h1.get? b=some {ob with slots:=sl}:=by
 by_cases hb:b∈fs
 ·exact u.slot b ob q n hb hx
 ·exact⟨ob.slots,u.keep b ob q n hb hx⟩
theorem Un.kept(k:∀b u,h.get? b=some u->h'.get? b=some u):Un fs ex H H h h':=
 ⟨λb ob q _ _ _=>k b ob q,λb ob q _ _ _=>⟨ob.slots,k b ob q⟩,λ_ _ _ n _=>n,λb ob q _=>⟨ob,k b ob q⟩,λ_ _ q=>q,λ_ _ _ q=>q,λ_ ps q=>⟨#[],by rw [q];simp⟩⟩
theorem Un.refl:Un fs ex H H h h:=Un.kept λ_ _ q=>q
theorem Un.laid(k:∀b u,h.get? b=some u->h'.get? b=some u)(hp:h.objs.size<=a)(hn:H a=none):Un fs ex H (ai H a o) h h' where
 keep:=λb u q _ _ _=>k b u q
 slot:=λb u q _ _ _=>⟨u.slots,k b u q⟩
 free:=λb u q n _=>by rw [aC (O6 (PB (OM q) hp))];exact n
 there:=λb u q _=>⟨u,k b u q⟩
 tups:=λb xs q=>by rw [aC (eG q hn)];exact q
 frzs:=λb u xs q=>by rw [aC (eG q hn)];exact q
 tbls:=λb ps q=>⟨#[],by rw [aC (eG q hn),q];simp⟩
theorem Un.write(mu:se (H x))(he:e=x\/H e=some (.own x))(k:∀b u,b≠e->h.get? b=some u->h'.get? b=some u)(heo:∃u,h'.get? e=some u):Un fs ex H (ai H x o) h h':=by
 have hx:∀b,H b=none->b≠x:=λb n z=>by subst z;rw [n] at mu;exact mu
 have hb:∀b,H b=none->b≠e:=λb n z=>by
  subst z;rcases he with r | r
  ·exact hx b n r
  ·rw [n] at r;cases r
 have hm:∀b u,H b=some u->¬se (some u)->b≠x:=λb u q nm z=>by subst z;rw [q] at mu;exact nm mu
 refine⟨λb u q n _ _=>k b u (hb b n) q,λb u q n _ _=>⟨u.slots,k b u (hb b n) q⟩,λb u q n _=>by rw [aC (hx b n)];exact n,λb u q _=>?_,
  λb xs q=>by rw [aC (hm b _ q λz=>z)];exact q,λb u xs q=>by rw [aC (hm b _ q λz=>z)];exact q,λb ps q=>⟨#[],by rw [aC (hm b _ q λz=>z),q];simp⟩⟩
 by_cases hbe:b=e
 ·subst hbe;exact heo
 ·exact⟨u,k b u hbe q⟩
end
def trk(h:VY)(H:Hp):List VM:=(P7 h.objs.size).filter λa=>(H a).isSome
def jS(h:VY)(H:Hp):VY:=PySem.W.hideAll h (trk h H)
theorem E7(h:VY)(H:Hp):(jS h H).objs.size=h.objs.size:=PySem.W.hideAll_size _ _
theorem E8{h:VY}{H:Hp}{b:VM}{o:Obj}(e:h.get? b=some o)(n:H b=none):(jS h H).get? b=some o:=
 PySem.W.hideAll_get _ e λhm=>by
  have q:(H b).isSome=true:=(Po.mp hm).2;rw [n] at q;simp at q
theorem E9{h:VY}{H:Hp}{b:VM}{o:Obj}(e:(jS h H).get? b=some o):h.get? b=some o/\H b=none:=by
 have e':h.get? b=some o:=PySem.W.of_hideAll (trk h H) e;refine⟨e',?_⟩;cases q:H b with
 | none=>rfl
 | some x=>
  have hm:b∈trk h H:=Po.mpr ⟨SG.mpr (OM e'),by simp [q]⟩;have z:(jS h H).get? b=none:=PySem.W.hideAll_none (trk h H) hm;rw [z] at e;cases e
def Fb(g h:VY)(L:VM):List (VM×Obj):=(P7 h.objs.size).filterMap λa=>if a=L\/(g.get? a).isSome=true then none else(h.get? a).map λo=>(a,o)
def rest(g h:VY)(L d:VM):List (VM×Obj):=(Fb g h L).filter λp=>decide (p.1≠d)
structure Mod (K:Og) (mg:Str->Option VJ) (base:VY):Prop where
 kin:K.In base
 glob:base.Ns VP mg
 blt:∃mb,base.Ns builtinsNs mb/\∀x:Str,x≠"__name__"->mb x=V1 x
 nolimit:base.NoLimit
structure Cx where
 prog:VW
 w:VX
 K:Og
 mg:Str->Option VJ
 base:VY
 A:V0
 N:List Str
 s₀:VN
 H₀:Hp
 env:Env
 outer:List Env
 stack:List Env
 ex:List VM
 fn:Str->Bool
 calm:Bool
 pn:List (VM×Obj)
 xe:VJ->VN->Prop
def gh(l:List Env):List VM:=l.filterMap (·.frame)
abbrev Cx.fs(X:Cx):List VM:=gh X.outer
def sf(sc:Wm)(x:Str):Prop:=sc.names.lookup x=some .local\/sc.names.lookup x=some .cell\/sc.names.lookup x=some .free
def gK(sc:Wm)(x:Str):Prop:=sc.names.lookup x=some .local\/sc.names.lookup x=some .cell
def Fc(env:Env)(h:VY)(m:Str->Option VJ)(x:Str)(u:VJ):Prop:=
 (env.kindOf x=some .local/\m x=some u)\/((env.kindOf x=some .cell\/env.kindOf x=some .free)/\∃c,env.cells.lookup x=some c/\h.IsCell c (some u))
structure Cx.Ok (X:Cx):Prop where
 mod:Mod X.K X.mg X.base
 kind:X.env.scope.kind= .function
 glob:X.env.globals=VP
 blt:X.env.builtins=builtinsNs
 above:X.s₀.heap.objs.size<=X.env.locals
 inj:∀x y c,X.env.cells.lookup x=some c->X.env.cells.lookup y=some c->x=y
 has:∀x,(X.env.kindOf x=some .cell\/X.env.kindOf x=some .free)->∃c,X.env.cells.lookup x=some c
 cab:∀x c,X.fn x=true->X.env.cells.lookup x=some c->X.s₀.heap.objs.size<=c
 hd:X.calm=true->X.A.handled=none
 frames:X.A.frames=some X.stack
 stk:X.stack=X.outer\/(X.stack=X.env::X.outer/\X.env.frame=some X.env.locals)
 exf:∀b∈X.ex,b≠X.env.locals/\∀x c,X.env.cells.lookup x=some c->c≠b
 bs:∀b o,X.base.get? b=some o->X.s₀.heap.get? b=some o/\X.H₀ b=none
 bsz:X.base.objs.size<=X.s₀.heap.objs.size
 noex:∀b o,X.base.get? b=some o->b ∉ X.ex
 exfs:∀b∈X.ex,b ∉ X.fs
 funs:X.s₀.heap.FunFrames X.base X.outer
 frf:∀b∈X.fs,X.H₀ b=none
structure ah (X:Cx) (Xl:List (VM×Obj)) (σ:List (Option V)) (H:Hp) (s:VN):Prop where
 ok:X.Ok
 os:s.os=X.s₀.os
 bare:WY s.gens
 base:Un X.fs X.ex X.H₀ H X.s₀.heap s.heap
 loc:∃m,s.heap.Ns X.env.locals m/\∀(i:Nat)(x:Str)(v:V),X.N[i]?=some x->σ[i]?=some (some v)->sf X.env.scope x->∃u,aO v u/\Fc X.env s.heap m x u
 cell:∀x c,X.env.cells.lookup x=some c->∃v,s.heap.IsCell c v
 free:H X.env.locals=none
 freeC:∀x c,X.env.cells.lookup x=some c->H c=none
 pin:∀p∈X.pn++Xl,s.heap.get? p.1=some p.2/\H p.1=none/\p.1≠X.env.locals/\p.1 ∉ X.fs/\∀v,p.2.data≠ .cell v
 hok:bQ X.prog X.w H s.heap
 len:σ.length=X.N.length
section
variable {X:Cx} {Xl:List (VM×Obj)} {σ:List (Option V)} {H H':Hp} {s:VN} {h':VY}
theorem Cx.Ok.nofr(ok:X.Ok){b:VM}{o:Obj}(e:X.base.get? b=some o):b ∉ X.fs:=λhb=>by
 have:=(ok.funs.mem hb).1;rw [e] at this;cases this
theorem ah.bs(I:ah X Xl σ H s):∀b o,X.base.get? b=some o->s.heap.get? b=some o/\H b=none:=λb o e=>
 ⟨I.base.keep b o (I.ok.bs b o e).1 (I.ok.bs b o e).2 (I.ok.nofr e) (I.ok.noex b o e),I.base.free b o (I.ok.bs b o e).1 (I.ok.bs b o e).2 (I.ok.noex b o e)⟩
theorem ah.bk(I:ah X Xl σ H s):∀b o,X.base.get? b=some o->s.heap.get? b=some o:=λb o e=>(I.bs b o e).1
theorem ah.mod(I:ah X Xl σ H s):Mod X.K X.mg X.base:=I.ok.mod
theorem ah.kIn(I:ah X Xl σ H s):X.K.In s.heap:=I.ok.mod.kin.keeps I.bk
theorem ah.fr(I:ah X Xl σ H s):∃m,Fr X.base X.env.locals s.heap m:=
 let ⟨m,hn,_⟩:=I.loc
 ⟨m,hn,I.bk,O7 I.ok.bsz I.ok.above⟩
theorem ah.lt(I:ah X Xl σ H s):X.env.locals < s.heap.objs.size:=let ⟨_,hn,_⟩:=I.loc;hn.lt
theorem ah.sz(I:ah X Xl σ H s):X.s₀.heap.objs.size<=s.heap.objs.size:=O7 I.ok.above (Rj I.lt)
theorem ah.nofs(I:ah X Xl σ H s){a:VM}(h:s.heap.objs.size<=a):a ∉ X.fs:=λhb=>by
 obtain⟨_,o,ho,_⟩:=I.ok.funs.mem hb;exact absurd (PB (OM ho) (O7 I.sz h)) (QJ _)
theorem ah.cne(I:ah X Xl σ H s):∀x c,X.env.cells.lookup x=some c->c≠X.env.locals:=λx c e z=>by
 obtain⟨v,o,ho,hd⟩:=I.cell x c e;obtain⟨m,⟨o',es,ep,ho',hd',_⟩,_⟩:=I.loc;rw [z,ho'] at ho;cases ho;rw [hd'] at hd;cases hd
theorem ah.funs(I:ah X Xl σ H s):s.heap.FunFrames X.base X.outer:=by
 have all:∀(l:List Env),(∀b∈gh l,b∈X.fs)->X.s₀.heap.FunFrames X.base l->s.heap.FunFrames X.base l:=by
  intro l
  induction l with
  | nil=>intro _ _;trivial
  | cons env r ih=>
   intro hs hl;obtain⟨hk,⟨L,o,hf,hn,ho,hd⟩,hr⟩:=hl;have hL:L∈X.fs:=hs L (by unfold gh;rw [P8,hf];exact Pa);obtain⟨sl,e⟩:=I.base.slot L o ho (I.ok.frf L hL) hL λz=>I.ok.exfs L z hL;exact⟨hk,⟨L,_,hf,hn,e,hd⟩,ih (λb hb=>hs b (by unfold gh;rw [P8,hf];exact OT _ hb)) hr⟩
 exact all X.outer (λ_ hb=>hb) I.ok.funs
theorem ah.stack(I:ah X Xl σ H s):s.heap.FunFrames X.base X.stack:=by
 rcases I.ok.stk with e | ⟨e,hf⟩
 ·rw [e];exact I.funs
 ·rw [e];obtain⟨m,hn,_⟩:=I.loc;refine .cons (by rw [I.ok.kind];decide) hf hn ?_ I.funs;exact Heap.get?_none_of_le (O7 I.ok.bsz I.ok.above)
theorem ah.stkSub(I:ah X Xl σ H s):∀b∈gh X.stack,b∈X.env.locals::X.fs:=λb hb=>by
 rcases I.ok.stk with e | ⟨e,hf⟩
 ·rw [e] at hb;exact OT _ hb
 ·rw [e] at hb;unfold gh at hb;rw [P8,hf] at hb;exact hb
theorem ah.stkFree(I:ah X Xl σ H s):∀b∈gh X.stack,H b=none:=λb hb=>by
 rcases Ox.mp (I.stkSub b hb) with e | hb
 ·rw [e];exact I.free
 ·obtain⟨_,o,ho,_⟩:=I.ok.funs.mem hb;exact I.base.free b o ho (I.ok.frf b hb) λz=>I.ok.exfs b z hb
theorem ah.step{g':Array Xj}{t':Nat}{d':Drawn}{ch:List VM}(I:ah X Xl σ H s)
 (hch:∀b∈ch,(b∈X.ex\/X.s₀.heap.objs.size<=b)/\b≠X.env.locals/\(∀x c,X.env.cells.lookup x=some c->c≠b)/\∀p∈X.pn++Xl,p.1≠b)
 (keep:∀b o,b≠X.env.locals->b ∉ X.fs->b ∉ ch->s.heap.get? b=some o->H b=none->h'.get? b=some o)
 (slot:∀b o,b≠X.env.locals->b∈X.fs->b ∉ ch->s.heap.get? b=some o->H b=none->∃sl,h'.get? b=some {o with slots:=sl})(free:∀b o,b ∉ ch->s.heap.get? b=some o->H b=none->H' b=none)
 (there:∀b o,b ∉ ch->s.heap.get? b=some o->∃o',h'.get? b=some o')
 (tups:∀b xs,H b=some (.tup xs)->H' b=some (.tup xs))(frzs:∀b o u,H b=some (.frz o u)->H' b=some (.frz o u))(tbls:∀b ps,H b=some (.tbl ps)->∃more,H' b=some (.tbl (ps++more)))
 (ns:∀m,s.heap.Ns X.env.locals m->h'.Ns X.env.locals m)(hok:bQ X.prog X.w H' h')(hg:WY g'):
 ah X Xl σ H' {s with heap:=h',gens:=g',drawn:=d',toks:=t'}:=by
 have neL:∀b o,X.s₀.heap.get? b=some o->b≠X.env.locals:=λb o e=>O6 (PB (OM e) I.ok.above);have neC:∀b o,X.s₀.heap.get? b=some o->b ∉ X.ex->b ∉ ch:=λb o e hx hb=>by
  rcases(hch b hb).1 with z | z
  ·exact hx z
  ·exact absurd (PB (OM e) z) (QJ _)
 have cellK:∀x c,X.env.cells.lookup x=some c->∀v,s.heap.IsCell c v->h'.IsCell c v:=λx c e v uu1=>by
  obtain⟨o,ho,hd⟩:=uu1;have nch:c ∉ ch:=λz=>(hch c z).2.2.1 x c e rfl;by_cases hc:c∈X.fs
  ·obtain⟨sl,q⟩:=slot c o (I.cne x c e) hc nch ho (I.freeC x c e);exact⟨_,q,hd⟩
  ·exact⟨o,keep c o (I.cne x c e) hc nch ho (I.freeC x c e),hd⟩
 refine⟨I.ok,I.os,hg,⟨λb o e n hb hx=>?_,λb o e n hb hx=>?_,λb o e n hx=>?_,λb o e hx=>?_,λb xs e=>tups b xs (I.base.tups b xs e),λb o xs e=>frzs b o xs (I.base.frzs b o xs e),λb ps e=>?_⟩,?_,λx c e=>?_,?_,λx c e=>?_,λp hp=>?_,hok,I.len⟩
 ·exact keep b o (neL b o e) hb (neC b o e hx) (I.base.keep b o e n hb hx) (I.base.free b o e n hx)
 ·obtain⟨sl,e1⟩:=I.base.slot b o e n hb hx;obtain⟨sl',e2⟩:=slot b _ (neL b o e) hb (neC b o e hx) e1 (I.base.free b o e n hx);exact⟨sl',e2⟩
 ·obtain⟨o',e1⟩:=I.base.there b o e hx;exact free b o' (neC b o e hx) e1 (I.base.free b o e n hx)
 ·obtain⟨o',e1⟩:=I.base.there b o e hx;exact there b o' (neC b o e hx) e1
 ·obtain⟨m1,e1⟩:=I.base.tbls b ps e;obtain⟨m2,e2⟩:=tbls b _ e1;exact⟨m1++m2,by rw [e2,Array.append_assoc]⟩
 ·obtain⟨m,hn,hl⟩:=I.loc;refine⟨m,ns m hn,λi x v e1 e2 e3=>?_⟩;obtain⟨u,r,l⟩:=hl i x v e1 e2 e3;refine⟨u,r,?_⟩;rcases l with l | ⟨k,c,e,z⟩
  ·exact .inl l
  ·exact .inr ⟨k,c,e,cellK x c e _ z⟩
 ·obtain⟨v,z⟩:=I.cell x c e;exact⟨v,cellK x c e v z⟩
 ·obtain⟨m,⟨o,_,_,ho,_⟩,_⟩:=I.loc;exact free _ o (λz=>(hch _ z).2.1 rfl) ho I.free
 ·obtain⟨v,o,ho,hd⟩:=I.cell x c e;exact free c o (λz=>(hch c z).2.2.1 x c e rfl) ho (I.freeC x c e)
 ·obtain⟨e,n,ne,nf,d⟩:=I.pin p hp;have nch:p.1 ∉ ch:=λz=>(hch p.1 z).2.2.2 p hp rfl;exact⟨keep p.1 p.2 ne nf nch e n,free p.1 p.2 nch e n,ne,nf,d⟩
theorem ah.un{t':Nat}(I:ah X Xl σ H s)(u:Un X.fs [] H H' s.heap h')(hok:bQ X.prog X.w H' h'):ah X Xl σ H' {s with heap:=h',toks:=t'}:=by
 obtain⟨m,⟨o,es,ep,ho,r⟩,_⟩:=id I.loc;obtain⟨sl,hL⟩:=u.any ho I.free VH;exact I.step (g':=s.gens) (d':=s.drawn) (ch:=[]) (λ_ z=>nomatch z) (λb o _ hb _ e n=>u.keep b o e n hb VH) (λb o _ hb _ e n=>u.slot b o e n hb VH) (λb o _ e n=>u.free b o e n VH) (λb o _ e=>u.there b o e VH) u.tups u.frzs u.tbls (λm' hm=>by
  obtain⟨o',es',ep',ho',r'⟩:=hm;rw [ho] at ho';cases ho';exact⟨_,es',ep',hL,r'⟩) hok I.bare
theorem ah.call{g':Array Xj}{t':Nat}{d':Drawn}{ch:List VM}(I:ah X Xl σ H s)(u:Un (gh X.stack) ch H H' s.heap h')(hok:bQ X.prog X.w H' h')(hg:WY g')
 (hch:∀b∈ch,(b∈X.ex\/X.s₀.heap.objs.size<=b)/\b≠X.env.locals/\(∀x c,X.env.cells.lookup x=some c->c≠b)/\∀p∈X.pn++Xl,p.1≠b):
 ah X Xl σ H' {s with heap:=h',gens:=g',drawn:=d',toks:=t'}:=by
 obtain⟨m,⟨o,es,ep,ho,r⟩,_⟩:=id I.loc;obtain⟨sl,hL⟩:=u.any ho I.free λz=>(hch _ z).2.1 rfl;exact I.step (ch:=ch) hch (λb o hL hb hc e n=>u.keep b o e n (λz=>(Ox.mp (I.stkSub b z)).elim hL hb) hc) (λb o _ _ hc e n=>u.any e n hc) (λb o hc e n=>u.free b o e n hc) (λb o hc e=>u.there b o e hc) u.tups u.frzs u.tbls (λm' hm=>by
  obtain⟨o',es',ep',ho',r'⟩:=hm;rw [ho] at ho';cases ho';exact⟨_,es',ep',hL,r'⟩) hok hg
theorem ah.turned{t':Nat}{it:VM}(I:ah X Xl σ H s)(k:∀b o,b≠it->s.heap.get? b=some o->h'.get? b=some o)(hn:H it=none)(hL:it≠X.env.locals)
 (h1:it∈X.ex\/X.s₀.heap.objs.size<=it)(h2:∀x c,X.env.cells.lookup x=some c->c≠it)(h3:∀p∈X.pn++Xl,p.1≠it):ah X Xl σ H {s with heap:=h',toks:=t'}:=by
 have nit:∀b u,H b=some u->b≠it:=λb u e z=>by rw [z,hn] at e;cases e
 refine I.step (g':=s.gens) (d':=s.drawn) (ch:=[it]) (λb hb=>?_) (λb o _ _ hc e _=>k b o (λz=>hc (by simp [z])) e) (λb o _ _ hc e _=>⟨o.slots,k b o (λz=>hc (by simp [z])) e⟩) (λ_ _ _ _ n=>n)
  (λb o hc e=>⟨o,k b o (λz=>hc (by simp [z])) e⟩) (λ_ _ e=>e) (λ_ _ _ e=>e) (λb ps e=>⟨#[],by rw [e];simp⟩) (λm hm=>?_) (λb u e=>?_) I.bare
 ·have e:b=it:=by simpa using hb
  subst e;exact⟨h1,hL,h2,h3⟩
 ·obtain⟨o,es,ep,ho,r⟩:=hm;exact⟨o,es,ep,k _ o (Ne.symm hL) ho,r⟩
 ·refine(I.hok b u e).stay (λc v hc q=>k c v ?_ q) (λ_ q=>q) λ_ _ q=>q;rcases hc with z | z
  ·rw [z];exact nit b u e
  ·exact nit c _ z
theorem ah.tok(I:ah X Xl σ H s)(t:Nat):ah X Xl σ H {s with toks:=t}:=I.un (h':=s.heap) (t':=t) Un.refl I.hok
theorem ah.kept{t':Nat}(I:ah X Xl σ H s)(k:∀b u,s.heap.get? b=some u->h'.get? b=some u):ah X Xl σ H {s with heap:=h',toks:=t'}:=I.un (Un.kept k) (I.hok.kept k)
theorem ah.laid{a:VM}{o:HO}{t':Nat}(I:ah X Xl σ H s)(k:∀b u,s.heap.get? b=some u->h'.get? b=some u)(hp:s.heap.objs.size<=a)(new:cg X.prog X.w (ai H a o) h' a o):
 ah X Xl σ (ai H a o) {s with heap:=h',toks:=t'}:=I.un (Un.laid k hp (I.hok.fresh hp)) (I.hok.laid k hp new)
theorem ah.write{x e:VM}{o:HO}{t':Nat}(I:ah X Xl σ H s)(mu:se (H x))(he:e=x\/H e=some (.own x))(k:∀b u,b≠e->s.heap.get? b=some u->h'.get? b=some u)(heo:∃u,h'.get? e=some u)
 (new:cg X.prog X.w (ai H x o) h' x o):ah X Xl σ (ai H x o) {s with heap:=h',toks:=t'}:=I.un (Un.write mu he k heo) (I.hok.write mu he k heo new)
theorem ah.weak{σ':List (Option V)}(I:ah X Xl σ H s)(hl:σ'.length=σ.length)(w:∀(i:Nat) v,σ'[i]?=some (some v)->σ[i]?=some (some v)):ah X Xl σ' H s:=
 ⟨I.ok,I.os,I.bare,I.base,let ⟨m,hn,hl'⟩:=I.loc;⟨m,hn,λi x v e1 e2 e3=>hl' i x v e1 (w i v e2) e3⟩,I.cell,I.free,I.freeC,I.pin,I.hok,hl.trans I.len⟩
theorem ah.pins_of{pins':List (VM×Obj)}(I:ah X Xl σ H s)(h:∀p∈pins',s.heap.get? p.1=some p.2/\H p.1=none/\p.1≠X.env.locals/\p.1 ∉ X.fs/\∀v,p.2.data≠ .cell v):ah X pins' σ H s:=
 ⟨I.ok,I.os,I.bare,I.base,I.loc,I.cell,I.free,I.freeC,λp hp=>(ON.mp hp).elim (λz=>I.pin p (Sb _ z)) (h p),I.hok,I.len⟩
theorem yM{N:List Str}(hN:N.Nodup){i j:Nat}{x:Str}(a:N[i]?=some x)(b:N[j]?=some x):i=j:=by
 obtain⟨h1,e1⟩:=OB.mp a;obtain⟨h2,e2⟩:=OB.mp b;exact(SM hN).mp (e1.trans e2.symm)
theorem yN{M:Model}{A:V0}{E:VJ->VN->Prop}{i:Nat}{x:Str}{v:V}{u:VJ}{Q:Unit->VN->Prop}(I:ah X Xl σ H s)(hN:X.N.Nodup)(hi:X.N[i]?=some x)(hx:gK X.env.scope x)(r:aO v u)
 (h:∀s',ah X Xl (σ.set i (some v)) H s'->(∃a,QX a s.heap s'.heap/\(a=X.env.locals\/X.env.cells.lookup x=some a))->Q () s')(hf:X.fn x=true\/X.env.scope.names.lookup x=some .local:=by first | exact .inl rfl | exact .inr rfl | assumption):VR M A (storeName X.env x u) Q E s:=by
 obtain⟨m,hn,hl⟩:=id I.loc;have hcls:(X.env.scope.kind== .class || (X.env.scope.kind== .module && X.env.locals !=X.env.globals))=false:=by rw [I.ok.kind];rfl
 have hiσ:i < σ.length:=by rw [I.len];exact(OB.mp hi).1
 have cne:=I.cne;have tracked:∀{a:VM}{h':VY},(∃o,s.heap.get? a=some o/\H a=none)->QX a s.heap h'->bQ X.prog X.w H h':=λ{a h'} ha hs b ob e=>by
  obtain⟨_,_,hfree⟩:=ha;refine(I.hok b ob e).stay (λc w' hc q=>(hs.2 c ?_).trans q) (λ_ q=>q) λ_ _ q=>q;rintro rfl;rcases hc with rfl | hc
  ·rw [hfree] at e;cases e
  ·rw [hfree] at hc;cases hc
 rcases hx with hk | hk
 ·refine wpAny_storeName_local hk hn (λh' hn' hs=>?_) hcls;obtain⟨oL,_,_,hoL,_⟩:=id hn;refine h _ ⟨I.ok,I.os,I.bare,⟨λb o e n hb hx=>?_,λb o e n hb hx=>?_,I.base.free,λb o e hx=>?_,I.base.tups,I.base.frzs,I.base.tbls⟩,⟨_,hn',λj y v' e1 e2 e3=>?_⟩,λy c e=>?_,I.free,I.freeC,λp hp=>?_,tracked ⟨oL,hoL,I.free⟩ hs,by simpa using I.len⟩ ⟨_,hs,.inl rfl⟩
  ·exact(hs.2 b (O6 (PB (OM e) I.ok.above))).trans (I.base.keep b o e n hb hx)
  ·obtain⟨sl,e1⟩:=I.base.slot b o e n hb hx;exact⟨sl,(hs.2 b (O6 (PB (OM e) I.ok.above))).trans e1⟩
  ·obtain⟨o',e1⟩:=I.base.there b o e hx;exact⟨o',(hs.2 b (O6 (PB (OM e) I.ok.above))).trans e1⟩
  ·by_cases hj:j=i
   ·subst hj;rw [hi] at e1;cases e1;rw [OU hiσ] at e2;cases e2;exact⟨u,r,.inl ⟨hk,VH⟩⟩
   ·rw [OF (Ne.symm hj)] at e2;obtain⟨u',r',q⟩:=hl j y v' e1 e2 e3;refine⟨u',r',?_⟩;rcases q with⟨k,e⟩ | ⟨k,c,e,z⟩
    ·refine .inl ⟨k,?_⟩;have:y≠x:=λe=>hj (yM hN e1 (e▸hi));simp [this,e]
    ·exact .inr ⟨k,c,e,z.sameBut hs (cne y c e)⟩
  ·obtain⟨w',z⟩:=I.cell y c e;exact⟨w',z.sameBut hs (cne y c e)⟩
  ·obtain⟨e,n,ne,nf,d⟩:=I.pin p hp;exact⟨(hs.2 p.1 ne).trans e,n,ne,nf,d⟩
 ·have hfn:X.fn x=true:=by
   rcases hf with z | z
   ·exact z
   ·rw [z] at hk;cases hk
  obtain⟨c,hc⟩:=I.ok.has x (.inl hk);obtain⟨w',z⟩:=I.cell x c hc;refine wpAny_storeName_cell I.ok.kind hk hc z (λh' hc' hs=>?_);obtain⟨oc,hoc,hocd⟩:=id z;refine h {s with heap:=h'} ⟨I.ok,I.os,I.bare,⟨λb o e n hb hx=>?_,λb o e n hb hx=>?_,I.base.free,λb o e hx=>?_,I.base.tups,I.base.frzs,I.base.tbls⟩,⟨m,hn.sameBut hs (Ne.symm (cne x c hc)),λj y v' e1 e2 e3=>?_⟩,λy c' e=>?_,I.free,I.freeC,λp hp=>?_,tracked ⟨oc,hoc,I.freeC x c hc⟩ hs,by simpa using I.len⟩ ⟨c,hs,.inr hc⟩
  ·exact(hs.2 b (O6 (PB (OM e) (I.ok.cab x c hfn hc)))).trans (I.base.keep b o e n hb hx)
  ·obtain⟨sl,e1⟩:=I.base.slot b o e n hb hx;exact⟨sl,(hs.2 b (O6 (PB (OM e) (I.ok.cab x c hfn hc)))).trans e1⟩
  ·obtain⟨o',e1⟩:=I.base.there b o e hx;exact⟨o',(hs.2 b (O6 (PB (OM e) (I.ok.cab x c hfn hc)))).trans e1⟩
  ·by_cases hj:j=i
   ·subst hj;rw [hi] at e1;cases e1;rw [OU hiσ] at e2;cases e2;exact⟨u,r,.inr ⟨.inl hk,c,hc,hc'⟩⟩
   ·rw [OF (Ne.symm hj)] at e2;obtain⟨u',r',q⟩:=hl j y v' e1 e2 e3;refine⟨u',r',?_⟩;rcases q with q | ⟨k,c',e,z'⟩
    ·exact .inl q
    ·refine .inr ⟨k,c',e,z'.sameBut hs ?_⟩;rintro rfl;exact hj (yM hN e1 (I.ok.inj _ _ _ e hc▸hi))
  ·by_cases hcc:c'=c
   ·subst hcc;exact⟨_,hc'⟩
   ·obtain⟨w2,z2⟩:=I.cell y c' e;exact⟨w2,z2.sameBut hs hcc⟩
  ·obtain⟨e,n,ne,nf,d⟩:=I.pin p hp;refine⟨(hs.2 p.1 ?_).trans e,n,ne,nf,d⟩;intro q;rw [q,hoc] at e;have q':oc=p.2:=Ph e;exact d w' (by rw [<-q'];exact hocd)
theorem yO{M:Model}{A:V0}{E:VJ->VN->Prop}{i:Nat}{x:Str}{v:V}{u:VJ}{Q:Unit->VN->Prop}(I:ah X Xl σ H s)(hN:X.N.Nodup)(hi:X.N[i]?=some x)(hx:gK X.env.scope x)(r:aO v u)
 (h:∀s',ah X Xl (σ.set i (some v)) H s'->Q () s')(hf:X.fn x=true\/X.env.scope.names.lookup x=some .local:=by first | exact .inl rfl | exact .inr rfl | assumption):VR M A (storeName X.env x u) Q E s:=
 yN I hN hi hx r (λs' I' _=>h s' I') hf
theorem ah.call'{s':VN}{ch:List VM}(I:ah X Xl σ H s)(ho:s'.os=s.os)(u:Un (gh X.stack) ch H H' s.heap s'.heap)(hok:bQ X.prog X.w H' s'.heap)(hg:WY s'.gens)
 (hch:∀b∈ch,(b∈X.ex\/X.s₀.heap.objs.size<=b)/\b≠X.env.locals/\(∀x c,X.env.cells.lookup x=some c->c≠b)/\∀p∈X.pn++Xl,p.1≠b):ah X Xl σ H' s':=by
 obtain⟨h',g',d',t',o'⟩:=s';have e:o'=s.os:=ho;subst e;exact I.call (g':=g') (t':=t') (d':=d') u hok hg hch
end
abbrev XK:=VJ->Option VM->Hp->Prop
abbrev St:=List (Option V)
abbrev VK:=V->Hp->Prop
abbrev TE:=St->Hp->VK->Prop
abbrev TT:=St->Hp->(Bool->Hp->Prop)->Prop
abbrev TA:=St->Hp->(List V->Hp->Prop)->Prop
structure jT where
 nx:St->Hp->Prop
 rt:VK
 bk:St->Hp->Prop:=λ_ _=>False
 ct:St->Hp->Prop:=λ_ _=>False
abbrev TS:=jT->St->Hp->Prop
def EP(X:Cx)(Xl:List (VM×Obj))(σ:St)(Q:VK)(u:VJ)(s':VN):Prop:=∃v H',ah X Xl σ H' s'/\aO v u/\Q v H'
def TP(X:Cx)(Xl:List (VM×Obj))(σ:St)(Q:Bool->Hp->Prop)(b:Bool)(s':VN):Prop:=∃H',ah X Xl σ H' s'/\Q b H'
def AP(X:Cx)(Xl:List (VM×Obj))(σ:St)(Q:List V->Hp->Prop)(us:List VJ)(s':VN):Prop:=∃vs H',ah X Xl σ H' s'/\aP vs us/\Q vs H'
def SP(X:Cx)(Xl:List (VM×Obj))(D:jT)(f:Flow)(s':VN):Prop:=
 match f with
 | .next=>∃σ' H',ah X Xl σ' H' s'/\D.nx σ' H'
 | .brk=>∃σ' H',ah X Xl σ' H' s'/\D.bk σ' H'
 | .cont=>∃σ' H',ah X Xl σ' H' s'/\D.ct σ' H'
 | .ret u=>∃v σ' H',ah X Xl σ' H' s'/\aO v u/\D.rt v H'
def PE(X:Cx)(e:VT)(t:TE):Prop:=
 ∀(Xl:List (VM×Obj))(s:VN)(σ:St)(H:Hp)(Q:VK),ah X Xl σ H s->t σ H Q->VR (VS X.prog X.w) X.A (eval e X.env) (EP X Xl σ Q) X.xe s
def PT(X:Cx)(e:VT)(t:TT):Prop:=
 ∀(Xl:List (VM×Obj))(s:VN)(σ:St)(H:Hp)(Q:Bool->Hp->Prop),ah X Xl σ H s->t σ H Q->VR (VS X.prog X.w) X.A (isTrue e X.env (eval e X.env)) (TP X Xl σ Q) X.xe s
def PW(X:Cx)(e:VT)(t:TT):Prop:=
 ∀(whole:Sem VJ)(Xl:List (VM×Obj))(s:VN)(σ:St)(H:Hp)(Q:Bool->Hp->Prop),ah X Xl σ H s->t σ H Q->VR (VS X.prog X.w) X.A (isTrue e X.env whole) (TP X Xl σ Q) X.xe s
theorem PW.pt{X:Cx}{e:VT}{t:TT}(h:PW X e t):PT X e t:=h _
def PA(X:Cx)(es:List VT)(t:TA):Prop:=
 ∀(pos:Pos)(Xl:List (VM×Obj))(s:VN)(σ:St)(H:Hp)(Q:List V->Hp->Prop),ah X Xl σ H s->t σ H Q->VR (VS X.prog X.w) X.A (spliced (V4 pos (VQ es X.env))) (AP X Xl σ Q) X.xe s
def PS(X:Cx)(st:VZ)(t:TS):Prop:=
 ∀(Xl:List (VM×Obj))(s:VN)(σ:St)(H:Hp)(D:jT),ah X Xl σ H s->t D σ H->VR (VS X.prog X.w) X.A (exec st X.env) (SP X Xl D) X.xe s
def bX(X:Cx)(st:List VZ)(t:TS):Prop:=
 ∀(Xl:List (VM×Obj))(s:VN)(σ:St)(H:Hp)(D:jT),ah X Xl σ H s->t D σ H->VR (VS X.prog X.w) X.A (execs st X.env) (SP X Xl D) X.xe s
theorem aG{α:Type}{t:Sem α}{Q Q':α->VN->Prop}{M:Model}{A:V0}{E:VJ->VN->Prop}{s:VN}(h:VR M A t Q E s)(hQ:∀a s,Q a s->Q' a s):VR M A t Q' E s:=V8 h hQ λ_ _ x=>x
section
variable {X:Cx}
theorem N7{a b:VT}{ta tb:TE}(ha:PE X a ta)(hb:PE X b tb){Xl:List (VM×Obj)}{s:VN}{σ:St}{H:Hp}{R:V->V->Hp->Prop}(I:ah X Xl σ H s)(h:ta σ H λx H1=>tb σ H1 λy H2=>R x y H2)
 {α:Type}{Q:α->VN->Prop}{f:VJ->VJ->Sem α}
 (hf:∀v u s2 x y H2,ah X Xl σ H2 s2->aO x v->aO y u->R x y H2->VR (VS X.prog X.w) X.A (f v u) Q X.xe s2):
 VR (VS X.prog X.w) X.A (eval a X.env) (λv s₁=>VR (VS X.prog X.w) X.A (eval b X.env) (λu s₂=>VR (VS X.prog X.w) X.A (f v u) Q X.xe s₂) X.xe s₁) X.xe s:=by
 refine aG (ha Xl s σ H _ I h) λv s1 ⟨x,H1,I1,r1,q1⟩=>?_;refine aG (hb Xl s1 σ H1 _ I1 q1) λu s2 ⟨y,H2,I2,r2,q2⟩=>?_;exact hf v u s2 x y H2 I2 r1 r2 q2
def dh(i:Nat):TE:=λσ H Q=>∃v,σ[i]?=some (some v)/\Q v H
def tC(v:V):TE:=λ_ H Q=>Q v H
theorem vk{i:Nat}{x:Str}{pos:Pos}(hN:X.N[i]?=some x)(hv:sf X.env.scope x)(hd:(x==("__debug__":Str))=false:=by decide)(hcd:(x==("__classdict__":Str))=false:=by decide):PE X (.Name x pos) (dh i):=by
 intro Xl s σ H Q I h;obtain⟨v,e,h⟩:=h;obtain⟨m,hn,hl⟩:=I.loc;obtain⟨u,r,l⟩:=hl i x v hN e hv;have fin:EP X Xl σ Q u s:=⟨v,H,I,r,h⟩;rcases l with⟨hk,hm⟩ | ⟨hk,c,hc,hcell⟩
 ·exact wpAny_Name (wpAny_loadName_local I.ok.kind hk hn hm fin) hd
 ·rcases hk with hk | hk
  ·exact wpAny_Name (wpAny_loadName_cell I.ok.kind hk hc hcell fin) hd
  ·exact wpAny_Name (wpAny_loadName_free I.ok.kind hk hc hcell fin hcd) hd
theorem bR{i j pos}:PE X (.Constant (.int i) j pos) (tC (.int i)):=λ_ _ _ H _ I h=>wpAny_Constant_int ⟨.int i,H,I.tok _,⟨_,rfl⟩,h⟩
theorem yP{b j pos}:PE X (.Constant (.bool b) j pos) (tC (.bl b)):=λ_ _ _ H _ I h=>Constant_bool ⟨.bl b,H,I,rfl,h⟩
theorem Fd{j pos}:PE X (.Constant .none j pos) (tC .non):=λ_ _ _ H _ I h=>Constant_none ⟨.non,H,I,rfl,h⟩
theorem vo{x j pos}:PE X (.Constant (.str x) j pos) (tC (.str x)):=λ_ _ _ H _ I h=>Calls.Constant_str ⟨.str x,H,I.tok _,⟨_,rfl⟩,h⟩
def Gl(X:Cx)(x:Str):Prop:=X.env.kindOf x=some .globalImplicit
theorem sg{E:VJ->VN->Prop}{Xl:List (VM×Obj)}{s:VN}{σ:St}{H:Hp}{x:Str}{u:VJ}{pos:Pos}{Q:VJ->VN->Prop}(I:ah X Xl σ H s)(hg:Gl X x)(hm:X.mg x=some u)(h:Q u s)
 (hd:(x==("__debug__":Str))=false:=by decide):VR (VS X.prog X.w) X.A (eval (.Name x pos) X.env) Q E s:=
 Te I.ok.kind hg (Calls.loadGlobal_global (by rw [I.ok.glob];exact I.mod.glob.keeps I.bk) hm h) hd
theorem oB{E:VJ->VN->Prop}{Xl:List (VM×Obj)}{s:VN}{σ:St}{H:Hp}{x:Str}{u:VJ}{pos:Pos}{Q:VJ->VN->Prop}(I:ah X Xl σ H s)(hg:Gl X x)(hm:X.mg x=none)(hv:V1 x=some u)(h:Q u s)
 (hn:x≠"__name__":=by decide)(hd:(x==("__debug__":Str))=false:=by decide):VR (VS X.prog X.w) X.A (eval (.Name x pos) X.env) Q E s:=by
 obtain⟨mb,h1,h2⟩:=I.mod.blt;exact Te I.ok.kind hg (Calls.loadGlobal_builtin (by rw [I.ok.glob];exact I.mod.glob.keeps I.bk) hm (by rw [I.ok.blt];exact h1.keeps I.bk) ((h2 x hn).trans hv) h) hd
theorem qG{x:Str}{v:V}{u:VJ}{pos:Pos}(hg:Gl X x)(hm:X.mg x=some u)(r:aO v u)(hd:(x==("__debug__":Str))=false:=by decide):PE X (.Name x pos) (tC v):=
 λ_ _ _ H _ I h=>sg I hg hm ⟨v,H,I,r,h⟩ hd
theorem lJ{x:Str}{v:V}{u:VJ}{pos:Pos}(hg:Gl X x)(hm:X.mg x=none)(hv:V1 x=some u)(r:aO v u)(hn:x≠"__name__":=by decide)(hd:(x==("__debug__":Str))=false:=by decide):PE X (.Name x pos) (tC v):=
 λ_ _ _ H _ I h=>oB I hg hm hv ⟨v,H,I,r,h⟩ hn hd
variable {a b:VT} {ta tb:TE} {pos:Pos}
def PC(X:Cx)(op:CmpOp)(a b:VT)(t:TE):Prop:=
 ∀(Xl:List (VM×Obj))(s:VN)(σ:St)(H:Hp)(Q:VK),ah X Xl σ H s->t σ H Q->
  VR (VS X.prog X.w) X.A (eval a X.env) (λv s₁=>VR (VS X.prog X.w) X.A (eval b X.env) (λu s₂=>VR (VS X.prog X.w) X.A (V6 op v u) (EP X Xl σ Q) X.xe s₂) X.xe s₁) X.xe s
theorem Fe(b:VT){op:CmpOp}(h:op≠ .In)(h2:op≠ .NotIn):Wf op b=false:=by
 have e1:(op==CmpOp.In)=false:=by cases op <;> first | rfl | exact absurd rfl h
 have e2:(op==Vs)=false:=by cases op <;> first | rfl | exact absurd rfl h2
 cases b <;> simp [Wf,e1,e2]
def yQ(ta:TE):TE:=λσ H Q=>ta σ H λx H1=>Q (.bl (!decide (x= .non))) H1
theorem aO.none_iff{x:V}{v:VJ}(r:aO x v):(v==QI)=decide (x= .non):=by
 cases x with
 | non=>cases r;rfl
 | bl _=>cases r;rfl
 | int _=>obtain⟨t,rfl⟩:=r;rfl
 | str _=>obtain⟨t,rfl⟩:=r;rfl
 | byt _=>obtain⟨t,rfl⟩:=r;rfl
 | flt _=>obtain⟨t,rfl⟩:=r;rfl
 | ref _=>cases r;rfl
 | ty _=>cases r;rfl
theorem Ff{j pos'}(ha:PE X a ta):PC X .IsNot a (.Constant .none j pos') (yQ ta):=by
 intro Xl s σ H Q I h;refine aG (ha Xl s σ H _ I h) λv s1 ⟨x,H1,I1,r1,q1⟩=>?_;exact Constant_none (isnot_none_gen ⟨.bl _,H1,I1,by rw [r1.none_iff];rfl,q1⟩)
def tB(t:TE):TT:=λσ H Q=>t σ H λx H1=>∃c,x= .bl c/\Q c H1
theorem tF{op:CmpOp}{t:TE}(h:PC X op a b t)(h1:Wf op b=false:=by first | exact Fe _ VC VC | rfl):PT X (.Compare a [op] [b] pos) (tB t):=by
 intro Xl s σ H Q I hw;refine wpAny_isTrue_Compare1 (aG (h Xl s σ H _ I hw) λv s1 h1=>aG h1 λu s2 h2=>aG h2 λc s3 ⟨x,H1,I1,r1,q1⟩=>?_) h1;obtain⟨d,rfl,q⟩:=q1;cases r1;exact Wc ⟨H1,I1,q⟩
theorem yR{e:VT}{t:TE}(h:PE X e t)(he:∀whole,isTrue e X.env whole=(do let v<-whole;WZ e.pos;WR [v] (truthy v)):=by intro _;rfl):PT X e (tB t):=by
 intro Xl s σ H Q I hw;refine isTrue_plain (aG (h Xl s σ H _ I hw) λv s1 ⟨x,H1,I1,r1,q1⟩=>?_) (he _);obtain⟨d,rfl,q⟩:=q1;cases r1;exact Wc ⟨H1,I1,q⟩
variable {tA tB':TT} {rest:List VT}
def yS(t u:TT):TT:=λσ H Q=>t σ H λc H1=>if c=true then u σ H1 Q else Q false H1
def yT(t u:TT):TT:=λσ H Q=>t σ H λc H1=>if c=true then Q true H1 else u σ H1 Q
def yU(t:TT):TT:=λσ H Q=>t σ H λc H1=>Q (!c) H1
theorem yV(ha:PT X a tA):PW X (.BoolOp .And [a] pos) tA:=by
 intro wh Xl s σ H Q I h;refine isTrue_and (aG (ha Xl s σ H Q I h) λc s1 e=>?_);cases c with
 | true=>exact isTrue_and_nil e
 | false=>exact e
theorem Fg(ha:PT X a tA):PW X (.BoolOp .Or [a] pos) tA:=by
 intro wh Xl s σ H Q I h;refine isTrue_or (aG (ha Xl s σ H Q I h) λc s1 e=>?_);cases c with
 | false=>exact isTrue_or_nil e
 | true=>exact e
theorem yW(ha:PT X a tA)(hb:PW X (.BoolOp .And (b::rest) pos) tB'):PW X (.BoolOp .And (a::b::rest) pos) (yS tA tB'):=by
 intro wh Xl s σ H Q I h;refine isTrue_and (aG (ha Xl s σ H _ I h) λc s1 ⟨H1,I1,q1⟩=>?_);cases c with
 | true=>exact hb wh Xl s1 σ H1 Q I1 q1
 | false=>exact⟨H1,I1,q1⟩
theorem Fh(ha:PT X a tA)(hb:PW X (.BoolOp .Or (b::rest) pos) tB'):PW X (.BoolOp .Or (a::b::rest) pos) (yT tA tB'):=by
 intro wh Xl s σ H Q I h;refine isTrue_or (aG (ha Xl s σ H _ I h) λc s1 ⟨H1,I1,q1⟩=>?_);cases c with
 | true=>exact⟨H1,I1,q1⟩
 | false=>exact hb wh Xl s1 σ H1 Q I1 q1
theorem Fi(ha:PT X a tA):PT X (.UnaryOp .Not a pos) (yU tA):=by
 intro Xl s σ H Q I h;exact isTrue_not (ha Xl s σ H (λc H1=>Q (!c) H1) I h)
def yX(ta tb:TE):TE:=λσ H Q=>ta σ H λx H1=>∃c,x= .bl c/\if c=true then tb σ H1 Q else Q (.bl false) H1
def yY(ta tb:TE):TE:=λσ H Q=>ta σ H λx H1=>∃c,x= .bl c/\if c=true then Q (.bl true) H1 else tb σ H1 Q
def yZ(ta:TE):TE:=λσ H Q=>ta σ H λx H1=>∃c,x= .bl c/\Q (.bl (!c)) H1
theorem vp{op}{t:TE}(h:PE X a t):PE X (.BoolOp op [a] pos) t:=λXl s σ H Q I hw=>BoolOp_one (h Xl s σ H Q I hw)
theorem y9(ha:PE X a ta)(hb:PE X (.BoolOp .And (b::rest) pos) tb):PE X (.BoolOp .And (a::b::rest) pos) (yX ta tb):=by
 intro Xl s σ H Q I h;refine BoolOp_and (aG (ha Xl s σ H _ I h) λv s1 ⟨x,H1,I1,r1,q1⟩=>?_);obtain⟨c,rfl,q1⟩:=q1;cases r1;refine Wc ?_;cases c with
 | true=>exact hb Xl s1 σ H1 Q I1 q1
 | false=>exact⟨.bl false,H1,I1,rfl,q1⟩
theorem za(ha:PE X a ta)(hb:PE X (.BoolOp .Or (b::rest) pos) tb):PE X (.BoolOp .Or (a::b::rest) pos) (yY ta tb):=by
 intro Xl s σ H Q I h;refine BoolOp_or (aG (ha Xl s σ H _ I h) λv s1 ⟨x,H1,I1,r1,q1⟩=>?_);obtain⟨c,rfl,q1⟩:=q1;cases r1;refine Wc ?_;cases c with
 | false=>exact hb Xl s1 σ H1 Q I1 q1
 | true=>exact⟨.bl true,H1,I1,rfl,q1⟩
theorem Fj(ha:PE X a ta):PE X (.UnaryOp .Not a pos) (yZ ta):=by
 intro Xl s σ H Q I h;refine UnaryOp_ (aG (ha Xl s σ H _ I h) λv s1 ⟨x,H1,I1,r1,q1⟩=>?_);obtain⟨c,rfl,q1⟩:=q1;cases r1;exact not_of (Wc ⟨.bl (!c),H1,I1,rfl,q1⟩)
def zb(t:TT)(ta tb:TE):TE:=λσ H Q=>t σ H λc H1=>if c=true then ta σ H1 Q else tb σ H1 Q
theorem zc{c:VT}(hc:PT X c tA)(ha:PE X a ta)(hb:PE X b tb):PE X (.IfExp c a b pos) (zb tA ta tb):=by
 intro Xl s σ H Q I h;refine wpAny_IfExp (aG (hc Xl s σ H _ I h) λd s1 ⟨H1,I1,q1⟩=>?_);cases d with
 | true=>exact ha Xl s1 σ H1 Q I1 q1
 | false=>exact hb Xl s1 σ H1 Q I1 q1
end
def bu(K:Og)(H:Hp)(a:VM)(xs:List V):Prop:=
 Rd H a (.lst xs)\/
  ∃(o:Obj)(its:Array VJ)(n:Nat),K.lookup a=some o/\o.cls= .type "list"/\o.dict=none/\o.data= .seq its n/\its.size<=VV/\aP xs its.toList
def bC(K:Og)(H:Hp)(a:VM)(xs:List V):Prop:=
 Rd H a (.tup xs)\/
  ∃(o:Obj)(its:Array VJ)(n:Nat),K.lookup a=some o/\o.cls= .type "tuple"/\o.data= .seq its n/\its.size<=VV/\aP xs its.toList
def Fl:VJ->Option V
 | .none=>some .non
 | .bool b=>some (.bl b)
 | .int i _=>some (.int i)
 | .str x _=>some (.str x)
 | .bytes b _=>some (.byt b)
 | .float b _=>some (.flt b)
 | .ref a=>some (.ref a)
 | .type n=>some (.ty n)
 | _=>none
theorem aO.abs{x:V}{u:VJ}(r:aO x u):Fl u=some x:=by
 cases x with
 | non=>cases r;rfl
 | bl _=>cases r;rfl
 | int _=>obtain⟨t,rfl⟩:=r;rfl
 | str _=>obtain⟨t,rfl⟩:=r;rfl
 | byt _=>obtain⟨t,rfl⟩:=r;rfl
 | flt _=>obtain⟨t,rfl⟩:=r;rfl
 | ref _=>cases r;rfl
 | ty _=>cases r;rfl
theorem aO.inj{x y:V}{u:VJ}(r:aO x u)(q:aO y u):x=y:=Ph (r.abs.symm.trans q.abs)
theorem aP.inj:∀{xs ys:List V}{us:List VJ},aP xs us->aP ys us->xs=ys
 | _,_,_,.nil,.nil=>rfl
 | _,_,_,.cons r t,.cons r' t'=>by rw [r.inj r',aP.inj t t']
section
variable {X:Cx} {Xl:List (VM×Obj)} {σ:St} {H:Hp} {s:VN} {a:VM} {xs ys:List V}
theorem bu.of{K:Og}(h:H a=some (.lst xs)):bu K H a xs:= .inl (.inl h)
theorem bC.of{K:Og}(h:H a=some (.tup xs)):bC K H a xs:= .inl (.inl h)
theorem ah.list(I:ah X Xl σ H s)(h:bu X.K H a xs):∃its:List VJ,aP xs its/\PlainL s.heap a its.toArray/\xs.length<=VV:=by
 rcases h with h | ⟨o,its,n,hk,hc,hd,hs,hz,r⟩
 ·obtain⟨z,its,n,r,e⟩:=h.ok I.hok;exact⟨its,r,⟨_,n,e,rfl,rfl,rfl⟩,z⟩
 ·refine⟨its.toList,r,⟨o,n,I.kIn a o hk,hc,hd,by simpa using hs⟩,?_⟩;have e:=r.length;simp only [O3] at e;omega
theorem ah.tuple(I:ah X Xl σ H s)(h:bC X.K H a xs):∃its:List VJ,aP xs its/\IsTup s.heap a its.toArray/\xs.length<=VV:=by
 rcases h with h | ⟨o,its,n,hk,hc,hs,hz,r⟩
 ·obtain⟨z,its,r,p⟩:=h.ok I.hok;exact⟨its,r,p,z⟩
 ·refine⟨its.toList,r,⟨o,I.kIn a o hk,hc,n,by simpa using hs⟩,?_⟩;have e:=r.length;simp only [O3] at e;omega
theorem ah.list_inj(I:ah X Xl σ H s)(h:bu X.K H a xs)(h':bu X.K H a ys):xs=ys:=by
 obtain⟨its,r,⟨o,n,e,_,_,d⟩,_⟩:=I.list h;obtain⟨its',r',⟨o',n',e',_,_,d'⟩,_⟩:=I.list h';rw [e] at e';cases e';rw [d] at d';injection d' with d1 _
 have:its=its':=by simpa using congrArg Vk d1
 subst this;exact r.inj r'
theorem ah.tuple_inj(I:ah X Xl σ H s)(h:bC X.K H a xs)(h':bC X.K H a ys):xs=ys:=by
 obtain⟨its,r,⟨o,e,_,n,d⟩,_⟩:=I.tuple h;obtain⟨its',r',⟨o',e',_,n',d'⟩,_⟩:=I.tuple h';rw [e] at e';cases e';rw [d] at d';injection d' with d1 _
 have:its=its':=by simpa using congrArg Vk d1
 subst this;exact r.inj r'
end
abbrev Cx.wish(X:Cx)(E:VJ->VN->Prop):Cx:={X with xe:=E}
abbrev Cx.nox(X:Cx):Cx:=X.wish λ_ _=>False
theorem Cx.Ok.wish{X:Cx}(ok:X.Ok)(E:VJ->VN->Prop):(X.wish E).Ok:=
 ⟨ok.mod,ok.kind,ok.glob,ok.blt,ok.above,ok.inj,ok.has,ok.cab,ok.hd,ok.frames,ok.stk,ok.exf,ok.bs,ok.bsz,ok.noex,ok.exfs,ok.funs,ok.frf⟩
theorem Cx.Ok.unwish{X:Cx}{E:VJ->VN->Prop}(ok:(X.wish E).Ok):X.Ok:=
 ⟨ok.mod,ok.kind,ok.glob,ok.blt,ok.above,ok.inj,ok.has,ok.cab,ok.hd,ok.frames,ok.stk,ok.exf,ok.bs,ok.bsz,ok.noex,ok.exfs,ok.funs,ok.frf⟩
section
variable {X:Cx} {Xl:List (VM×Obj)} {σ:St} {H:Hp} {s:VN} {E:VJ->VN->Prop}
theorem ah.wish(I:ah X Xl σ H s)(E:VJ->VN->Prop):ah (X.wish E) Xl σ H s:=⟨I.ok.wish E,I.os,I.bare,I.base,I.loc,I.cell,I.free,I.freeC,I.pin,I.hok,I.len⟩
theorem ah.unwish(I:ah (X.wish E) Xl σ H s):ah X Xl σ H s:=⟨I.ok.unwish,I.os,I.bare,I.base,I.loc,I.cell,I.free,I.freeC,I.pin,I.hok,I.len⟩
theorem SP.unwish{D:jT}{f:Flow}{s':VN}(h:SP (X.wish E) Xl D f s'):SP X Xl D f s':=by
 cases f with
 | next=>obtain⟨σ',H',I,q⟩:=h;exact⟨σ',H',I.unwish,q⟩
 | brk=>obtain⟨σ',H',I,q⟩:=h;exact⟨σ',H',I.unwish,q⟩
 | cont=>obtain⟨σ',H',I,q⟩:=h;exact⟨σ',H',I.unwish,q⟩
 | ret u=>obtain⟨v,σ',H',I,r,q⟩:=h;exact⟨v,σ',H',I.unwish,r,q⟩
theorem bX.nox{st:List VZ}{t:TS}(h:bX X.nox st t):bX X st t:=λXl s σ H D I hw=>
 V8 (h Xl s σ H D (I.wish _) hw) (λ_ _ q=>q.unwish) λ_ _ z=>Qq z
end
section
variable {X:Cx} {st:VZ} {rest:List VZ} {t u:TS} {e:VT} {te:TE} {pos:Pos}
def zd:TS:=λD σ H=>D.nx σ H
def vq(t u:TS):TS:=λD σ H=>t {D with nx:=u D} σ H
theorem qH:bX X [] zd:=λ_ _ σ H _ I h=>W3 ⟨σ,H,I,h⟩
theorem di(h1:PS X st t)(h2:bX X rest u):bX X (st::rest) (vq t u):=by
 intro Xl s σ H D I h;refine wpAny_execs_cons (aG (h1 Xl s σ H {D with nx:=u D} I h) λf s1 q=>?_);cases f with
 | next=>
  obtain⟨σ',H',I',q⟩:=q;exact h2 Xl s1 σ' H' D I' q
 | ret v=>exact q
 | brk=>exact q
 | cont=>exact q
theorem eX(h1:PS X st t):bX X [st] t:=by
 intro Xl s σ H D I h;refine wpAny_execs_cons (aG (h1 Xl s σ H D I h) λf s1 q=>?_);cases f with
 | next=>exact W3 q
 | ret v=>exact q
 | brk=>exact q
 | cont=>exact q
theorem ah.quiet{Xl:List (VM×Obj)}{σ:St}{H:Hp}{s:VN}(I:ah X Xl σ H s):interactive X.env=false:=by simp [interactive,I.ok.kind]
def ze(te:TE):TS:=λD σ H=>te σ H λ_ H1=>D.nx σ H1
theorem tG(he:PE X e te)(hs:V5 e none pos.line X.env=pure false:=by rfl):PS X (.Expr e pos) (ze te):=by
 intro Xl s σ H D I h;exact wpAny_Expr_any (aG (he Xl s σ H _ I h) λv s1 uu13=>by obtain⟨x,H1,I1,r1,q1⟩:=uu13;exact⟨σ,H1,I1,q1⟩) I.quiet hs
def zf(te:TE):TS:=λD σ H=>te σ H D.rt
theorem fL(he:PE X e te):PS X (.Return (some e) pos) (zf te):=by
 intro Xl s σ H D I h;exact wpAny_Return_some (aG (he Xl s σ H _ I h) λv s1 uu14=>by obtain⟨x,H1,I1,r1,q1⟩:=uu14;exact⟨x,σ,H1,I1,r1,q1⟩)
def zg(c:TT)(t u:TS):TS:=λD σ H=>c σ H λb H1=>if b=true then t D σ H1 else u D σ H1
theorem qI{c:VT}{a b:List VZ}{tc:TT}(hc:PT X c tc)(ha:bX X a t)(hb:bX X b u):PS X (.If c a b pos) (zg tc t u):=by
 intro Xl s σ H D I h;refine wpAny_If (aG (hc Xl s σ H _ I h) λd s1 ⟨H1,I1,q1⟩=>?_);cases d with
 | true=>exact ha Xl s1 σ H1 D I1 q1
 | false=>exact hb Xl s1 σ H1 D I1 q1
def Fm:TS:=λ_ _ _=>False
theorem Fn:PS X st Fm:=λ_ _ _ _ _ _ h=>h.elim
end
abbrev TG:=V->St->Hp->(St->Hp->Prop)->Prop
abbrev iP:=List V->St->Hp->(St->Hp->Prop)->Prop
def PG(X:Cx)(target:VT)(t:TG):Prop:=
 ∀(Xl:List (VM×Obj))(s:VN)(σ:St)(H:Hp)(v:V)(u:VJ)(Q:St->Hp->Prop),ah X Xl σ H s->aO v u->t v σ H Q->
  VR (VS X.prog X.w) X.A (assign target X.env u) (λ_ s'=>∃σ' H',ah X Xl σ' H' s'/\Q σ' H') X.xe s
def tH(X:Cx)(ts:List VT)(t:iP):Prop:=
 ∀(Xl:List (VM×Obj))(s:VN)(σ:St)(H:Hp)(vs:List V)(us:List VJ)(Q:St->Hp->Prop),ah X Xl σ H s->aP vs us->t vs σ H Q->
  VR (VS X.prog X.w) X.A (assignInOrder ((WS ts X.env).map (·.2)) us) (λ_ s'=>∃σ' H',ah X Xl σ' H' s'/\Q σ' H') X.xe s
section
variable {X:Cx} {pos:Pos}
def iQ(i:Nat):TG:=λv σ H Q=>Q (σ.set i (some v)) H
theorem aM{i:Nat}{x:Str}(hN:X.N.Nodup)(hi:X.N[i]?=some x)(hx:gK X.env.scope x)(hf:X.fn x=true\/X.env.scope.names.lookup x=some .local:=by first | exact .inl rfl | exact .inr rfl | assumption):PG X (.Name x pos) (iQ i):=by
 intro Xl s σ H v u Q I r h;exact wpAny_assign_Name (yO I hN hi hx r (λs' I'=>⟨_,H,I',h⟩) hf)
def tI:iP:=λvs σ H Q=>vs=[]/\Q σ H
def sh(t:TG)(u:iP):iP:=λvs σ H Q=>∃v r,vs=v::r/\t v σ H λσ' H'=>u r σ' H' Q
theorem gi:tH X [] tI:=by
 intro Xl s σ H vs us Q I r h;obtain⟨e,h⟩:=h;subst e;cases r;exact assignInOrder_nil ⟨σ,H,I,h⟩
theorem b0{e:VT}{es:List VT}{t:TG}{u:iP}(h1:PG X e t)(h2:tH X es u)
 (hs:(WS (e::es) X.env).map (·.2)=assign e X.env::(WS es X.env).map (·.2):=by rfl):tH X (e::es) (sh t u):=by
 intro Xl s σ H vs us Q I r h;obtain⟨v,vr,e1,h⟩:=h;subst e1;cases r with
 | cons r rr=>
  rw [hs];refine assignInOrder_cons (aG (h1 Xl s σ H _ _ _ I r h) λ_ s1 ⟨σ1,H1,I1,q1⟩=>?_);exact h2 Xl s1 σ1 H1 _ _ Q I1 rr q1
def tJ(K:Og)(n:Nat)(t:iP):TG:=λv σ H Q=>∃a xs,v= .ref a/\bC K H a xs/\xs.length=n/\t xs σ H Q
theorem gj{es:List VT}{k:Nat}{t:iP}{n:Nat}(hc:X.calm=true)(h:tH X es t)
 (hn:(WS es X.env).length=n:=by rfl)(hst:(WS es X.env).findIdx? (·.1)=none:=by rfl):PG X (.Tuple es k pos) (tJ X.K n t):=by
 intro Xl s σ H v u Q I r hw;obtain⟨a,xs,e1,hq,hl,hw⟩:=hw;subst e1;cases r;obtain⟨its,rv,ht,hz⟩:=I.tuple hq;refine assign_Tuple_tuple (I.ok.hd hc) ht (by simp [hn,<-hl,rv.length]) hst λh' hx=>?_;have I1:ah X Xl σ H {s with heap:=h'}:=I.kept (t':=s.toks) λb o e=>hx b o (O6 (OM e)) e;exact h Xl _ σ H xs _ Q I1 (by simpa using rv) hw
def sj(te:TE)(g:TG):TS:=λD σ H=>te σ H λx H1=>g x σ H1 D.nx
theorem Fo{tg e:VT}{te:TE}{g:TG}(he:PE X e te)(hg:PG X tg g)(hs:swapsWithSole [tg] e pos.line X.env=pure false:=by rfl)(hw:swappedStores [tg] e X.env=pure none:=by rfl)
 (h1:(WS [tg] X.env).map (·.2)=[assign tg X.env]:=by rfl):PS X (.Assign [tg] e pos) (sj te g):=by
 intro Xl s σ H D I h;refine wpAny_Assign_stores (aG (he Xl s σ H _ I h) λv s1 ⟨x,H1,I1,r1,q1⟩=>?_) hs hw;rw [h1];exact aG (hg Xl s1 σ H1 x v _ I1 r1 q1) λ_ s2 q=>q
theorem eJ{i:Nat}{x:Str}{e:VT}{te:TE}{pos':Pos}(hN:X.N.Nodup)(hi:X.N[i]?=some x)(hx:gK X.env.scope x)(he:PE X e te)(hs:V5 e (some (.Name x pos')) pos.line X.env=pure false:=by rfl)(hf:X.fn x=true\/X.env.scope.names.lookup x=some .local:=by first | exact .inl rfl | exact .inr rfl | assumption):
 PS X (.Assign [.Name x pos'] e pos) (sj te (iQ i)):=by
 intro Xl s σ H D I h;refine wpAny_Assign_Name (aG (he Xl s σ H _ I h) λv s1 ⟨y,H1,I1,r1,q1⟩=>?_) hs;exact yO I1 hN hi hx r1 (λs2 I2=>⟨_,H1,I2,q1⟩) hf
def Fp(c:TT)(tb:TS):TS:=λD σ H=>∃W:Nat->St->Hp->Prop,(∃m,W m σ H)/\∀m σ H,W m σ H->
 c σ H λb H1=>if b=true then ∃N:St->Hp->Prop,(∀σ' H',N σ' H'->∃m',m' < m/\W m' σ' H')/\tb {D with nx:=N,ct:=N,bk:=D.nx} σ H1 else D.nx σ H1
theorem zh{c:VT}{body:List VZ}{tc:TT}{tb:TS}(hp:WO (VS X.prog X.w) X.A X.env X.xe)(hc:PT X c tc)(hb:bX X body tb):PS X (.While c body [] pos) (Fp tc tb):=by
 intro Xl s σ H D I h;obtain⟨W,⟨m0,w0⟩,turn⟩:=h;refine wpAny_While (codeAny_whileLoop (λn s'=>∃σ' H',ah X Xl σ' H' s'/\W n σ' H') ?_ m0 ⟨σ,H,I,w0⟩);rintro n s1 ⟨σ1,H1,I1,w1⟩;refine Ws hp (aG (hc Xl s1 σ1 H1 _ I1 (turn n σ1 H1 w1)) λb s2 ⟨H2,I2,q2⟩=>?_);cases b with
 | true=>
  obtain⟨N,hN,q2⟩:=q2;rw [VF rfl];refine Ws hp (aG (hb Xl s2 σ1 H2 _ I2 q2) λf s3 q3=>?_);cases f with
  | next=>
   obtain⟨σ3,H3,I3,n3⟩:=q3;obtain⟨m',hm,w3⟩:=hN σ3 H3 n3;exact⟨m',hm,σ3,H3,I3,w3⟩
  | cont=>
   obtain⟨σ3,H3,I3,n3⟩:=q3;obtain⟨m',hm,w3⟩:=hN σ3 H3 n3;exact⟨m',hm,σ3,H3,I3,w3⟩
  | brk=>exact q3
  | ret v=>exact q3
 | false=>
  rw [VE Ot];exact W3 ⟨σ1,H2,I2,q2⟩
end
structure It where
 go:Nat->Hp->Prop
 yld:Nat->Hp->V->Hp->Prop
 stop:Nat->Hp->Prop
def h7(X:Cx)(Xl:List (VM×Obj))(H:Hp)(b:VM):Prop:=
 H b=none/\b≠X.env.locals/\b ∉ X.fs/\(b∈X.ex\/X.s₀.heap.objs.size<=b)/\(∀x c,X.env.cells.lookup x=some c->c≠b)/\∀p∈X.pn++Xl,p.1≠b
theorem ah.fpOk{X:Cx}{Xl:List (VM×Obj)}{σ:St}{H H':Hp}{s:VN}{b:VM}(I:ah X Xl σ H s)(hb:s.heap.objs.size<=b)(hn:H' b=none):h7 X Xl H' b:=by
 refine⟨hn,R1 (PB I.lt hb),I.nofs hb,.inr (O7 I.sz hb),λx c e z=>?_,λp hp z=>?_⟩
 ·obtain⟨v,q⟩:=I.cell x c e;exact absurd (PB q.lt (by rw [z];exact hb)) (QJ _)
 ·exact absurd (PB (OM (I.pin p hp).1) (by rw [z];exact hb)) (QJ _)
structure sk (P:VW) (w:VX) (K:Og) (tg:VT) (J:It) (fp:List VM) (it:VM) (tn:Nat->VY->Prop):Prop where
 mem:it∈fp
 obj:∀i h,tn i h->∀b∈fp,∃o,h.get? b=some o/\∀v,o.data≠ .cell v
 keep:∀i h h',tn i h->(∀b∈fp,∀o,h.get? b=some o->h'.get? b=some o)->tn i h'
 item:∀(X:Cx),X.prog=P->X.w=w->X.K=K->X.calm=true->∀(i:Nat)(Xl:List (VM×Obj))(s:VN)(σ:St)(H:Hp)(E:VJ->VN->Prop),ah X Xl σ H s->(∀b∈fp,h7 X Xl H b)->tn i s.heap->J.go i H->
  VR (VS P w) X.A (WH (.ref it)) (λr s1=>∃u,r=some u/\
   VR (VS P w) X.A (W4 tg (.ref it) u) (λ_ s2=>∃x H',ah X Xl σ H' s2/\aO x u/\J.yld i H x H'/\tn (i+1) s2.heap/\∀b∈fp,H' b=none) E s1) E s
 done:∀(X:Cx),X.prog=P->X.w=w->X.K=K->X.calm=true->∀(i:Nat)(Xl:List (VM×Obj))(s:VN)(σ:St)(H:Hp)(E:VJ->VN->Prop),ah X Xl σ H s->(∀b∈fp,h7 X Xl H b)->tn i s.heap->J.stop i H->
  VR (VS P w) X.A (WH (.ref it)) (λr s1=>r=none/\ah X Xl σ H s1) E s
 self:∀(A:V0)(i:Nat)(s:VN)(Q:VJ->VN->Prop)(E:VJ->VN->Prop),tn i s.heap->Q (.ref it) s->VR (VS P w) A (pyIter (.ref it)) Q E s
abbrev TI:=St->Hp->(It->Hp->Prop)->Prop
def zi(X:Cx)(Xl:List (VM×Obj))(σ:St)(tg:VT)(R:It->Hp->Prop)(itv:VJ)(s2:VN):Prop:=
 ∃(it:VM)(fp:List VM)(tn:Nat->VY->Prop)(J:It)(H':Hp),itv= .ref it/\ah X Xl σ H' s2/\sk X.prog X.w X.K tg J fp it tn/\tn 0 s2.heap/\(∀b∈fp,h7 X Xl H' b)/\R J H'
def PI(X:Cx)(tg iter:VT)(wi:TI):Prop:=
 ∀(Xl:List (VM×Obj))(s:VN)(σ:St)(H:Hp)(R:It->Hp->Prop),ah X Xl σ H s->wi σ H R->
  VR (VS X.prog X.w) X.A (eval iter X.env) (λv s1=>VR (VS X.prog X.w) X.A (pyIter v) (zi X Xl σ tg R) X.xe s1) X.xe s
theorem vt{M:Model}{A:V0}{E:VJ->VN->Prop}{s:VN}{tg:VT}{it:VM}{u:VJ}{o:Obj}{n:String}{vs:Array VJ}{Q:Unit->VN->Prop}(ho:s.heap.get? it=some o)(hc:o.cls= .type n)(hd:o.data= .fields vs)
 (hn:["enumerate","zip","dict_itemiterator","dict_reverseitemiterator","odict_iterator","itertools.zip_longest","itertools.pairwise"].contains n=false)(hQ:Q () s):VR M A (W4 tg (.ref it) u) Q E s:=by
 unfold W4;cases tg <;> first
  | exact VO hQ
  | (cases u <;> first
      | exact VO hQ
      | (refine VL (wpAny_load ho ?_)
         rw [hc,hd];show VR M A (if (["enumerate","zip","dict_itemiterator","dict_reverseitemiterator","odict_iterator","itertools.zip_longest","itertools.pairwise"].contains n && vs[0]?==some (WE _))=true then _ else _) Q E s;rw [VE (by intro h;rw [hn,R3] at h;cases h)];exact VO hQ))
def qJ(K:Og)(a:VM):It:=
 ⟨λi H=>∃xs x,bu K H a xs/\xs[i]?=some x,λi H x H'=>H'=H/\∀xs,bu K H a xs->xs[i]?=some x,λi H=>∃xs,bu K H a xs/\xs.length<=i⟩
def sr(K:Og)(a:VM):It:=
 ⟨λi H=>∃xs x,bC K H a xs/\xs[i]?=some x,λi H x H'=>H'=H/\∀xs,bC K H a xs->xs[i]?=some x,λi H=>∃xs,bC K H a xs/\xs.length<=i⟩
def iR(lo:Int)(n:Nat):It:=⟨λi _=>i < n,λi H x H'=>H'=H/\x= .int (lo+i),λi _=>n<=i⟩
theorem Fq{P:VW}{w:VX}{K:Og}{tg:VT}(a it:VM):sk P w K tg (qJ K a) [it] it (λi h=>h.IsListIter it a i) where
 mem:=VH
 obj:=λi h st b hb=>by
  have e:b=it:=by simpa using hb
  subst e;obtain⟨o,e,c,d⟩:=st;exact⟨o,e,λv z=>by rw [d] at z;cases z⟩
 keep:=λi h h' st k=>st.at λo e=>k it VH o e
 item:=by
  intro X hP hw hK hc i Xl s σ H E I hf st hg;subst hP hw hK;obtain⟨xs,x,hq,hx⟩:=hg;obtain⟨its,rv,p,hz⟩:=I.list hq;obtain⟨u,hu,ru⟩:=rv.get hx;obtain⟨f0,f1,f2,f3,f4,f5⟩:=hf it VH;refine wpAny_pyNext_list_item st p.isList (x:=u) (by simpa using hu) λh' st' sb=>?_;have I1:ah X Xl σ H {s with heap:=h'}:=I.turned (t':=s.toks) (λb o hb e=>(sb.2 b hb).trans e) f0 f1 f3 f4 f5;obtain⟨o,e,c,d⟩:=id st';exact⟨u,rfl,vt (s:={s with heap:=h'}) e c d VC ⟨x,H,I1,ru,⟨rfl,λys hy=>by rw [I.list_inj hy hq];exact hx⟩,st',λb hb=>(hf b hb).1⟩⟩
 done:=by
  intro X hP hw hK hc i Xl s σ H E I hf st hg;subst hP hw hK;obtain⟨xs,hq,hx⟩:=hg;obtain⟨its,rv,p,hz⟩:=I.list hq;obtain⟨f0,f1,f2,f3,f4,f5⟩:=hf it VH;have hl:=rv.length;exact wpAny_pyNext_list_end (I.ok.hd hc) st p.isList (by simp;omega) λh' eb=>⟨rfl,I.turned (t':=s.toks) (λb o hb e=>eb b o hb e) f0 f1 f3 f4 f5⟩
 self:=λ_ _ _ _ _ st h=>wpAny_pyIter_listiter st h
theorem Fs{P:VW}{w:VX}{K:Og}{tg:VT}(a it:VM):sk P w K tg (sr K a) [it] it (λi h=>h.IsTupleIter it a i) where
 mem:=VH
 obj:=λi h st b hb=>by
  have e:b=it:=by simpa using hb
  subst e;obtain⟨o,e,c,d⟩:=st;exact⟨o,e,λv z=>by rw [d] at z;cases z⟩
 keep:=λi h h' st k=>st.at λo e=>k it VH o e
 item:=by
  intro X hP hw hK hc i Xl s σ H E I hf st hg;subst hP hw hK;obtain⟨xs,x,hq,hx⟩:=hg;obtain⟨its,rv,p,hz⟩:=I.tuple hq;obtain⟨u,hu,ru⟩:=rv.get hx;obtain⟨f0,f1,f2,f3,f4,f5⟩:=hf it VH;refine wpAny_pyNext_tuple_item st (show s.heap.IsTuple a its.toArray from p) (x:=u) (by simpa using hu) λh' st' sb=>?_;have I1:ah X Xl σ H {s with heap:=h'}:=I.turned (t':=s.toks) (λb o hb e=>(sb.2 b hb).trans e) f0 f1 f3 f4 f5;obtain⟨o,e,c,d⟩:=id st';exact⟨u,rfl,vt (s:={s with heap:=h'}) e c d VC ⟨x,H,I1,ru,⟨rfl,λys hy=>by rw [I.tuple_inj hy hq];exact hx⟩,st',λb hb=>(hf b hb).1⟩⟩
 done:=by
  intro X hP hw hK hc i Xl s σ H E I hf st hg;subst hP hw hK;obtain⟨xs,hq,hx⟩:=hg;obtain⟨its,rv,p,hz⟩:=I.tuple hq;obtain⟨f0,f1,f2,f3,f4,f5⟩:=hf it VH;have hl:=rv.length;exact wpAny_pyNext_tuple_end (I.ok.hd hc) st (show s.heap.IsTuple a its.toArray from p) (by simp;omega) λh' eb=>⟨rfl,I.turned (t':=s.toks) (λb o hb e=>eb b o hb e) f0 f1 f3 f4 f5⟩
 self:=λ_ _ _ _ _ st h=>wpAny_pyIter_tupleiter st h
theorem Ft{P:VW}{w:VX}{K:Og}{tg:VT}(it:VM)(lo:Int)(n:Nat):sk P w K tg (iR lo n) [it] it (λi h=>IsRangeIter h it (lo+(i:Nat)*1) ((n:Int) - (i:Nat)) 1) where
 mem:=VH
 obj:=λi h st b hb=>by
  have e:b=it:=by simpa using hb
  subst e;exact⟨_,st,λv z=>by
   have z':Data.fields _=Data.cell v:=z;cases z'⟩
 keep:=λi h h' st k=>k it VH _ st
 item:=by
  intro X hP hw hK hc i Xl s σ H E I hf st hg;subst hP hw hK;obtain⟨f0,f1,f2,f3,f4,f5⟩:=hf it VH;have W:=Walks.range (prog:=X.prog) (w:=X.w) (I.ok.hd hc) it lo 1 n;refine W.item i s _ _ hg st λv h' tk hv st' kk=>?_;obtain⟨t,rfl⟩:=hv;have I1:ah X Xl σ H {s with heap:=h',toks:=tk}:=I.turned (λb o hb e=>kk b o (by simpa using hb) e) f0 f1 f3 f4 f5;refine⟨_,rfl,vt (s:={s with heap:=h',toks:=tk}) (n:="range_iterator") st' rfl rfl VC ⟨.int (lo+i),H,I1,⟨t,?_⟩,⟨rfl,rfl⟩,st',λb hb=>(hf b hb).1⟩⟩;rw [Int.mul_one]
 done:=by
  intro X hP hw hK hc i Xl s σ H E I hf st hg;subst hP hw hK;obtain⟨f0,f1,f2,f3,f4,f5⟩:=hf it VH;exact wpAny_pyNext_range_end (I.ok.hd hc) st (by have:n<=i:=hg;omega) λh' eb=>⟨rfl,I.turned (t':=s.toks) (λb o hb e=>eb b o hb e) f0 f1 f3 f4 f5⟩
 self:=λ_ _ _ _ _ st h=>wpAny_pyIter_rangeiter st h
section
variable {X:Cx} {tg:VT}
def vv(K:Og)(tl:TE):TI:=λσ H R=>tl σ H λx H1=>∃a,x= .ref a/\(∃xs,bu K H1 a xs)/\R (qJ K a) H1
def vw(K:Og)(tl:TE):TI:=λσ H R=>tl σ H λx H1=>∃a,x= .ref a/\(∃xs,bC K H1 a xs)/\R (sr K a) H1
theorem tK{l:VT}{tl:TE}(hl:PE X l tl):PI X tg l (vv X.K tl):=by
 intro Xl s σ H R I h;refine aG (hl Xl s σ H _ I h) λv s1 ⟨x,H1,I1,r1,q1⟩=>?_;obtain⟨a,e,⟨xs,hq⟩,q⟩:=q1;subst e;cases r1;obtain⟨its,rv,p,hz⟩:=I1.list hq;refine Xg p.isList ?_;refine⟨s1.heap.objs.size,[s1.heap.objs.size],_,_,H1,rfl,I1.kept (t':=s1.toks) λb o e=>Ou _ e,Fq a _,⟨_,OX _ rfl,rfl,rfl⟩,λb hb=>?_,q⟩;have e:b=s1.heap.objs.size:=by simpa using hb
 subst e;exact I1.fpOk (Oi _) (I1.hok.fresh (Oi _))
theorem vz{l:VT}{tl:TE}(hl:PE X l tl):PI X tg l (vw X.K tl):=by
 intro Xl s σ H R I h;refine aG (hl Xl s σ H _ I h) λv s1 ⟨x,H1,I1,r1,q1⟩=>?_;obtain⟨a,e,⟨xs,hq⟩,q⟩:=q1;subst e;cases r1;obtain⟨its,rv,p,hz⟩:=I1.tuple hq;refine wpAny_pyIter_tuple (show s1.heap.IsTuple a its.toArray from p) ?_;refine⟨s1.heap.objs.size,[s1.heap.objs.size],_,_,H1,rfl,I1.kept (t':=s1.toks) λb o e=>Ou _ e,Fs a _,⟨_,OX _ rfl,rfl,rfl⟩,λb hb=>?_,q⟩;have e:b=s1.heap.objs.size:=by simpa using hb
 subst e;exact I1.fpOk (Oi _) (I1.hok.fresh (Oi _))
theorem zj{Xl:List (VM×Obj)}{σ:St}{H:Hp}{s:VN}{R:It->Hp->Prop}{E:VJ->VN->Prop}{lo hi:Int}{t u v:Tok}{tk:Nat}(I:ah X Xl σ H s)(h1:-(2 ^ 62)<=lo)(h2:lo < 2 ^ 62)(h3:-(2 ^ 62)<=hi)(h4:hi < 2 ^ 62)
 (q:R (iR lo (hi - lo).toNat) H):VR (VS X.prog X.w) X.A (pyIter (.ref s.heap.objs.size)) (zi X Xl σ tg R) E {s with heap:=s.heap.push {cls:= .type "range",data:= .fields #[.int lo t,.int hi u,.int 1 v]},toks:=tk}:=by
 refine wpAny_pyIter_range (IsRange.new ..) (small_one h1 h2 h3 h4) ?_;have I1:ah X Xl σ H {s with heap:=s.heap.push {cls:= .type "range",data:= .fields #[.int lo t,.int hi u,.int 1 v]},toks:=tk}:=I.kept λb o e=>Ou _ e;refine⟨(s.heap.push {cls:= .type "range",data:= .fields #[.int lo t,.int hi u,.int 1 v]}).objs.size,[(s.heap.push {cls:= .type "range",data:= .fields #[.int lo t,.int hi u,.int 1 v]}).objs.size],_,_,H,rfl,
  I1.kept (t':=tk) λb o e=>Ou _ e,Ft _ lo (hi - lo).toNat,?_,λb hb=>?_,q⟩
 ·have e1:lo+((0:Nat):Int)*1=lo:=VH
  have e2:(((hi - lo).toNat:Nat):Int) - ((0:Nat):Int)=Vp lo hi 1:=by rw [rangeSize_one];split <;> omega
  show IsRangeIter _ _ (lo+((0:Nat):Int)*1) ((((hi - lo).toNat:Nat):Int) - ((0:Nat):Int)) 1;rw [e1,e2];exact OX _ rfl
 ·have e:b=(s.heap.push {cls:= .type "range",data:= .fields #[.int lo t,.int hi u,.int 1 v]}).objs.size:=by simpa using hb
  subst e;exact I1.fpOk (Oi _) (I1.hok.fresh (Oi _))
def vA(ta:TA):TI:=λσ H R=>ta σ H λvs H1=>∃j:Int,vs=[.int j]/\-(2 ^ 62)<=j/\j < 2 ^ 62/\R (iR 0 j.toNat) H1
def vB(ta:TA):TI:=λσ H R=>ta σ H λvs H1=>∃i j:Int,vs=[.int i,.int j]/\(-(2 ^ 62)<=i/\i < 2 ^ 62/\-(2 ^ 62)<=j/\j < 2 ^ 62)/\R (iR i (j - i).toNat) H1
theorem vC{a:VT}{ta:TA}{p pos:Pos}(hg:Gl X "range")(hm:X.mg "range"=none)(ha:PA X [a] ta)(hs:VQ [a] X.env=[(false,eval a X.env)]:=by rfl):PI X tg (.Call (.Name "range" p) [a] [] pos) (vA ta):=by
 intro Xl s σ H R I h;refine Call_ (oB I hg hm boot_range (Rk (aG (ha pos Xl s σ H _ I h) λus s1 ⟨vs,H1,I1,r1,q1⟩=>?_) hs rfl));obtain⟨j,e,q1,q2,q⟩:=q1;subst e;cases r1 with
 | cons r rr=>
  cases rr;obtain⟨t,rfl⟩:=r;exact call_range_1 (zj I1 VD VD q1 q2 (by simpa using q))
theorem Fv{a b:VT}{ta:TA}{p pos:Pos}(hg:Gl X "range")(hm:X.mg "range"=none)(ha:PA X [a,b] ta)(hs:VQ [a,b] X.env=[(false,eval a X.env),(false,eval b X.env)]:=by rfl)(hs2:VQ [b] X.env=[(false,eval b X.env)]:=by rfl):
 PI X tg (.Call (.Name "range" p) [a,b] [] pos) (vB ta):=by
 intro Xl s σ H R I h;refine Call_ (oB I hg hm boot_range (Rk (aG (ha pos Xl s σ H _ I h) λus s1 ⟨vs,H1,I1,r1,q1⟩=>?_) (by rw [hs,hs2]) (by rw [hs2];rfl)));obtain⟨i,j,e,⟨q1,q2,q3,q4⟩,q⟩:=q1;subst e;cases r1 with
 | cons r rr=>
  cases rr with
  | cons r' rr=>
   cases rr;obtain⟨t,rfl⟩:=r;obtain⟨t',rfl⟩:=r';exact call_range_2 (zj I1 q1 q2 q3 q4 q)
def su(wi:TI)(g:TG)(tb:TS):TS:=λD σ H=>wi σ H λJ H1=>∃W:Nat->Nat->St->Hp->Prop,(∃m,W 0 m σ H1)/\∀i m σ H,W i m σ H->
 (J.stop i H/\D.nx σ H)\/(J.go i H/\∃N:St->Hp->Prop,(∀σ' H',N σ' H'->∃m',m' < m/\W (i+1) m' σ' H')/\∀x H',J.yld i H x H'->g x σ H' λσ2 H2=>tb {D with nx:=N,ct:=N,bk:=D.nx} σ2 H2)
def sA(fp:List VM)(h:VY):List (VM×Obj):=fp.filterMap λb=>(h.get? b).map λo=>(b,o)
theorem tL{fp:List VM}{h:VY}{b:VM}{o:Obj}(hb:b∈fp)(e:h.get? b=some o):(b,o)∈sA fp h:=RT.mpr ⟨b,hb,by rw [e];rfl⟩
theorem Fw{fp:List VM}{h:VY}{p:VM×Obj}(hp:p∈sA fp h):p.1∈fp/\h.get? p.1=some p.2:=by
 obtain⟨b,hb,e⟩:=RT.mp hp;cases q:h.get? b with
 | none=>rw [q] at e;cases e
 | some o=>
  rw [q] at e;have e':(b,o)=p:=Ph e;subst e';exact⟨hb,q⟩
theorem ah.pinned{Xl:List (VM×Obj)}{σ:St}{H:Hp}{s:VN}{fp:List VM}(I:ah X Xl σ H s)(hf:∀b∈fp,h7 X Xl H b)(ho:∀b∈fp,∃o,s.heap.get? b=some o/\∀v,o.data≠ .cell v):ah X (Xl++sA fp s.heap) σ H s:=
 I.pins_of λp hp=>(ON.mp hp).elim (λz=>I.pin p (Pq _ z)) λz=>by
  obtain⟨hb,e⟩:=Fw z;obtain⟨f0,f1,f2,_⟩:=hf p.1 hb;obtain⟨o,e',d⟩:=ho p.1 hb;rw [e] at e';cases e';exact⟨e,f0,f1,f2,d⟩
theorem ah.unpinned{Xl pl:List (VM×Obj)}{σ:St}{H:Hp}{s:VN}(I:ah X (Xl++pl) σ H s):ah X Xl σ H s:=I.pins_of λp hp=>I.pin p (Pq _ (Sb _ hp))
theorem sC{iter:VT}{body:List VZ}{wi:TI}{g:TG}{tb:TS}{pos:Pos}(hp:WO (VS X.prog X.w) X.A X.env X.xe)(hc:X.calm=true)(hi:PI X tg iter wi)(hg:PG X tg g)(hb:bX X body tb)
 (hs:∀x,V2 iter X.env x=pure x:=by intro _;rfl):PS X (.For tg iter body [] pos) (su wi g tb):=by
 intro Xl s σ H D I h;refine wpAny_For (aG (hi Xl s σ H _ I h) λv s1 h1=>aG h1 λitv s2 h2=>?_) hs;obtain⟨it,fp,tn,J,H2,e,I2,T,st2,f2,W,⟨m0,w0⟩,turn⟩:=h2;subst e;have stat:∀{H':Hp},(∀b∈fp,H' b=none)->∀b∈fp,h7 X Xl H' b:=λhn b hb=>⟨hn b hb,(f2 b hb).2⟩;refine codeAny_forLoop_any (λn s'=>∃i σ' H',ah X Xl σ' H' s'/\tn i s'.heap/\(∀b∈fp,H' b=none)/\W i n σ' H') ?_ m0 ⟨0,σ,H2,I2,st2,λb hb=>(f2 b hb).1,w0⟩;rintro n s3 ⟨i,σ3,H3,I3,st3,fr3,w3⟩;rcases turn i n σ3 H3 w3 with⟨stop,qn⟩ | ⟨go,N,hN,step⟩
 ·refine Ws hp (aG (T.done X rfl rfl rfl hc i Xl s3 σ3 H3 X.xe I3 (stat fr3) st3 stop) λr s4 ⟨hr,I4⟩=>?_);subst hr;exact W3 ⟨σ3,H3,I4,qn⟩
 ·refine Ws hp (aG (T.item X rfl rfl rfl hc i Xl s3 σ3 H3 X.xe I3 (stat fr3) st3 go) λr s4 ⟨u,hr,h4⟩=>?_);subst hr;refine Ws hp (aG h4 λ_ s5 ⟨x,H5,I5,r5,y5,st5,fr5⟩=>?_);have I5':=I5.pinned (stat fr5) (T.obj _ _ st5);refine Ws hp (aG (hg _ s5 σ3 H5 x u _ I5' r5 (step x H5 y5)) λ_ s6 ⟨σ6,H6,I6,q6⟩=>?_);refine Ws hp (aG (hb _ s6 σ6 H6 _ I6 q6) λf s7 q7=>?_);have again:∀{σ7:St}{H7:Hp},ah X (Xl++sA fp s5.heap) σ7 H7 s7->N σ7 H7->∃m,m < n/\∃i σ' H',ah X Xl σ' H' s7/\tn i s7.heap/\(∀b∈fp,H' b=none)/\W i m σ' H':=λ{σ7 H7} I7 n7=>by
   obtain⟨m',hm,w7⟩:=hN σ7 H7 n7;refine⟨m',hm,i+1,σ7,H7,I7.unpinned,T.keep _ _ _ st5 λb hb o e=>(I7.pin (b,o) (Pq _ (Pq _ (tL hb e)))).1,λb hb=>?_,w7⟩;obtain⟨o,e,d⟩:=T.obj _ _ st5 b hb;exact(I7.pin (b,o) (Pq _ (Pq _ (tL hb e)))).2.1
  cases f with
  | next=>obtain⟨σ7,H7,I7,n7⟩:=q7;exact again I7 n7
  | cont=>obtain⟨σ7,H7,I7,n7⟩:=q7;exact again I7 n7
  | brk=>obtain⟨σ7,H7,I7,q7⟩:=q7;exact⟨σ7,H7,I7.unpinned,q7⟩
  | ret v=>obtain⟨x7,σ7,H7,I7,r7,q7⟩:=q7;exact⟨x7,σ7,H7,I7.unpinned,r7,q7⟩
end
abbrev R2:=V->V->Hp->VK->Prop
def bU(X:Cx)(f:VJ->VJ->Sem VJ)(r:R2):Prop:=
 ∀(Xl:List (VM×Obj))(s:VN)(σ:St)(H:Hp)(x y:V)(v u:VJ)(Q:VK),ah X Xl σ H s->aO x v->aO y u->r x y H Q->
  VR (VS X.prog X.w) X.A (f v u) (EP X Xl σ Q) X.xe s
def vD(X:Cx)(f:VJ->Sem VJ)(r:V->Hp->VK->Prop):Prop:=
 ∀(Xl:List (VM×Obj))(s:VN)(σ:St)(H:Hp)(x:V)(v:VJ)(Q:VK),ah X Xl σ H s->aO x v->r x H Q->
  VR (VS X.prog X.w) X.A (f v) (EP X Xl σ Q) X.xe s
def dZ(X:Cx)(f:VJ)(r:List V->Hp->VK->Prop):Prop:=
 ∀(Xl:List (VM×Obj))(s:VN)(σ:St)(H:Hp)(xs:List V)(us:List VJ)(Q:VK),ah X Xl σ H s->aP xs us->r xs H Q->
  VR (VS X.prog X.w) X.A (call f us) (EP X Xl σ Q) X.xe s
def Fx(X:Cx)(r:V->Hp->(Bool->Hp->Prop)->Prop):Prop:=
 ∀(Xl:List (VM×Obj))(s:VN)(σ:St)(H:Hp)(x:V)(v:VJ)(Q:Bool->Hp->Prop),ah X Xl σ H s->aO x v->r x H Q->
  VR (VS X.prog X.w) X.A (truthy v) (TP X Xl σ Q) X.xe s
def qK(r:R2)(ta tb:TE):TE:=λσ H Q=>ta σ H λx H1=>tb σ H1 λy H2=>r x y H2 Q
def zk(r:V->Hp->VK->Prop)(ta:TE):TE:=λσ H Q=>ta σ H λx H1=>r x H1 Q
def rI(C:Int->Int->Prop)(g:Int->Int->V):R2:=λx y H Q=>∃i j,x= .int i/\y= .int j/\C i j/\Q (g i j) H
def ia(g:Int->Int->V):R2:=λx y H Q=>∃i j,x= .int i/\y= .int j/\Q (g i j) H
def rU(g:Int->V):V->Hp->VK->Prop:=λx H Q=>∃i,x= .int i/\Q (g i) H
section
variable {X:Cx} {a b c:VT} {ta tb tc:TE} {pos:Pos}
theorem vE(ha:PE X a ta)(hb:PE X b tb){Xl:List (VM×Obj)}{s:VN}{σ:St}{H:Hp}{R:V->V->Hp->Prop}(I:ah X Xl σ H s)
 (h:ta σ H λx H1=>tb σ H1 λy H2=>R x y H2){Q:VJ->VN->Prop}{f:VJ->VJ->Sem VJ}
 (hf:∀v u s2 x y H2,ah X Xl σ H2 s2->aO x v->aO y u->R x y H2->VR (VS X.prog X.w) X.A (f v u) Q X.xe s2):
 VR (VS X.prog X.w) X.A (eval a X.env) (λv s₁=>VR (VS X.prog X.w) X.A (eval b X.env) (λu s₂=>VR (VS X.prog X.w) X.A (f v u) Q X.xe s₂) X.xe s₁) X.xe s:=by
 refine aG (ha Xl s σ H _ I h) λv s1 ⟨x,H1,I1,r1,q1⟩=>?_;refine aG (hb Xl s1 σ H1 _ I1 q1) λu s2 ⟨y,H2,I2,r2,q2⟩=>?_;exact hf v u s2 x y H2 I2 r1 r2 q2
theorem bM{op:Operator}{r:R2}(ho:bU X (Wn op) r)(ha:PE X a ta)(hb:PE X b tb):PE X (.BinOp a op b pos) (qK r ta tb):=by
 intro Xl s σ H Q I h;exact wpAny_BinOp (vE ha hb I h λv u s2 x y H2 I2 rx ry q=>ho Xl s2 σ H2 x y v u Q I2 rx ry q)
theorem Fy{op:UnaryOp}{r:V->Hp->VK->Prop}(ho:vD X (unaryOp op) r)(ha:PE X a ta):PE X (.UnaryOp op a pos) (zk r ta):=by
 intro Xl s σ H Q I h;exact UnaryOp_ (aG (ha Xl s σ H _ I h) λv s1 uu30=>by obtain⟨x,H1,I1,r1,q1⟩:=uu30;exact ho Xl s1 σ H1 x v Q I1 r1 q1)
theorem tM{f:VJ->VJ->Sem VJ}{C:Int->Int->Prop}{g:Int->Int->Int}
 (rule:∀(i j:Int) (t u:Tok) (s:VN) (Q:VJ->VN->Prop) (E:VJ->VN->Prop),C i j->Q (.int (g i j) s.toks) {s with toks:=s.toks+1}->VR (VS X.prog X.w) X.A (f (.int i t) (.int j u)) Q E s):
 bU X f (rI C λi j=>.int (g i j)):=by
 intro Xl s σ H x y v u Q I rx ry h;obtain⟨i,j,rfl,rfl,hc,q⟩:=h;obtain⟨t,rfl⟩:=rx;obtain⟨t',rfl⟩:=ry;exact rule i j t t' s _ _ hc ⟨.int (g i j),H,I.tok _,⟨_,rfl⟩,q⟩
theorem zl{f:VJ->VJ->Sem VJ}{g:Int->Int->Int}
 (rule:∀(i j:Int) (t u:Tok) (s:VN) (Q:VJ->VN->Prop) (E:VJ->VN->Prop),Q (.int (g i j) s.toks) {s with toks:=s.toks+1}->VR (VS X.prog X.w) X.A (f (.int i t) (.int j u)) Q E s):
 bU X f (ia λi j=>.int (g i j)):=by
 intro Xl s σ H x y v u Q I rx ry h;obtain⟨i,j,rfl,rfl,q⟩:=h;obtain⟨t,rfl⟩:=rx;obtain⟨t',rfl⟩:=ry;exact rule i j t t' s _ _ ⟨.int (g i j),H,I.tok _,⟨_,rfl⟩,q⟩
theorem tN{f:VJ->VJ->Sem VJ}{g:Int->Int->Bool}
 (rule:∀(i j:Int) (t u:Tok) (s:VN) (Q:VJ->VN->Prop) (E:VJ->VN->Prop),Q (.bool (g i j)) s->VR (VS X.prog X.w) X.A (f (.int i t) (.int j u)) Q E s):
 bU X f (ia λi j=>.bl (g i j)):=by
 intro Xl s σ H x y v u Q I rx ry h;obtain⟨i,j,rfl,rfl,q⟩:=h;obtain⟨t,rfl⟩:=rx;obtain⟨t',rfl⟩:=ry;exact rule i j t t' s _ _ ⟨.bl (g i j),H,I,rfl,q⟩
def jU(i j:Int):Prop:=0 < j/\j < 1073741824
def jV(i j:Int):Prop:=0<=j/\j<=1000000/\i.natAbs < 2 ^ 64
def ib(i j:Int):Prop:=(-(2 ^ 64) < i/\i < 2 ^ 64)\/(-(2 ^ 64) < j/\j < 2 ^ 64)
theorem ib.ok{i j:Int}(h:ib i j):IntMulOk i j:=by
 rcases h with⟨h1,h2⟩ | ⟨h1,h2⟩
 ·exact .of_left (intBits_le_64 h1 h2)
 ·exact .of_right (intBits_le_64 h1 h2)
theorem bP:bU X (Wn .Add) (ia λi j=>.int (i+j)):=zl λ_ _ _ _ _ _ _ q=>add_int q
theorem eM:bU X (Wn .Sub) (ia λi j=>.int (i - j)):=zl λ_ _ _ _ _ _ _ q=>sub_int q
theorem gm:bU X (Wn .Mult) (rI ib λi j=>.int (i*j)):=tM λ_ _ _ _ _ _ _ hc q=>mul_int q hc.ok
theorem cT:bU X (Wn .FloorDiv) (rI jU λi j=>.int (i / j)):=tM λi j _ _ _ _ _ hc q=>by
 have h1:(0:Int) < j:=hc.1;have h2:j < 1073741824:=hc.2;exact floordiv_int VD (by rw [Int.fdiv_eq_ediv_of_nonneg i VD];exact q) (.inl (PyProof.noPylong_small VD))
theorem bh:bU X (Wn .Mod) (rI (λ_ j=>0 < j) λi j=>.int (i % j)):=tM λi j _ _ _ _ _ hc q=>by
 have h1:(0:Int) < j:=hc;exact mod_int' VD (by rw [Int.fmod_eq_emod_of_nonneg i VD];exact q)
theorem Fz:bU X (Wn .Pow) (rI jV λi j=>.int (i ^ j.toNat)):=tM λ_ _ _ _ _ _ _ hc q=>pow_int_small hc.1 hc.2.1 hc.2.2 q
theorem FA{f:VJ->Sem VJ}{g:Int->Int}
 (rule:∀(i:Int) (t:Tok) (s:VN) (Q:VJ->VN->Prop) (E:VJ->VN->Prop),Q (.int (g i) s.toks) {s with toks:=s.toks+1}->VR (VS X.prog X.w) X.A (f (.int i t)) Q E s):
 vD X f (rU λi=>.int (g i)):=by
 intro Xl s σ H x v Q I rx h;obtain⟨i,rfl,q⟩:=h;obtain⟨t,rfl⟩:=rx;exact rule i t s _ _ ⟨.int (g i),H,I.tok _,⟨_,rfl⟩,q⟩
theorem FC:vD X (unaryOp .USub) (rU λi=>.int (-i)):=FA λ_ _ _ _ _ q=>neg_int q
end
def vF:V->V->Bool
 | .non,.non=>true | .non,.int _=>true | .int _,.non=>true | .non,.bl _=>true | .bl _,.non=>true | .non,.str _=>true | .str _,.non=>true
 | .int _,.int _=>true | .bl _,.bl _=>true | .str _,.str _=>true | .byt _,.byt _=>true
 | .int _,.str _=>true | .str _,.int _=>true | .bl _,.str _=>true | .str _,.bl _=>true
 | _,_=>false
def zm:R2:=λx y H Q=>vF x y=true/\Q (.bl (decide (x=y))) H
def zo:R2:=λx y H Q=>vF x y=true/\Q (.bl (!decide (x=y))) H
theorem zp{i j:Int}:decide (V.int i=V.int j)=(i==j):=by
 rw [Rr];simp
theorem zq{i j:Bool}:decide (V.bl i=V.bl j)=(i==j):=by
 rw [Rr];simp
theorem zr{i j:Str}:decide (V.str i=V.str j)=(i==j):=by
 rw [Rr];simp
theorem zt{i j:Array UInt8}:decide (V.byt i=V.byt j)=(i.toList==j.toList):=by
 rw [Rr];cases i;cases j;simp
section
variable {X:Cx} {a b c:VT} {ta tb tc:TE} {pos:Pos}
theorem bK{Xl:List (VM×Obj)}{σ:St}{H:Hp}{s:VN}{Q:VK}{k k':Bool}(I:ah X Xl σ H s)(q:Q (.bl k) H)(e:k=k'):EP X Xl σ Q (.bool k') s:=by
 subst e;exact⟨.bl k,H,I,rfl,q⟩
theorem sE:bU X (V6 .Eq) zm:=by
 intro Xl s σ H x y v u Q I rx ry h;obtain⟨hs,q⟩:=h;cases x with
 | non=>
  cases rx;cases y with
  | non=>cases ry;exact PySem.EqNone.eq_none_none (bK I q VH)
  | bl j=>cases ry;exact PySem.EqNone.eq_none_bool (bK I q VH)
  | int j=>obtain⟨t',rfl⟩:=ry;exact PySem.EqNone.eq_none_int (bK I q VH)
  | str j=>obtain⟨t',rfl⟩:=ry;exact PySem.EqNone.eq_none_str (bK I q VH)
  | _=>exact absurd (show false=true from hs) Ot
 | bl i=>
  cases rx;cases y with
  | non=>cases ry;exact PySem.EqNone.eq_bool_none (bK I q VH)
  | bl j=>cases ry;exact eq_bool (bK I q zq)
  | str j=>obtain⟨t',rfl⟩:=ry;exact PySem.EqMixed.eq_bool_str (bK I q VH)
  | _=>exact absurd (show false=true from hs) Ot
 | int i=>
  obtain⟨t,rfl⟩:=rx;cases y with
  | non=>cases ry;exact PySem.EqNone.eq_int_none (bK I q VH)
  | int j=>obtain⟨t',rfl⟩:=ry;exact eq_int (bK I q zp)
  | str j=>obtain⟨t',rfl⟩:=ry;exact PySem.EqMixed.eq_int_str (bK I q VH)
  | _=>exact absurd (show false=true from hs) Ot
 | str i=>
  obtain⟨t,rfl⟩:=rx;cases y with
  | non=>cases ry;exact PySem.EqNone.eq_str_none (bK I q VH)
  | bl j=>cases ry;exact PySem.EqMixed.eq_str_bool (bK I q VH)
  | int j=>obtain⟨t',rfl⟩:=ry;exact PySem.EqMixed.eq_str_int (bK I q VH)
  | str j=>obtain⟨t',rfl⟩:=ry;exact eq_str (bK I q zr)
  | _=>exact absurd (show false=true from hs) Ot
 | byt i=>
  obtain⟨t,rfl⟩:=rx;cases y with
  | byt j=>obtain⟨t',rfl⟩:=ry;exact PySem.W.eq_bytes (bK I q zt)
  | _=>exact absurd (show false=true from hs) Ot
 | _=>cases y <;> exact absurd (show false=true from hs) Ot
theorem FD:bU X (V6 .NotEq) zo:=by
 intro Xl s σ H x y v u Q I rx ry h;obtain⟨hs,q⟩:=h;cases x with
 | non=>
  cases rx;cases y with
  | non=>cases ry;exact PySem.EqNone.ne_none_none (bK I q VH)
  | bl j=>cases ry;exact PySem.EqNone.ne_none_bool (bK I q VH)
  | int j=>obtain⟨t',rfl⟩:=ry;exact PySem.EqNone.ne_none_int (bK I q VH)
  | str j=>obtain⟨t',rfl⟩:=ry;exact PySem.EqNone.ne_none_str (bK I q VH)
  | _=>exact absurd (show false=true from hs) Ot
 | bl i=>
  cases rx;cases y with
  | non=>cases ry;exact PySem.EqNone.ne_bool_none (bK I q VH)
  | bl j=>cases ry;exact ne_bool (bK I q (congrArg not zq))
  | str j=>obtain⟨t',rfl⟩:=ry;exact PySem.EqMixed.ne_bool_str (bK I q VH)
  | _=>exact absurd (show false=true from hs) Ot
 | int i=>
  obtain⟨t,rfl⟩:=rx;cases y with
  | non=>cases ry;exact PySem.EqNone.ne_int_none (bK I q VH)
  | int j=>obtain⟨t',rfl⟩:=ry;exact ne_int (bK I q (congrArg not zp))
  | str j=>obtain⟨t',rfl⟩:=ry;exact PySem.EqMixed.ne_int_str (bK I q VH)
  | _=>exact absurd (show false=true from hs) Ot
 | str i=>
  obtain⟨t,rfl⟩:=rx;cases y with
  | non=>cases ry;exact PySem.EqNone.ne_str_none (bK I q VH)
  | bl j=>cases ry;exact PySem.EqMixed.ne_str_bool (bK I q VH)
  | int j=>obtain⟨t',rfl⟩:=ry;exact PySem.EqMixed.ne_str_int (bK I q VH)
  | str j=>obtain⟨t',rfl⟩:=ry;exact ne_str (bK I q (congrArg not zr))
  | _=>exact absurd (show false=true from hs) Ot
 | byt i=>
  obtain⟨t,rfl⟩:=rx;cases y with
  | byt j=>obtain⟨t',rfl⟩:=ry;exact PySem.W.ne_bytes (bK I q (congrArg not zt))
  | _=>exact absurd (show false=true from hs) Ot
 | _=>cases y <;> exact absurd (show false=true from hs) Ot
theorem tO:bU X (V6 .Lt) (ia λi j=>.bl (decide (i < j))):=tN λ_ _ _ _ _ _ _ q=>lt_int q
theorem jW:bU X (V6 .LtE) (ia λi j=>.bl (decide (i<=j))):=tN λ_ _ _ _ _ _ _ q=>le_int q
theorem iS:bU X (V6 .Gt) (ia λi j=>.bl (decide (j < i))):=tN λ_ _ _ _ _ _ _ q=>gt_int q
theorem zu:bU X (V6 .GtE) (ia λi j=>.bl (decide (j<=i))):=tN λ_ _ _ _ _ _ _ q=>ge_int q
theorem lK:bU X (V6 .Is) (λx y H Q=>y= .non/\Q (.bl (decide (x= .non))) H):=by
 intro Xl s σ H x y v u Q I rx ry h;obtain⟨rfl,q⟩:=h;cases ry;refine is_none_gen (bK I q ?_);cases x <;> first
  | (cases rx;rfl)
  | (obtain⟨t,rfl⟩:=rx;rfl)
theorem vG:bU X (V6 .IsNot) (λx y H Q=>y= .non/\Q (.bl (!decide (x= .non))) H):=by
 intro Xl s σ H x y v u Q I rx ry h;obtain⟨rfl,q⟩:=h;cases ry;refine isnot_none_gen (bK I q ?_);cases x <;> first
  | (cases rx;rfl)
  | (obtain⟨t,rfl⟩:=rx;rfl)
theorem aE(b:VT){op:CmpOp}(h:op≠ .In:=by decide)(h2:op≠ .NotIn:=by decide):Wf op b=false:=by
 have e1:(op==CmpOp.In)=false:=by cases op <;> first | rfl | exact absurd rfl h
 have e2:(op==Vs)=false:=by cases op <;> first | rfl | exact absurd rfl h2
 cases b <;> simp [Wf,e1,e2]
theorem tP{op:CmpOp}{r:R2}(ho:bU X (V6 op) r)(ha:PE X a ta)(hb:PE X b tb)(hm:Wf op b=false):PE X (.Compare a [op] [b] pos) (qK r ta tb):=by
 intro Xl s σ H Q I h;exact wpAny_Compare1 (vE ha hb I h λv u s2 x y H2 I2 rx ry q=>ho Xl s2 σ H2 x y v u Q I2 rx ry q) hm
def zv(t:TE):TT:=λσ H Q=>t σ H λx H'=>∃k,x= .bl k/\Q k H'
theorem oC{op:CmpOp}{r:R2}(ho:bU X (V6 op) r)(ha:PE X a ta)(hb:PE X b tb)(hm:Wf op b=false):PT X (.Compare a [op] [b] pos) (zv (qK r ta tb)):=by
 intro Xl s σ H Q I h;refine wpAny_isTrue_Compare1 (aG (ha Xl s σ H _ I h) λv s1 ⟨x,H1,I1,r1,q1⟩=>aG (hb Xl s1 σ H1 _ I1 q1) λu s2 ⟨y,H2,I2,r2,q2⟩=>
  aG (ho Xl s2 σ H2 x y v u _ I2 r1 r2 q2) λc s3 ⟨z,H3,I3,r3,k,e,q3⟩=>?_) hm
 subst e;cases r3;exact Wc ⟨H3,I3,q3⟩
def zw(K:Og)(x:V)(H:Hp)(k:Bool):Prop:=
 match x with
 | .non=>k=false
 | .bl b=>k=b
 | .int i=>k=(i !=0)
 | .str y=>y.length<=VV/\k=((y.length:Int) !=0)
 | .byt y=>y.size<=VV/\k=((y.size:Int) !=0)
 | .ref p=>(∃xs,bu K H p xs/\k=!xs.isEmpty)\/(∃xs,bC K H p xs/\k=!xs.isEmpty)\/∃kvs,H p=some (.dK kvs)/\k=!kvs.isEmpty
 | _=>False
theorem FF{κ:Type}{kvs:List (κ×V)}{vs:List (κ×VJ)}(r:KV kvs vs):(!vs.isEmpty)=!kvs.isEmpty:=by
 cases r <;> rfl
theorem zx{xs:List V}{its:List VJ}(r:aP xs its):(!its.toArray.isEmpty)=!xs.isEmpty:=by
 cases r <;> simp
theorem sF:(VV:Nat) < 2 ^ 63:=by rw [Wg];decide
theorem FG:Fx X (λx H Q=>∃k,zw X.K x H k/\Q k H):=by
 intro Xl s σ H x v Q I rx h;obtain⟨k,e,q⟩:=h;have hl:=sF;have hs:VV=16777216:=Wg;cases x with
 | non=>
  cases rx;have e':k=false:=e;subst e';exact truthy_none ⟨H,I,q⟩
 | bl b=>
  cases rx;have e':k=b:=e;subst e';exact Wc ⟨H,I,q⟩
 | int i=>
  obtain⟨t,rfl⟩:=rx;have e':k=(i !=0):=e;subst e';exact PySem.P.truthy_int ⟨H,I,q⟩
 | str y=>
  obtain⟨t,rfl⟩:=rx;obtain⟨hy,e'⟩:y.length<=VV/\k=((y.length:Int) !=0):=e;subst e';exact PySem.P.truthy_str VD ⟨H,I.tok _,q⟩
 | byt y=>
  obtain⟨t,rfl⟩:=rx;obtain⟨hy,e'⟩:y.size<=VV/\k=((y.size:Int) !=0):=e;subst e';exact PySem.W.truthy_bytes VD ⟨H,I.tok _,q⟩
 | ref p=>
  cases rx;have e':(∃xs,bu X.K H p xs/\k=!xs.isEmpty)\/(∃xs,bC X.K H p xs/\k=!xs.isEmpty)\/∃kvs,H p=some (.dK kvs)/\k=!kvs.isEmpty:=e;rcases e' with⟨xs,hx,e'⟩ | ⟨xs,hx,e'⟩ | ⟨kvs,hx,e'⟩
  ·subst e';obtain⟨its,r,pl,hz⟩:=I.list hx;have hlen:=r.length;exact wpAny_truthy_list pl.isList (by simp only [OH];omega) ⟨H,I.tok _,by rw [zx r];exact q⟩
  ·subst e';obtain⟨its,r,pl,hz⟩:=I.tuple hx;have hlen:=r.length;exact truthy_tuple pl (by simp only [OH];omega) ⟨H,I.tok _,by rw [zx r];exact q⟩
  ·subst e';obtain⟨hz,hS,vs,r,m⟩:kvs.length<=VV/\(p==Wo)=false/\∃vs,KV kvs vs/\s.heap.DictOf (dQ X.prog X.w) p vs:=I.hok p _ hx;have hlen:kvs.length=vs.length:=Td r;exact wpAny_truthy_dict hS m VD ⟨H,I.tok _,by rw [FF r];exact q⟩
 | _=>exact(show False from e).elim
theorem FH(ha:PE X a ta)(he:∀whole,isTrue a X.env whole=(do let v<-whole;WZ a.pos;WR [v] (truthy v))):
 PT X a (λσ H Q=>ta σ H λx H'=>∃k,zw X.K x H' k/\Q k H'):=by
 intro Xl s σ H Q I h;exact isTrue_plain (aG (ha Xl s σ H _ I h) λv s1 uu34=>by obtain⟨x,H1,I1,r1,q1⟩:=uu34;exact FG Xl s1 σ H1 x v Q I1 r1 q1) (he _)
theorem zy:bU X (Wn .Add) (λx y H Q=>∃i j,x= .str i/\y= .str j/\i.length+j.length<=VV/\Q (.str (i++j)) H):=by
 intro Xl s σ H x y v u Q I rx ry h;obtain⟨i,j,rfl,rfl,hz,q⟩:=h;obtain⟨t,rfl⟩:=rx;obtain⟨t',rfl⟩:=ry;exact add_str (λt' tk=>⟨.str (i++j),H,I.tok _,⟨_,rfl⟩,q⟩) hz
theorem fu{x:V}{us:List VJ}(r:aP [x] us):∃u,us=[u]/\aO x u:=by
 cases r with
 | cons r1 r2=>cases r2;exact⟨_,rfl,r1⟩
theorem vH{x y:V}{us:List VJ}(r:aP [x,y] us):∃u w',us=[u,w']/\aO x u/\aO y w':=by
 cases r with
 | cons r1 r2=>
  cases r2 with
  | cons r3 r4=>cases r4;exact⟨_,_,rfl,r1,r3⟩
theorem FI:dZ X (.builtin "abs") (λxs H Q=>∃i,xs=[.int i]/\Q (.int (if i < 0 then -i else i)) H):=by
 intro Xl s σ H xs us Q I r h;obtain⟨i,rfl,q⟩:=h;obtain⟨u,rfl,t,rfl⟩:=fu r;exact call_abs_int λu tk=>⟨.int (if i < 0 then -i else i),H,I.tok _,⟨_,rfl⟩,q⟩
theorem zz(hc:X.calm=true):dZ X (.builtin "max") (λxs H Q=>∃i j,xs=[.int i,.int j]/\Q (.int (if j > i then j else i)) H):=by
 intro Xl s σ H xs us Q I r h;obtain⟨i,j,rfl,q⟩:=h;obtain⟨u,w',rfl,⟨t,rfl⟩,⟨t',rfl⟩⟩:=vH r;refine max_two_ints (I.ok.hd hc) λh' tk k=>⟨_,H,I.kept k,?_,q⟩;by_cases hj:j > i
 ·rw [VF hj,VF hj];exact⟨_,rfl⟩
 ·rw [VE hj,VE hj];exact⟨_,rfl⟩
theorem FJ(hc:X.calm=true):dZ X (.builtin "min") (λxs H Q=>∃i j,xs=[.int i,.int j]/\Q (.int (if j < i then j else i)) H):=by
 intro Xl s σ H xs us Q I r h;obtain⟨i,j,rfl,q⟩:=h;obtain⟨u,w',rfl,⟨t,rfl⟩,⟨t',rfl⟩⟩:=vH r;refine min_two_ints (I.ok.hd hc) λh' tk k=>⟨_,H,I.kept k,?_,q⟩;by_cases hj:j < i
 ·rw [VF hj,VF hj];exact⟨_,rfl⟩
 ·rw [VE hj,VE hj];exact⟨_,rfl⟩
theorem sG:dZ X (.type "int") (λxs H Q=>(∃i,xs=[.int i]/\Q (.int i) H)\/∃k,xs=[.bl k]/\Q (.int (if k then 1 else 0)) H):=by
 intro Xl s σ H xs us Q I r h;rcases h with⟨i,rfl,q⟩ | ⟨k,rfl,q⟩
 ·obtain⟨u,rfl,t,rfl⟩:=fu r;exact call_int_int ⟨.int i,H,I,⟨_,rfl⟩,q⟩
 ·obtain⟨u,rfl,r1⟩:=fu r;cases r1;exact call_int_bool ⟨.int (if k then 1 else 0),H,I.tok _,⟨_,rfl⟩,q⟩
end
structure oE (h:VY) (x dx C:VM) (mA:Str->Option VJ):Prop where
 obj:h.get? x=some (QW C dx)
 ns:h.Ns1 dx mA
 ne:dx≠x
theorem FK{h:VY}{dx:VM}{mA:Str->Option VJ}(n:h.Ns1 dx mA):∃od,h.get? dx=some od/\∀name,S6 name od=some (mA name):=by
 obtain⟨o,es,ep,ho,hd,hk,_,hm⟩:=n;refine⟨o,ho,λname=>?_⟩;have e:=hm name;unfold nsFind findBy at e;rw [<-Array.find?_toList] at e;unfold S6;rw [hd];dsimp only;split
 ·rename_i y q;rw [q] at e;exact congrArg some e
 ·rename_i q;rw [q] at e;have a:es.toList.any (·.refKey)=false:=by
   rw [UI];intro y hy;obtain⟨z,t,hkey⟩:=hk y (Ud.mp hy);simp [DictEntry.refKey,hkey]
  have a':¬es.toList.any (·.refKey)=true:=by rw [a];exact Ot
  rw [VE a'];exact congrArg some e
theorem oE.look{h:VY}{x dx C:VM}{mA:Str->Option VJ}(I:oE h x dx C mA):∃od,PySem.W.InstAt h x (QW C dx) C (some od)/\∀name,S6 name od=some (mA name):=
 let ⟨od,ho,hl⟩:=FK I.ns
 ⟨od,⟨I.obj,rfl,rfl,ho⟩,hl⟩
section
variable {prog:VW} {w:VX} {A:V0} {E:VJ->VN->Prop} {s:VN} {K:Og} {x dx C f:VM} {mA:Str->Option VJ} {name:Str} {v:VJ}
theorem FL{expr:Bool}{Q:VJ->VN->Prop}(X:K.In s.heap)(I:oE s.heap x dx C mA)(hg:Q7 K C name=true)(hh:Rz K C=true)
 (ha:OR K (.ref C) name=some none)(hv:mA name=some v)(hv':UT v=true)(h:Q v {s with toks:=s.toks+1}):
 VR (VS prog w) A (getAttr (.ref x) name expr) Q E s:=by
 obtain⟨od,J,hl⟩:=I.look;exact PySem.W.get_value X J (S4 hg).1 (PySem.W.findObj_own hh ha rfl (by rw [hl,hv])) hv' h
theorem FN{pl:Sem Bool}{Q:VJ×List VJ->VN->Prop}(X:K.In s.heap)(I:oE s.heap x dx C mA)(hg:Q7 K C name=true)
 (hf:OR K (.ref C) name=some (some (.ref f)))(ht:QG K (.ref f)=true)(hv:mA name=none)(h:Q (.ref f,[.ref x]) s):
 VR (VS prog w) A (W0 (.ref x) name pl) Q E s:=by
 obtain⟨od,J,hl⟩:=I.look;exact PySem.W.method_fn X J (S4 hg).1 (S4 hg).2 hf (beq_iff_eq.mp ht) (by show(S6 name od).map (·.isSome)=some false;rw [hl,hv];rfl) h
theorem FO{ns:List Str}{Q:Unit->VN->Prop}(X:K.In s.heap)(I:oE s.heap x dx C mA)
 (hs:OR K (.ref C) "__setattr__"=some (some (.builtin "object.__setattr__")))(hp:RX K C=true)(ht:TZ K C name=some none)(hh:Rz K C=true)
 (hw:Us mA ns)(hsz:ns.length<=VV)
 (h:∀h',oE h' x dx C (λy=>if y=name then some v else mA y)->QX dx s.heap h'->Q () {s with heap:=h',toks:=s.toks+2}):
 VR (VS prog w) A (setAttr (.ref x) name v) Q E s:=by
 obtain⟨od,J,hl⟩:=I.look;refine PySem.W.set_plain X J hs (PySem.W.osa_open (s:={s with toks:=s.toks+1}) (r:=none) X J hp ht λb=>?_);obtain⟨cd,hc,hd'⟩:=PySem.W.any_some hh;have hx:s.heap.get? x=some ⟨.ref C,some dx,.plain,#[]⟩:=I.obj;refine VL (VO (VL (VL (wpAny_loadPart hx (VL (PySem.W.Looks.here (s:={s with toks:=s.toks+1}) (PySem.W.looks_clsIn X hc) ?_))))));rw [hd'];refine VO (a:=some dx) (VL (VO (VL ?_)));refine wpAny_nsSet1 (s:={s with toks:=s.toks+1}) I.ns λh' hn2 hs2=>?_;obtain⟨oD,esD,epD,hoD,hdD,hcD⟩:=hn2.count (Us.cons name v hw);refine VL (wpAny_lookBehind hoD (by rw [hdD];exact pastItsLine_dict (O7 hcD (by rw [OC];omega))) ?_);exact VO (h _ ⟨(hs2.2 _ (Ne.symm I.ne)).trans I.obj,hn2,I.ne⟩ hs2)
theorem FP{R:Result->VN->Prop}{vs:List VJ}{kw:List (Str×VJ)}(X:K.In s.heap)(hm:Sk K C=true)
 (hi:OR K (.ref C) "__init__"=some (some (.ref f)))(hf:PySem.W.typeIn K (.ref f)=some (.type "function"))
 (h:Wz (VS prog w) (A.under (.builtin "type.__call__" ⟨.ref C::vs,kw⟩)) (.call (.ref f) ⟨.ref (s.heap.objs.size+1)::vs,kw⟩) (PySem.W.InitBack (s.heap.objs.size+1) R)
   {s with heap:=(s.heap.push Qt).push (QW C s.heap.objs.size)}):
 Wz (VS prog w) A (.call (.ref C) ⟨vs,kw⟩) R s:=by
 obtain⟨hh,g,d,t,os⟩:=s;exact PySem.W.make_core (PySem.W.makes_of X hm) (PySem.W.looks_findIn X hi) (λself=>PySem.W.bind_fn X self hf) (.inl rfl) h
end
def dD(f:Str)(v:V):List (Str×V)->List (Str×V)
 | []=>[(f,v)]
 | (g,x)::r=>if g=f then(g,v)::r else(g,x)::dD f v r
theorem zA(f g:Str)(v:V):∀fs:List (Str×V),(dD f v fs).lookup g=if g=f then some v else fs.lookup g
 | []=>by
  show Sg g [(f,v)]=_;by_cases h:g=f
  ·have hb:(g==f)=true:=beq_iff_eq.mpr h;simp only [Sg,hb,VF h]
  ·have hb:(g==f)=false:=beq_eq_false_iff_ne.mpr h;simp only [Sg,hb,VE h]
 | (k,x)::r=>by
  have ih:=zA f g v r;rw [show dD f v ((k,x)::r)=(if k=f then(k,v)::r else(k,x)::dD f v r) from rfl];by_cases hk:k=f
  ·rw [VF hk];by_cases h:g=k
   ·have hb:(g==k)=true:=beq_iff_eq.mpr h;simp only [Sg,hb,VF (h.trans hk)]
   ·have hb:(g==k)=false:=beq_eq_false_iff_ne.mpr h;simp only [Sg,hb,VE (λe:g=f=>h (e.trans hk.symm))]
  ·rw [VE hk];by_cases h:g=k
   ·have hb:(g==k)=true:=beq_iff_eq.mpr h;simp only [Sg,hb,VE (λe:g=f=>hk (h.symm.trans e))]
   ·have hb:(g==k)=false:=beq_eq_false_iff_ne.mpr h;simp only [Sg,hb];exact ih
theorem vI(f:Str)(v:V):∀fs:List (Str×V),f∈(dD f v fs).map (·.1)/\∀g,g∈fs.map (·.1)->g∈(dD f v fs).map (·.1)
 | []=>⟨by simp [dD],λg h=>by simp at h⟩
 | (k,x)::r=>by
  obtain⟨i1,i2⟩:=vI f v r;rw [show dD f v ((k,x)::r)=(if k=f then(k,v)::r else(k,x)::dD f v r) from rfl];by_cases hk:k=f
  ·rw [VF hk];subst hk;exact⟨VH,λg h=>by simpa using h⟩
  ·rw [VE hk];refine⟨?_,λg h=>?_⟩
   ·rw [Ol];exact OT _ i1
   ·rw [Ol] at h⊢;rcases Ox.mp h with e | e
    ·exact Ox.mpr (.inl e)
    ·exact OT _ (i2 g e)
theorem zB(f:Str)(v:V):∀fs:List (Str×V),(dD f v fs).length<=fs.length+1
 | []=>by simp [dD]
 | (k,x)::r=>by
  have ih:=zB f v r;rw [show dD f v ((k,x)::r)=(if k=f then(k,v)::r else(k,x)::dD f v r) from rfl];by_cases hk:k=f
  ·rw [VF hk,OC,OC];omega
  ·rw [VE hk,OC,OC];omega
theorem dY.some_of{v:V}{o:Option VJ}(r:dY (some v) o):∃u,o=some u/\aO v u:=by
 cases o with
 | none=>exact(show False from r).elim
 | some u=>exact⟨u,rfl,r⟩
theorem dY.none_of{o:Option VJ}(r:dY none o):o=none:=by
 cases o with
 | none=>rfl
 | some u=>exact(show False from r).elim
theorem FQ{v:V}{u:VJ}(r:aO v u):UT u=true:=by
 cases v with
 | non=>cases (show u=QI from r);rfl
 | bl b=>cases (show u=Rf b from r);rfl
 | int i=>obtain⟨t,e⟩:=(show ∃t,u=QF i t from r);cases e;rfl
 | str x=>obtain⟨t,e⟩:=(show ∃t,u=RG x t from r);cases e;rfl
 | byt b=>obtain⟨t,e⟩:=(show ∃t,u=Vq b t from r);cases e;rfl
 | flt b=>obtain⟨t,e⟩:=(show ∃t,u=Vr b t from r);cases e;rfl
 | ref a=>cases (show u=O9 a from r);rfl
 | ty n=>cases (show u=RS n from r);rfl
section
variable {P:VW} {w:VX} {H H':Hp} {h h':VY} {a C dx:VM} {fs fs':List (Str×V)}
theorem vJ(hok:bQ P w H h)(e:H a=some (.ins C dx fs)):∃mA,oE h a dx C mA/\(∀f,dY (fs.lookup f) (mA f))/\Us mA (fs.map (·.1))/\fs.length<=1000/\H dx=some (.own a):=by
 obtain⟨d,z,ne,ob,mA,n,r,q⟩:=(show cg P w H h a (.ins C dx fs) from hok a _ e);exact⟨mA,⟨ob,n,ne⟩,r,q,z,d⟩
end
structure dE (K:Og) (C:VM):Prop where
 pg:Q7 K C Ut=true
 hd:Rz K C=true
 po:RX K C=true
 sa:OR K (.ref C) "__setattr__"=some (some (.builtin "object.__setattr__"))
theorem dE.get{K:Og}{C:VM}(c:dE K C)(f:Str):Q7 K C f=true:=c.pg
def cj(K:Og)(C:VM)(f:Str):Prop:=OR K (.ref C) f=some none
theorem cj.taker{K:Og}{C:VM}{f:Str}(n:cj K C f):TZ K C f=some none:=by
 unfold TZ;rw [show OR K (.ref C) f=some none from n];rfl
structure ic (K:Og) (C:VM) (m:Str) (f:VM):Prop where
 at_:OR K (.ref C) m=some (some (.ref f))
 fn:QG K (.ref f)=true
 kp:Oo K (.ref f)=true
section
variable {X:Cx} {Xl:List (VM×Obj)} {σ:St} {H:Hp} {s:VN} {a C dx:VM} {fs:List (Str×V)} {f:Str} {v:V} {A:V0} {E:VJ->VN->Prop}
theorem FT{b:Bool}{Q:VJ->VN->Prop}(I:ah X Xl σ H s)(e:H a=some (.ins C dx fs))(c:dE X.K C)(n:cj X.K C f)(l:fs.lookup f=some v)
 (h:∀u s',ah X Xl σ H s'->aO v u->Q u s'):VR (VS X.prog X.w) A (getAttr (.ref a) f b) Q E s:=by
 obtain⟨mA,O,r,_,_,_⟩:=vJ I.hok e;obtain⟨u,hu,ru⟩:=dY.some_of (v:=v) (o:=mA f) (by rw [<-l];exact r f);exact FL I.kIn O (c.get f) c.hd n hu (FQ ru) (h u _ (I.tok _) ru)
theorem tQ{m:Str}{g:VM}{pl:Sem Bool}{Q:VJ×List VJ->VN->Prop}(I:ah X Xl σ H s)(e:H a=some (.ins C dx fs))(c:dE X.K C)(k:ic X.K C m g)(l:fs.lookup m=none)
 (h:Q (.ref g,[.ref a]) s):VR (VS X.prog X.w) A (W0 (.ref a) m pl) Q E s:=by
 obtain⟨mA,O,r,_,_,_⟩:=vJ I.hok e;have hn:mA m=none:=dY.none_of (by rw [<-l];exact r m);exact FN I.kIn O (c.get m) k.at_ k.fn hn h
theorem FU{y:V}{u:VJ}{Q:Unit->VN->Prop}(I:ah X Xl σ H s)(e:H a=some (.ins C dx fs))(c:dE X.K C)(n:cj X.K C f)(hl:fs.length < 1000)(ry:aO y u)
 (h:∀s',ah X Xl σ (ai H a (.ins C dx (dD f y fs))) s'->Q () s'):VR (VS X.prog X.w) A (setAttr (.ref a) f u) Q E s:=by
 obtain⟨mA,O,r,wi,_,ho⟩:=vJ I.hok e;have hz:(fs.map (·.1)).length<=VV:=by rw [Oe,Wg];omega
 refine FO I.kIn O c.sa c.po n.taker c.hd wi hz λh' O' sb=>h _ ?_;have hd:∃o,h'.get? dx=some o:=let ⟨o,_,_,e',_⟩:=O'.ns;⟨o,e'⟩
 refine I.write (x:=a) (e:=dx) (by rw [e];exact Qi) (.inr ho) (λb q hb z=>(sb.2 b hb).trans z) hd ?_;refine⟨by rw [aC O.ne];exact ho,?_,O.ne,O'.obj,_,O'.ns,λg=>?_,λg hg=>?_⟩
 ·have:=zB f y fs;omega
 ·show dY ((dD f y fs).lookup g) (if g=f then some u else mA g);rw [zA];by_cases q:g=f
  ·rw [VF q,VF q];exact ry
  ·rw [VE q,VE q];exact r g
 ·by_cases q:g=f
  ·rw [q];exact(vI f y fs).1
  ·refine(vI f y fs).2 g (wi g λz=>hg ?_);show(if g=f then some u else mA g)=none;rw [VE q];exact z
theorem ah.made(I:ah X Xl σ H s):ah X Xl σ (ai (ai H s.heap.objs.size (.own (s.heap.objs.size+1))) (s.heap.objs.size+1) (.ins C s.heap.objs.size []))
 {s with heap:=(s.heap.push Qt).push (QW C s.heap.objs.size)}:=by
 have e1:(s.heap.push Qt).get? s.heap.objs.size=some Qt:=OX s.heap rfl;have e2:((s.heap.push Qt).push (QW C s.heap.objs.size)).get? (s.heap.objs.size+1)=some (QW C s.heap.objs.size):=by
  have:=OX (s.heap.push Qt) (o:=QW C s.heap.objs.size) rfl
  rwa [S7] at this
 have e3:(s.heap.push Qt).Ns s.heap.objs.size (λ_=>none):=⟨Qt,#[],_,e1,rfl,(λe he=>absurd he VH),λ_=>rfl⟩;have I1:=I.laid (a:=s.heap.objs.size) (o:= .own (s.heap.objs.size+1)) (h':=s.heap.push Qt) (t':=s.toks) (λb u q=>Ou _ q) (Oi _) ⟨_,e1⟩;refine I1.laid (a:=s.heap.objs.size+1) (o:= .ins C s.heap.objs.size []) (t':=s.toks) (λb u q=>Ou _ q) (Uu (S7 _ _)) ?_;have ne:s.heap.objs.size≠s.heap.objs.size+1:=O6 (QM _);refine⟨by rw [aC ne,bA],Pc _,ne,e2,λ_=>none,(Heap.Ns1.of_empty e3).at λo q=>Ou _ q,λ_=>Qi,λy hy=>absurd rfl hy⟩
theorem FV{prog:VW}{w:VX}{env:Env}{e:VT}{f:Str}{pos:Pos}{s:VN}{Q:VJ->VN->Prop}(hb:Wh e f env (eval e env)=eval e env)
 (h:VR (VS prog w) A (eval e env) (λo s₁=>VR (VS prog w) A (getAttr o f true) Q E s₁) E s):VR (VS prog w) A (eval (.Attribute e f pos) env) Q E s:=
 Attribute_any_ h (by rw [arm_eval_Attribute,hb])
end
def FW(K:Og)(ta:TE)(f:Str):TE:=λσ H Q=>ta σ H λx H1=>∃a C dx fs v,x= .ref a/\H1 a=some (.ins C dx fs)/\dE K C/\cj K C f/\fs.lookup f=some v/\Q v H1
def FX(K:Og)(ta tv:TE)(f:Str):TS:=λD σ H=>tv σ H λy H1=>ta σ H1 λx H2=>∃a C dx fs,x= .ref a/\H2 a=some (.ins C dx fs)/\dE K C/\cj K C f/\fs.length < 1000/\
 D.nx σ (ai H2 a (.ins C dx (dD f y fs)))
section
variable {X:Cx} {o e value:VT} {f:Str} {pos pos' tpos:Pos} {ta tv:TE}
theorem tR(he:PE X e ta)(hb:Wh e f X.env (eval e X.env)=eval e X.env):PE X (.Attribute e f pos) (FW X.K ta f):=by
 intro Xl s σ H Q I h;refine FV hb (aG (he Xl s σ H _ I h) λu s1 ⟨x,H1,I1,rx,a,C,dx,fs,v,ex,ea,c,n,l,q⟩=>?_);subst ex;obtain rfl:u=O9 a:=rx;exact FT I1 ea c n l λu' s2 I2 ru=>⟨v,H1,I2,ru,q⟩
theorem vK(ha:PE X o ta)(hv:PE X value tv)(hs:V5 value (some (.Attribute o f pos')) pos.line X.env=pure false):PS X (.Assign [.Attribute o f pos'] value pos) (FX X.K ta tv f):=by
 intro Xl s σ H D I h;refine plainObj_wpAny_Assign_Attribute (aG (hv Xl s σ H _ I h) λu s1 ⟨y,H1,I1,ry,q⟩=>aG (ha Xl s1 σ H1 _ I1 q) λov s2 ⟨x,H2,I2,rx,a,C,dx,fs,ex,ea,c,n,l,q2⟩=>?_) hs;subst ex;obtain rfl:ov=O9 a:=rx;exact FU I2 ea c n l ry λs3 I3=>⟨σ,_,I3,q2⟩
theorem N8{pl:Sem Bool}{m:Str}{apos:Pos}{args:List VT}{Xl:List (VM×Obj)}{s:VN}{σ:St}{H:Hp}{Q:VJ->VN->Prop}{te:TE}(he:PE X e te)(I:ah X Xl σ H s)
 (h:te σ H λx H1=>∃a C dx fs g,x= .ref a/\H1 a=some (.ins C dx fs)/\dE X.K C/\ic X.K C m g/\fs.lookup m=none/\
   ∀s1,ah X Xl σ H1 s1->VR (VS X.prog X.w) X.A (callWith pos (.ref g) [.ref a] (V4 pos (VQ args X.env)) (Wu pos (Wj [] X.env))) Q X.xe s1)
 (ht:eval (.Call (.Attribute e m apos) args [] pos) X.env=(do
   let ov<-eval e X.env
   WZ apos.atName
   let (f,first)<-WR [ov] (W0 ov m pl)
   callWith pos f first (V4 pos (VQ args X.env)) (Wu pos (Wj [] X.env)))):
 VR (VS X.prog X.w) X.A (eval (.Call (.Attribute e m apos) args [] pos) X.env) Q X.xe s:=by
 refine R4 (pl:=pl) (aG (he Xl s σ H _ I h) λu s1 ⟨x,H1,I1,rx,a,C,dx,fs,g,ex,ea,c,k,l,q⟩=>?_) ht;subst ex;obtain rfl:u=O9 a:=rx;exact tQ I1 ea c k l (q s1 I1)
end
structure bw (k:Nat) (A:V0):Prop where
 hd:A.handled=none
 dp:A.depth+3*k+5 < recursionLimit
 un:A.units+16*k+200 < Wa
theorem bw.mono{j k:Nat}{A:V0}(r:bw k A)(h:j<=k):bw j A:=⟨r.hd,by have:=r.dp;omega,by have:=r.un;omega⟩
theorem bw.deeper{k:Nat}{A:V0}(r:bw (k+1) A)(env:Env):bw k (A.deeper env):=
 ⟨r.hd,by have:=r.dp;show A.depth+1+3*k+5 < _;omega,by have:=r.un;show A.units+3+16*k+200 < _;omega⟩
theorem bw.in1{k:Nat}{A:V0}(r:bw (k+1) A):bw k A.in1:=
 ⟨r.hd,by have:=r.dp;show A.depth+3*k+5 < _;omega,by have:=r.un;show A.units+1+16*k+200 < _;omega⟩
theorem FY{A:V0}{C:VM}{us:List VJ}{kw:List (Str×VJ)}:(A.under (.builtin "type.__call__" ⟨.ref C::us,kw⟩)).depth=A.depth+1:=by
 first | rfl | simp [Uv,Code.weight,Code.isCreation,Code.isGuard,Code.isCaller,Vt,Uw,guardIds]
theorem FZ{A:V0}{C:VM}{us:List VJ}{kw:List (Str×VJ)}:(A.under (.builtin "type.__call__" ⟨.ref C::us,kw⟩)).units=A.units+1:=by
 first | rfl | simp [Uv,Code.cUnits,Vt,Uw]
theorem bw.make{k:Nat}{A:V0}(r:bw (k+1) A)(C:VM)(us:List VJ)(kw:List (Str×VJ)):bw k (A.under (.builtin "type.__call__" ⟨.ref C::us,kw⟩)):=
 ⟨r.hd,by have:=r.dp;rw [FY];omega,by have:=r.un;rw [FZ];omega⟩
theorem bw.depth{k:Nat}{A:V0}(r:bw k A):A.depth < recursionLimit:=by have:=r.dp;omega
theorem bw.units{k:Nat}{A:V0}(r:bw k A):A.units+64 < Wa:=by have:=r.un;omega
theorem bw.units0{k:Nat}{A:V0}(r:bw k A):A.units < Wa:=by have:=r.un;omega
def qL:TA:=λ_ H Q=>Q [] H
def zC(ta:TE)(tr:TA):TA:=λσ H Q=>ta σ H λx H1=>tr σ H1 λxs H2=>Q (x::xs) H2
section
variable {X:Cx} {e:VT} {es:List VT} {te:TE} {t:TA} {pos:Pos}
theorem ck:PA X [] qL:=λ_ _ _ _ H Q I h=>Tq ⟨[],H,I,.nil,h⟩
theorem bF(ha:PE X e te)(hr:PA X es t)(hs:VQ (e::es) X.env=(false,eval e X.env)::VQ es X.env:=by rfl):PA X (e::es) (zC te t):=by
 intro pos Xl s σ H Q I h;rw [hs];show VR _ _ (spliced ((false,eval e X.env)::V4 pos (VQ es X.env))) _ _ s;refine Sw (aG (ha Xl s σ H _ I h) λu s1 ⟨x,H1,I1,r1,q1⟩=>?_);exact aG (hr pos Xl s1 σ H1 _ I1 q1) λus s2 uu40=>by obtain⟨xs,H2,I2,r2,q2⟩:=uu40;exact⟨x::xs,H2,I2,.cons r1 r2,q2⟩
def zD(t:TA):TE:=λσ H Q=>t σ H λxs H1=>xs.length<=VV/\∀p,H1 p=none->Q (.ref p) (ai H1 p (.tup xs))
def zE(t:TA):TE:=λσ H Q=>t σ H λxs H1=>xs.length<=VV/\∀p,H1 p=none->Q (.ref p) (ai H1 p (.lst xs))
theorem zF{x1}(h:PA X es t):PE X (.Tuple es x1 pos) (zD t):=by
 intro Xl s σ H Q I hq;refine wpAny_Tuple_spliced (aG (h pos Xl s σ H _ I hq) λus s1 ⟨xs,H1,I1,r,z,q⟩=>⟨by rw [<-r.length];exact z,?_⟩);have hf:H1 s1.heap.objs.size=none:=I1.hok.fresh (Oi _);refine⟨.ref s1.heap.objs.size,ai H1 s1.heap.objs.size (.tup xs),I1.laid (t':=s1.toks) (λb u e=>Ou _ e) (Oi _) ?_,rfl,q _ hf⟩;exact⟨z,us,r,⟨_,OX _ rfl,rfl,_,rfl⟩⟩
theorem Ga(h:PA X es t):PE X (.List es pos) (zE t):=by
 intro Xl s σ H Q I hq;refine wpAny_List_spliced (aG (h pos Xl s σ H _ I hq) λus s1 ⟨xs,H1,I1,r,z,q⟩=>⟨by rw [<-r.length];exact z,?_⟩);have hf:H1 s1.heap.objs.size=none:=I1.hok.fresh (Oi _);refine⟨.ref s1.heap.objs.size,ai H1 s1.heap.objs.size (.lst xs),I1.laid (t':=s1.toks) (λb u e=>Ou _ e) (Oi _) ?_,rfl,q _ hf⟩;exact⟨z,us,0,r,OX _ rfl⟩
end
abbrev Sp:=List V->Hp->VK->XK->Prop
abbrev eY:=List Env->Hp->VN->XK->VJ->VN->Prop
structure iT (P:VW) (w:VX) (K:Og) (mg:Str->Option VJ) (base:VY) (A:V0) (outer:List Env) (s:VN) (H:Hp):Prop where
 frames:A.frames=some outer
 mod:Mod K mg base
 bs:∀b o,base.get? b=some o->s.heap.get? b=some o/\H b=none
 bsz:base.objs.size<=s.heap.objs.size
 funs:s.heap.FunFrames base outer
 frf:∀b∈gh outer,H b=none
 hok:bQ P w H s.heap
 bare:WY s.gens
def CE(outer:List Env)(P:VW)(w:VX)(H:Hp)(s:VN)(Q:VK)(u:VJ)(s':VN):Prop:=
 ∃v H',s'.os=s.os/\WY s'.gens/\Un (gh outer) [] H H' s.heap s'.heap/\bQ P w H' s'.heap/\aO v u/\Q v H'
def CR(CX:eY)(outer:List Env)(P:VW)(w:VX)(H:Hp)(s:VN)(Q:VK)(E:XK)(r:Result)(s':VN):Prop:=
 match r with
 | .ok (.ret u)=>CE outer P w H s Q u s'
 | .ok _=>False
 | .error e=>CX outer H s E e s'
structure aD (P:VW) (w:VX) (K:Og) (mg:Str->Option VJ) (base:VY) (CX:eY) (k:Nat) (f:VM) (fd:VU) (ps:List Str) (sp:Sp):Prop where
 len:∀vs H Q E,sp vs H Q E->vs.length=ps.length
 run:∀(A:V0)(outer:List Env)(s:VN)(H:Hp)(args:Args)(us:List VJ)(vs:List V)(Q:VK)(E:XK),bw k A->iT P w K mg base A outer s H->BindsTo s fd args (ps.zip us)->aP vs us->sp vs H Q E->
  Wz (VS P w) A (.call (.ref f) args) (CR CX outer P w H s Q E) s
theorem aD.imp{P:VW}{w:VX}{K:Og}{mg:Str->Option VJ}{base:VY}{CX:eY}{k:Nat}{f:VM}{fd:VU}{ps:List Str}{sp sp':Sp}(F:aD P w K mg base CX k f fd ps sp)
 (h:∀vs H Q E,sp' vs H Q E->sp vs H Q E):aD P w K mg base CX k f fd ps sp':=
 ⟨λvs H Q E q=>F.len vs H Q E (h _ _ _ _ q),λA outer s H args us vs Q E hr he hb hv hs=>F.run A outer s H args us vs Q E hr he hb hv (h _ _ _ _ hs)⟩
theorem iT.make{P:VW}{w:VX}{K:Og}{mg:Str->Option VJ}{base:VY}{A:V0}{outer:List Env}{s:VN}{H:Hp}(e:iT P w K mg base A outer s H)(C:VM)(us:List VJ)(kw:List (Str×VJ)):
 iT P w K mg base (A.under (.builtin "type.__call__" ⟨.ref C::us,kw⟩)) outer s H:=⟨by first | exact e.frames | (simpa [Uv,Code.envs,Uw,pushEnvs] using e.frames),e.mod,e.bs,e.bsz,e.funs,e.frf,e.hok,e.bare⟩
theorem iT.in1{P:VW}{w:VX}{K:Og}{mg:Str->Option VJ}{base:VY}{A:V0}{outer:List Env}{s:VN}{H:Hp}(e:iT P w K mg base A outer s H):
 iT P w K mg base A.in1 outer s H:=⟨e.frames,e.mod,e.bs,e.bsz,e.funs,e.frf,e.hok,e.bare⟩
section
variable {X:Cx} {Xl:List (VM×Obj)} {σ:St} {H:Hp} {s s':VN}
theorem ah.env0(I:ah X Xl σ H s):iT X.prog X.w X.K X.mg X.base X.A X.stack s H:=
 ⟨I.ok.frames,I.ok.mod,I.bs,O7 I.ok.bsz I.sz,I.stack,I.stkFree,I.hok,I.bare⟩
theorem ah.after{Q:VK}{u:VJ}(I:ah X Xl σ H s)(h:CE X.stack X.prog X.w H s Q u s'):EP X Xl σ Q u s':=by
 obtain⟨v,H',os,bare,un,hok,r,q⟩:=h;obtain⟨hh,g,d,t,os'⟩:=s';obtain rfl:os'=s.os:=os;exact⟨v,H',I.call (h':=hh) (g':=g) (d':=d) (t':=t) (ch:=[]) un hok bare (λb z=>absurd z VH),r,q⟩
end
def sH(sp:Sp)(dvs:List V)(E:XK)(t:TA):TE:=λσ H Q=>t σ H λvs H1=>sp (vs++dvs) H1 Q E
def sI(C:VM)(m:Str)(sp:Sp)(dvs:List V)(E:XK)(ta:TE)(t:TA):TE:=λσ H Q=>ta σ H λx H1=>∃a dx fs,x= .ref a/\H1 a=some (.ins C dx fs)/\fs.lookup m=none/\
 t σ H1 λvs H2=>sp (x::(vs++dvs)) H2 Q E
def zG(C:VM)(sp:Sp)(dvs:List V)(E:XK)(t:TA):TE:=λσ H Q=>t σ H λvs H1=>∀x dx,H1 x=none->H1 dx=none->dx≠x->
 sp (.ref x::(vs++dvs)) (ai (ai H1 dx (.own x)) x (.ins C dx [])) (λv H2=>v= .non/\Q (.ref x) H2) E
def aK(K:Og)(fd:VU)(ps:List Str)(ds:List VJ):Prop:=
 ∀(s:VN)(us:List VJ),K.In s.heap->(us++ds).length=ps.length->BindsTo s fd ⟨us,[]⟩ (ps.zip (us++ds))
theorem aK.all{K:Og}{fd:VU}{ps:List Str}(h:∀us:List VJ,us.length=ps.length->bindArgs fd ⟨us,[]⟩=pure (ps.zip us)):aK K fd ps []:=λs us _ hl=>by
 rw [Pj] at hl⊢;exact .of_eq (h us hl)
def gL(CX:eY)(X:Cx)(E:XK):Prop:=∀(Xl:List (VM×Obj))(σ:St)(H:Hp)(s:VN)(e:VJ)(s':VN),ah X Xl σ H s->CX X.stack H s E e s'->X.xe e s'
section
variable {X:Cx} {CX:eY} {k:Nat} {f C:VM} {fd:VU} {ps:List Str} {sp:Sp} {dvs:List V} {ds:List VJ} {E:XK} {x m:Str} {p pos apos:Pos} {e o:VT} {es:List VT} {ta:TE} {t:TA}
theorem sJ{Xl:List (VM×Obj)}{σ:St}{H:Hp}{s:VN}{Q:VK}{us:List VJ}{vs:List V}(F:aD X.prog X.w X.K X.mg X.base CX k f fd ps sp)(hr:bw k X.A)(hb:aK X.K fd ps ds)(hd:aP dvs ds)(hx:gL CX X E)
 (I:ah X Xl σ H s)(r:aP vs us)(h:sp (vs++dvs) H Q E):VR (VS X.prog X.w) X.A (call (.ref f) us) (EP X Xl σ Q) X.xe s:=by
 have r2:aP (vs++dvs) (us++ds):=r.append hd;have hl:(us++ds).length=ps.length:=by rw [<-r2.length];exact F.len _ _ _ _ h
 refine wpAny_call (Wv (F.run X.A X.stack s H ⟨us,[]⟩ (us++ds) (vs++dvs) Q E hr I.env0 (hb s us I.kIn hl) r2 h) λr s' hq=>?_);cases r with
 | error e=>exact hx Xl σ H s e s' I hq
 | ok fl=>
  cases fl with
  | ret u=>exact I.after hq
  | next=>exact Qq hq
  | brk=>exact Qq hq
  | cont=>exact Qq hq
theorem aH(F:aD X.prog X.w X.K X.mg X.base CX k f fd ps sp)(hr:bw k X.A)(hg:Gl X x)(hm:X.mg x=some (.ref f))(hk:Oo X.K (.ref f)=true)(hb:aK X.K fd ps ds)(hd:aP dvs ds)(hx:gL CX X E)
 (ha:PA X (e::es) t)(hdb:(x==("__debug__":Str))=false:=by decide)(he:VQ (e::es) X.env=(false,eval e X.env)::VQ es X.env:=by rfl)(hpl:(V4 pos (VQ es X.env)).any (·.1)=false:=by rfl):
 PE X (.Call (.Name x p) (e::es) [] pos) (sH sp dvs E t):=by
 intro Xl s σ H Q I h;refine Wq (sg I hg hm ?_ hdb);refine Sx (h₀:=X.base) I.ok.mod.kin hk (aG (ha pos Xl s σ H _ I h) λus s1 ⟨vs,H1,I1,r,q⟩=>⟨I1.kIn,?_⟩) he hpl;exact sJ F hr hb hd hx I1 r q
theorem Gb(F:aD X.prog X.w X.K X.mg X.base CX k f fd ps sp)(hr:bw k X.A)(hg:Gl X x)(hm:X.mg x=some (.ref f))(hk:Oo X.K (.ref f)=true)(hb:aK X.K fd ps ds)(hd:aP dvs ds)(hx:gL CX X E)
 (hdb:(x==("__debug__":Str))=false:=by decide):PE X (.Call (.Name x p) [] [] pos) (sH sp dvs E qL):=by
 intro Xl s σ H Q I h;refine Wq (sg I hg hm ?_ hdb);exact Uk I.kIn hk (sJ (us:=[]) F hr hb hd hx I .nil h)
theorem zH{pl:Sem Bool}(he:PE X o ta)(c:dE X.K C)(hm:ic X.K C m f)(F:aD X.prog X.w X.K X.mg X.base CX k f fd ps sp)(hr:bw k X.A)(hb:aK X.K fd ps ds)(hd:aP dvs ds)(hx:gL CX X E)(ha:PA X (e::es) t)
 (hst:VQ (e::es) X.env=(false,eval e X.env)::VQ es X.env:=by rfl)(hpl:(V4 pos (VQ es X.env)).any (·.1)=false:=by rfl)
 (ht:eval (.Call (.Attribute o m apos) (e::es) [] pos) X.env=(do
   let ov<-eval o X.env
   WZ apos.atName
   let (f,first)<-WR [ov] (W0 ov m pl)
   callWith pos f first (V4 pos (VQ (e::es) X.env)) (Wu pos (Wj [] X.env))):=by rfl):
 PE X (.Call (.Attribute o m apos) (e::es) [] pos) (sI C m sp dvs E ta t):=by
 intro Xl s σ H Q I h;refine R4 (pl:=pl) (aG (he Xl s σ H _ I h) λu s1 ⟨x,H1,I1,rx,a,dx,fs,ex,ea,l,q⟩=>?_) ht;subst ex;obtain rfl:u=O9 a:=rx;refine tQ I1 ea c hm l ?_;refine Sx (first:=[.ref a]) (h₀:=X.base) I.ok.mod.kin hm.kp (aG (ha pos Xl s1 σ H1 _ I1 q) λus s2 ⟨vs,H2,I2,r,q2⟩=>⟨I2.kIn,?_⟩) hst hpl;exact sJ (us:= .ref a::us) (vs:= .ref a::vs) F hr hb hd hx I2 (.cons rfl r) q2
theorem tS{pl:Sem Bool}(he:PE X o ta)(c:dE X.K C)(hm:ic X.K C m f)(F:aD X.prog X.w X.K X.mg X.base CX k f fd ps sp)(hr:bw k X.A)(hb:aK X.K fd ps ds)(hd:aP dvs ds)(hx:gL CX X E)
 (ht:eval (.Call (.Attribute o m apos) [] [] pos) X.env=(do
   let ov<-eval o X.env
   WZ apos.atName
   let (f,first)<-WR [ov] (W0 ov m pl)
   callWith pos f first (V4 pos (VQ [] X.env)) (Wu pos (Wj [] X.env))):=by rfl):
 PE X (.Call (.Attribute o m apos) [] [] pos) (sI C m sp dvs E ta qL):=by
 intro Xl s σ H Q I h;refine R4 (pl:=pl) (aG (he Xl s σ H _ I h) λu s1 ⟨x,H1,I1,rx,a,dx,fs,ex,ea,l,q⟩=>?_) ht;subst ex;obtain rfl:u=O9 a:=rx;refine tQ I1 ea c hm l ?_;exact Uk (first:=[.ref a]) I1.kIn hm.kp (sJ (us:=[.ref a]) (vs:=[.ref a]) F hr hb hd hx I1 (.cons rfl .nil) q)
structure Mk (K:Og) (C f:VM):Prop where
 makes:Sk K C=true
 init:OR K (.ref C) "__init__"=some (some (.ref f))
 fn:QG K (.ref f)=true
 kp:Oo K (.ref C)=true
theorem Gd{Xl:List (VM×Obj)}{σ:St}{H:Hp}{s:VN}{Q:VK}{us:List VJ}{vs:List V}(M:Mk X.K C f)(F:aD X.prog X.w X.K X.mg X.base CX k f fd ps sp)(hr:bw (k+1) X.A)(hb:aK X.K fd ps ds)(hd:aP dvs ds)
 (hx:gL CX X E)(I:ah X Xl σ H s)(r:aP vs us)
 (h:∀x dx,H x=none->H dx=none->dx≠x->sp (.ref x::(vs++dvs)) (ai (ai H dx (.own x)) x (.ins C dx [])) (λv H2=>v= .non/\Q (.ref x) H2) E):
 VR (VS X.prog X.w) X.A (call (.ref C) us) (EP X Xl σ Q) X.xe s:=by
 have hq:=h (s.heap.objs.size+1) s.heap.objs.size (I.hok.fresh (Qj _)) (I.hok.fresh (Oi _)) (O6 (QM _));have I2:=ah.made (C:=C) I;have r2:aP (V.ref (s.heap.objs.size+1)::(vs++dvs)) (O9 (s.heap.objs.size+1)::(us++ds)):= .cons rfl (r.append hd);have hl:(O9 (s.heap.objs.size+1)::us++ds).length=ps.length:=by
  have e:=r2.length;rw [F.len _ _ _ _ hq] at e;exact e.symm
 refine wpAny_call (FP (f:=f) I.kIn M.makes M.init (beq_iff_eq.mp M.fn) (Wv (F.run _ X.stack _ _ ⟨O9 (s.heap.objs.size+1)::us,[]⟩ (O9 (s.heap.objs.size+1)::(us++ds)) _ _ E (hr.make C us [])
  (I2.env0.make C us []) (hb _ (O9 (s.heap.objs.size+1)::us) I2.kIn hl) r2 hq) λr s' hq'=>?_))
 cases r with
 | error e=>exact hx Xl σ _ _ e s' I2 hq'
 | ok fl=>
  cases fl with
  | ret u=>
   obtain⟨v,H',I3,rv,ev,q3⟩:=I2.after hq';subst ev;exact⟨rv,⟨V.ref (s.heap.objs.size+1),H',I3,rfl,q3⟩⟩
  | next=>exact Qq hq'
  | brk=>exact Qq hq'
  | cont=>exact Qq hq'
theorem tT(M:Mk X.K C f)(F:aD X.prog X.w X.K X.mg X.base CX k f fd ps sp)(hr:bw (k+1) X.A)(hg:Gl X x)(hm:X.mg x=some (.ref C))(hb:aK X.K fd ps ds)(hd:aP dvs ds)(hx:gL CX X E)
 (ha:PA X (e::es) t)(hdb:(x==("__debug__":Str))=false:=by decide)(he:VQ (e::es) X.env=(false,eval e X.env)::VQ es X.env:=by rfl)(hpl:(V4 pos (VQ es X.env)).any (·.1)=false:=by rfl):
 PE X (.Call (.Name x p) (e::es) [] pos) (zG C sp dvs E t):=by
 intro Xl s σ H Q I h;refine Wq (sg I hg hm ?_ hdb);refine Sx (h₀:=X.base) I.ok.mod.kin M.kp (aG (ha pos Xl s σ H _ I h) λus s1 ⟨vs,H1,I1,r,q⟩=>⟨I1.kIn,?_⟩) he hpl;exact Gd M F hr hb hd hx I1 r q
end
section
variable {X:Cx} {CX:eY} {k:Nat} {f C:VM} {fd:VU} {ps ks:List Str} {sp:Sp} {E:XK} {x m:Str} {p pos apos kpos:Pos} {e o:VT} {es:List VT} {kws:List WA} {te ta:TE} {t tk:TA} {nm:Option Str}
variable {g:List VJ->List VJ->List VJ} {gV:List V->List V->List V}
end
structure aV (N P:List Str) (sc:Wm):Prop where
 kind:sc.kind= .function
 co:sc.isCoroutine=false
 gen:sc.isGenerator=false
 nd:N.Nodup
 pre:N.take P.length=P
 par:∀x∈P,sc.names.lookup x=some .local\/sc.names.lookup x=some .cell
 nofree:∀y∈sc.names,y.2≠ .free
theorem zI{kindOf:Str->Option Ww}{x:Str}:∀{binds:List (Str×VJ)}{m:Str->Option VJ},(∀v,(x,v)∉ binds)->bindL kindOf binds m x=m x
 | [],_,_=>rfl
 | (n,v)::r,m,h=>by
  unfold bindL;rw [zI λw hw=>h w (OT _ hw)];split
  ·have:x≠n:=by rintro rfl;exact h v Pa
   simp [this]
  ·rfl
theorem zJ{kindOf:Str->Option Ww}{x:Str}:∀{binds:List (Str×VJ)}{m:Str->Option VJ},(∀v,(x,v)∉ binds)->bindC kindOf binds m x=m x
 | [],_,_=>rfl
 | (n,v)::r,m,h=>by
  unfold bindC;rw [zJ λw hw=>h w (OT _ hw)];split
  ·rfl
  ·have:x≠n:=by rintro rfl;exact h v Pa
   simp [this]
theorem zK{kindOf:Str->Option Ww}{x:Str}{v:VJ}:∀{P:List Str}{vs:List VJ}{i:Nat}{m:Str->Option VJ},P.Nodup->P[i]?=some x->vs[i]?=some v->kindOf x=some .local->
 bindL kindOf (P.zip vs) m x=some v
 | [],_,_,_,_,h,_,_=>by simp at h
 | _::_,[],_,_,_,_,h,_=>by simp at h
 | p::P,w::vs,0,m,nd,h1,h2,hk=>by
  simp at h1 h2;subst h1;subst h2;show bindL kindOf ((p,w)::P.zip vs) m p=_;unfold bindL;rw [zI λv hv=>(P6.mp nd).1 (T1 hv).1,VF hk];simp
 | p::P,w::vs,i+1,m,nd,h1,h2,hk=>by
  show bindL kindOf ((p,w)::P.zip vs) m x=_;unfold bindL;exact zK (i:=i) (P6.mp nd).2 (by simpa using h1) (by simpa using h2) hk
theorem zL{kindOf:Str->Option Ww}{x:Str}{v:VJ}:∀{P:List Str}{vs:List VJ}{i:Nat}{m:Str->Option VJ},P.Nodup->P[i]?=some x->vs[i]?=some v->kindOf x≠some .local->
 bindC kindOf (P.zip vs) m x=some v
 | [],_,_,_,_,h,_,_=>by simp at h
 | _::_,[],_,_,_,_,h,_=>by simp at h
 | p::P,w::vs,0,m,nd,h1,h2,hk=>by
  simp at h1 h2;subst h1;subst h2;show bindC kindOf ((p,w)::P.zip vs) m p=_;unfold bindC;rw [zJ λv hv=>(P6.mp nd).1 (T1 hv).1,VE hk];simp
 | p::P,w::vs,i+1,m,nd,h1,h2,hk=>by
  show bindC kindOf ((p,w)::P.zip vs) m x=_;unfold bindC;exact zL (i:=i) (P6.mp nd).2 (by simpa using h1) (by simpa using h2) hk
def start(N:List Str)(vs:List V):St:=vs.map some++OL (N.length - vs.length) none
def ie(CX:eY)(P:VW)(w:VX)(K:Og)(mg:Str->Option VJ)(base:VY)(N:List Str)(qual:Str)(scope:Wm)(f:VM)(cd:VJ)(A:V0)(outer:List Env)(s:VN)(H:Hp)(E:XK):Cx where
 prog:=P
 w:=w
 K:=K
 mg:=mg
 base:=base
 A:=A.deeper (WI qual scope s.heap.objs.size f cd)
 N:=N
 s₀:=s
 H₀:=H
 env:=WI qual scope s.heap.objs.size f cd
 outer:=outer
 stack:=WI qual scope s.heap.objs.size f cd::outer
 ex:=[]
 calm:=true
 fn:=λ_=>true
 pn:=[]
 xe:=λe s'=>VR (VS P w) (A.deeper (WI qual scope s.heap.objs.size f cd)) (leaving (WI qual scope s.heap.objs.size f cd) e) (λ_ s''=>CX outer H s E e s'') (λe' s''=>CX outer H s E e' s'') s'
theorem zM{sc:Wm}{n:Nat}{x:Str}(h:sc.names.lookup x=some .cell):∃c,(cellsFrom n sc.names []).lookup x=some c:=by
 have q:=T3 sc.names n [] (.inl h);exact Sy.mp q
theorem Ge{CX:eY}{P:VW}{w:VX}{K:Og}{mg:Str->Option VJ}{base:VY}{N ps:List Str}{qual:Str}{scope:Wm}{f:VM}{cd:VJ}{A:V0}{outer:List Env}{s s1:VN}{H:Hp}{E:XK}{us:List VJ}{vs:List V}
 (S:aV N ps scope)(hd:A.handled=none)(e0:iT P w K mg base A outer s H)(hl:vs.length=ps.length)(r:aP vs us)
 (x:InCallC s s.heap.objs.size (bindL (WI qual scope s.heap.objs.size f cd).kindOf (ps.zip us) λ_=>none) (cellsFrom (s.heap.objs.size+1) scope.names []) (bindC (WI qual scope s.heap.objs.size f cd).kindOf (ps.zip us) λ_=>none) s1):
 ah (ie CX P w K mg base N qual scope f cd A outer s H E) [] (start N vs) H s1:=by
 have hpl:ps.length<=N.length:=by have:=congrArg S9 S.pre;rw [Pf] at this;omega
 obtain⟨h1,tk,rfl,hk⟩:=x.done;have noA:∀b:VM,b ∉ (ie CX P w K mg base N qual scope f cd A outer s H E).ex:=λb z=>absurd (show b∈([]:List VM) from z) VH;refine⟨⟨e0.mod,S.kind,rfl,rfl,Oi _,λy z c h1 h2=>?_,λy hy=>?_,λy c _ h=>?_,λ_=>hd,Around.frames_deeper e0.frames,.inr ⟨rfl,rfl⟩,λb z=>absurd z (noA b),e0.bs,e0.bsz,λb _ _=>noA b,λb z=>absurd z (noA b),e0.funs,e0.frf⟩,
  rfl,e0.bare,Un.kept hk,⟨_,x.toInCall.ns,λi y v h1 h2 h3=>?_⟩,λy c h=>⟨_,x.cell y c h⟩,e0.hok.fresh (Oi _),λy c h=>?_,λp hp=>absurd (show p∈([]:List (VM×Obj)) from hp) VH,e0.hok.kept hk,?_⟩
 ·exact name_of_addr x.apart (Q5 h1) (Q5 h2)
 ·have hy:scope.names.lookup y=some .cell\/scope.names.lookup y=some .free:=hy;rcases hy with hy | hy
  ·exact zM hy
  ·exact absurd rfl (S.nofree _ (Q5 hy))
 ·exact Rj (x.above y c (Q5 h))
 ·have hi:i < vs.length:=by
   unfold start at h2;by_cases hi:i < vs.length
   ·exact hi
   ·rw [Qf (by simpa using hi)] at h2;rw [Q4] at h2;split at h2 <;> cases h2
  have ha:vs[i]?=some v:=by
   unfold start at h2;rw [PH (by simpa using hi),OD] at h2;cases e:vs[i]? with
   | none=>rw [e] at h2;cases h2
   | some a=>rw [e] at h2;cases h2;rfl
  obtain⟨u,hu,rv⟩:=r.get ha;have hp:ps[i]?=some y:=by
   rw [<-S.pre,List.getElem?_take_of_lt VD];exact h1
  have ndP:ps.Nodup:=by rw [<-S.pre];exact S.nd.sublist (List.take_sublist _ _)
  refine⟨u,rv,?_⟩;rcases S.par y (O4 hp) with k | k
  ·exact .inl ⟨k,zK ndP hp hu k⟩
  ·obtain⟨c,e⟩:=zM (n:=s.heap.objs.size+1) k;refine .inr ⟨.inl k,c,e,?_⟩;have q:=x.cell y c e;rw [zL ndP hp hu (by show scope.names.lookup y≠_;rw [k];decide)] at q;exact q
 ·exact e0.hok.fresh (Rj (x.above y c (Q5 h)))
 ·unfold start;show _=N.length;rw [OG,Oe,SO];omega
theorem Gf{CX:eY}{P:VW}{w:VX}{K:Og}{mg:Str->Option VJ}{base:VY}{k:Nat}{f:VM}{name qual:Str}{params:Arguments}{body:List VZ}{scope:Wm}{dV kV doc pm cdv ct oc:VJ}{an od:Option VM}
 {osl:Array (Option VJ)}{N ps:List Str}{sp:Sp}(lk:K.lookup f=some ⟨oc,od,.func (Oh name qual params body scope dV kV doc pm an cdv ct),osl⟩)(hcd:Ow K cdv qual=true)(S:aV N ps scope)
 (len:∀vs H Q E,sp vs H Q E->vs.length=ps.length)
 (hbody:∀(A:V0) (outer:List Env) (s:VN) (H:Hp) (vs:List V) (Q:VK) (E:XK),bw k (A.deeper (WI qual scope s.heap.objs.size f cdv))->sp vs H Q E->
   ∃t,bX (ie CX P w K mg base N qual scope f cdv A outer s H E) body t/\t {nx:=λ_ H'=>Q .non H',rt:=Q} (start N vs) H):
 aD P w K mg base CX (k+1) f (Oh name qual params body scope dV kV doc pm an cdv ct) ps sp:=by
 refine⟨len,λA outer s H args us vs Q E hr e0 hb r hsp=>?_⟩;have hl:=len _ _ _ _ hsp;have KX:K.In s.heap:=e0.mod.kin.keeps λb o e=>(e0.bs b o e).1;have lim:s.heap.NoLimit:=e0.mod.nolimit.keeps λb o e=>(e0.bs b o e).1;have hkind:∀y∈ps.zip us,scope.names.lookup y.1=some .local\/(scope.names.lookup y.1=some .cell/\((cellsFrom (s.heap.objs.size+1) scope.names []).lookup y.1).isSome=true):=λuu48 hy=>by
  obtain⟨n,v⟩:=uu48;rcases S.par n (T1 hy).1 with q | q
  ·exact .inl q
  ·exact .inr ⟨q,T3 _ _ _ (.inl q)⟩
 refine codeAny_call_function hr.depth (KX _ _ lk) rfl S.co S.gen rfl (PySem.W.codeRec_of KX hcd) (hb _ _ _ _ ?_);refine wpAny_newFunctionEnv_cells S.kind hkind λenv he s1 x=>?_;subst he;refine⟨lim.keeps x.toInCall.keep,codeAny_func ?_⟩;obtain⟨t,ht,hq⟩:=hbody A outer s H vs Q E (hr.deeper _) hsp;have I:ah (ie CX P w K mg base N qual scope f cdv A outer s H E) [] (start N vs) H s1:=Ge S hr.hd e0 hl r x;refine V8 (ht [] s1 (start N vs) H _ I hq) (λfl s' hs=>?_) λe s' hs=>hs;have fin:∀{σ':St}{H':Hp}{v:V}{u:VJ},ah (ie CX P w K mg base N qual scope f cdv A outer s H E) [] σ' H' s'->aO v u->Q v H'->CE outer P w H s Q u s':=
  λ{σ' H' v u} J rv q=>⟨v,H',J.os,J.bare,J.base,J.hok,rv,q⟩
 cases fl with
 | ret u=>
  obtain⟨v,σ',H',J,rv,q⟩:=hs;exact fin J rv q
 | next=>
  obtain⟨σ',H',J,q⟩:=hs;exact fin (v:=V.non) (u:=QI) J rfl q
 | brk=>
  obtain⟨_,_,_,q⟩:=hs;exact Qq q
 | cont=>
  obtain⟨_,_,_,q⟩:=hs;exact Qq q
section
variable {X:Cx} {x:Str} {p pos:Pos} {e:VT} {es:List VT} {t:TA} {id T:String} {r:List V->Hp->VK->Prop}
def tU(r:List V->Hp->VK->Prop)(t:TA):TE:=λσ H Q=>t σ H λvs H1=>r vs H1 Q
theorem bV(hc:dZ X (.builtin id) r)(hg:Gl X x)(hm:X.mg x=none)(hv:V1 x=some (.builtin id))(ha:PA X (e::es) t)(hn:x≠"__name__":=by decide)(hdb:(x==("__debug__":Str))=false:=by decide)
 (he:VQ (e::es) X.env=(false,eval e X.env)::VQ es X.env:=by rfl)(hpl:(V4 pos (VQ es X.env)).any (·.1)=false:=by rfl):PE X (.Call (.Name x p) (e::es) [] pos) (tU r t):=by
 intro Xl s σ H Q I h;refine Wq (oB I hg hm hv ?_ hn hdb);exact PyProof.Rows.callWith_builtin1 (aG (ha pos Xl s σ H _ I h) λus s1 uu49=>by obtain⟨vs,H1,I1,r1,q1⟩:=uu49;exact hc Xl s1 σ H1 vs us Q I1 r1 q1) he hpl
theorem dF(hc:dZ X (.type T) r)(hg:Gl X x)(hm:X.mg x=none)(hv:V1 x=some (.type T))(ha:PA X (e::es) t)(hn:x≠"__name__":=by decide)(hdb:(x==("__debug__":Str))=false:=by decide)
 (he:VQ (e::es) X.env=(false,eval e X.env)::VQ es X.env:=by rfl)(hpl:(V4 pos (VQ es X.env)).any (·.1)=false:=by rfl):PE X (.Call (.Name x p) (e::es) [] pos) (tU r t):=by
 intro Xl s σ H Q I h;refine Wq (oB I hg hm hv ?_ hn hdb);exact Rk (aG (ha pos Xl s σ H _ I h) λus s1 uu50=>by obtain⟨vs,H1,I1,r1,q1⟩:=uu50;exact hc Xl s1 σ H1 vs us Q I1 r1 q1) he hpl
end
end L2
namespace HT
open PySem PyProof.Rows
theorem eqAt_int(A:V0)(s:VN)(a:Int)(t:Tok)(c:Int)(u:Tok):∃e,SeqAt.EqAt A s (.int a t) (.int c u) e/\(e=true↔a=c):=
 ⟨(a==c),SeqAt.EqAt.int_int a t c u,VH⟩
theorem rcLt_int(A:V0)(s:VN)(a:Int)(t:Tok)(c:Int)(u:Tok)(prog:VW)(w:VX)(E:VJ->VN->Prop)(Q:VJ->VN->Prop)(h:Q (.bool (decide (a < c))) s):
 VR (VS prog w) A (richCompare .Lt (.int a t) (.int c u)) Q E s:=
 (PyProof.Rows.lt_int h:VR (VS prog w) A (V6 .Lt (.int a t) (.int c u)) Q E s)
section
open PySem.SeqAt
open PySem.AutoSeq1 (wpAny_loadPart')
open PySem.MeetsSeq PySem.MeetsSeq2 PySem.MeetsSeq3
end
section
variable {prog:VW} {w:VX} {A:V0} {E:VJ->VN->Prop} {s:VN}
def sIx(n d:Nat):Option Int->Nat
 | none=>d
 | some v=>if v < 0 then(v+(n:Int)).toNat else min v.toNat n
theorem vL(n d:Nat):sIx n d none=d:=rfl
theorem sIx_nat(n d k:Nat):sIx n d (some (k:Int))=min k n:=by
 show(if (k:Int) < 0 then((k:Int)+(n:Int)).toNat else min (k:Int).toNat n)=min k n;rw [VE VD,Ql]
theorem Gg(n d:Nat)(hd:d<=n)(o:Option Int):sIx n d o<=n:=by
 cases o with
 | none=>exact hd
 | some v=>
  show(if v < 0 then(v+(n:Int)).toNat else min v.toNat n)<=n;by_cases hv:v < 0
  ·rw [VF hv];omega
  ·rw [VE hv];exact TC _ _
theorem zN(v:Int)(n d:Nat):(if v < 0 then max (v+(n:Int)) 0 else min v (n:Int))=((sIx n d (some v):Nat):Int):=by
 show(if v < 0 then max (v+(n:Int)) 0 else min v (n:Int))=(((if v < 0 then(v+(n:Int)).toNat else min v.toNat n):Nat):Int);by_cases hv:v < 0
 ·simp only [VF hv];omega
 ·simp only [VE hv];omega
theorem Gh(lo hi:Option Int)(n:Nat):Sm lo hi 1 (n:Int)=(((sIx n 0 lo:Nat):Int),((sIx n n hi:Nat):Int)):=by
 have h1:¬((1:Int) < 0):=VD
 unfold Sm;simp only [h1,if_false];refine Prod.ext ?_ ?_
 ·cases lo with
  | none=>rfl
  | some v=>exact zN v n 0
 ·cases hi with
  | none=>rfl
  | some v=>exact zN v n n
theorem Gi(i j:Nat):RB (i:Int) (j:Int) 1=j - i:=by
 unfold RB;have h1:(1:Int) > 0:=VD
 simp only [h1,if_true,Int.ediv_one];split <;> omega
theorem zO{v:VJ}{o:Option Int}{Q:Option Int->VN->Prop}(p:IsPart v o)(h:Q o s):VR (VS prog w) A (Builtin.Slice.slicePartIndex v) Q E s:=by
 cases p with
 | none=>exact slicePart_none h
 | int i t=>exact slicePart_int h
theorem sliceApplied_gen{sl:VM}{vl vu:VJ}{lo hi:Option Int}{n:Nat}{Q:Int×Int×Nat->VN->Prop}(hs:s.heap.IsSliceOf sl vl vu .none)(pl:IsPart vl lo)(pu:IsPart vu hi)
 (h:Q (((sIx n 0 lo:Nat):Int),1,sIx n n hi - sIx n 0 lo) s):VR (VS prog w) A (Tf (.ref sl) (pure (n:Int))) Q E s:=by
 obtain⟨os,hos,hcs,hds⟩:=id hs;unfold Tf Builtin.Slice.sliceFields;refine VL (VL (wpAny_field hos hds (x:=vl) rfl (VL (wpAny_field hos hds (x:=vu) rfl (VL (wpAny_field hos hds (x:= .none) rfl (VO ?_)))))));refine VL (slicePart_none ?_);show VR _ _ (if ((1:Int)==0)=true then _ else _) _ _ s;rw [VE VC];refine VL (zO pl (VL (zO pu (VL (VO ?_)))));show VR _ _ (match Sm lo hi 1 (n:Int) with | (lo,hi)=>pure (lo,(1:Int),RB lo hi 1)) _ _ s;rw [Gh lo hi n];show VR _ _ (pure (((sIx n 0 lo:Nat):Int),(1:Int),RB ((sIx n 0 lo:Nat):Int) ((sIx n n hi:Nat):Int) 1)) _ _ s;rw [Gi];exact VO h
theorem Gj(xs:Array VJ)(i k:Nat):((P7 k).filterMap λ(m:Nat)=>xs[((i:Int)+(m:Int)*1).toNat]?).toArray=((xs.toList.drop i).take k).toArray:=by
 have e:(λ(m:Nat)=>xs[((i:Int)+(m:Int)*1).toNat]?)=λm=>xs[i+m]?:=by
  funext m;have:((i:Int)+(m:Int)*1).toNat=i+m:=VD
  rw [this]
 rw [e];have:=pick_run xs i k;rw [Ux] at this;have e2:((λx=>xs[x]?)∘ λx=>i+x)=λm=>xs[i+m]?:=rfl;rw [e2] at this;rw [this]
theorem getItem_tuple_cut{t sl:VM}{items:Array VJ}{vl vu:VJ}{lo hi:Option Int}{Q:VJ->VN->Prop}(ht:IsTup s.heap t items)(hs:s.heap.IsSliceOf sl vl vu .none)(pl:IsPart vl lo)(pu:IsPart vu hi)
 (hw:¬(sIx items.size 0 lo=0/\sIx items.size items.size hi=items.size))
 (h:Q (.ref s.heap.objs.size) {s with heap:=s.heap.push {cls:= .type "tuple",data:= .seq ((items.toList.drop (sIx items.size 0 lo)).take (sIx items.size items.size hi - sIx items.size 0 lo)).toArray}})
 (hsz:items.size<=VV):VR (VS prog w) A (WL (.ref t) (.ref sl)) Q E s:=by
 have htake:sizeOk (.seq ((items.toList.drop (sIx items.size 0 lo)).take (sIx items.size items.size hi - sIx items.size 0 lo)).toArray):=by
  show((items.toList.drop (sIx items.size 0 lo)).take (sIx items.size items.size hi - sIx items.size 0 lo)).toArray.size<=VV;rw [OH,Pf,Q8,O3];omega
 have hj:sIx items.size items.size hi<=items.size:=Gg _ _ (Oi _) hi;obtain⟨os,hos,hcs,hds⟩:=id hs;have hTs:s.TypeIs (.ref sl) "slice":=⟨os,hos,hcs⟩;unfold WL
 try with_reducible refine We ?_
 first | refine VL (VO ?_) | skip
 refine VL (wpAny_sequenceKey ht.typeIs VC ?_);refine VL (Wi (name:=Od "__getitem__") ht.typeIs QU
  (Wb QU ht.typeIs entry_tuple_getitem ?_ (args_tuple_getitem _ _)))
 show VR _ _ (Tg (.ref t) >>=_) _ _ s;refine VL (tupleItemsOf_ ht ?_);refine VL (W5 hTs ?_);rw [VF VC];refine VL (sliceApplied_gen hs pl pu ?_);have hno:¬((((sIx items.size 0 lo:Nat):Int)==0 && (1:Int)==1 && (sIx items.size items.size hi - sIx items.size 0 lo)==items.size)=true):=by
  intro q;rw [Pz,Pz] at q;have q1:((sIx items.size 0 lo:Nat):Int)=0:=eq_of_beq q.1.1;have q2:sIx items.size items.size hi - sIx items.size 0 lo=items.size:=eq_of_beq q.2;exact hw ⟨VD,VD⟩
 show VR _ _ (if (((sIx items.size 0 lo:Nat):Int)==0 && (1:Int)==1 && (sIx items.size items.size hi - sIx items.size 0 lo)==items.size)=true then _ else _) _ _ s;rw [VE hno,Gj]
 first
  | exact VL (m:=RJ _) (V7 (VO ⟨_,rfl,VO h⟩) htake)
  | exact VL (m:=RJ _) (V7 (VL (VO (VO ⟨_,rfl,VO h⟩))) htake)
  | exact VL (VL (m:=RJ _) (V7 (VO (VO ⟨_,rfl,VO h⟩)) htake))
  | exact VL (VL (m:=RJ _) (V7 (VO ⟨_,rfl,VO h⟩) htake))
end
end HT
namespace L2
open PySem PySem.Spec PyProof.Rows
abbrev TO:=St->Hp->(Option Int->Hp->Prop)->Prop
def PO(X:Cx)(e:Option VT)(t:TO):Prop:=
 ∀(Xl:List (VM×Obj))(s:VN)(σ:St)(H:Hp)(Q:Option Int->Hp->Prop),ah X Xl σ H s->t σ H Q->
  VR (VS X.prog X.w) X.A (evalPart e X.env) (λu s'=>∃o H',ah X Xl σ H' s'/\IsPart u o/\Q o H') X.xe s
def Gk:TO:=λ_ H Q=>Q none H
def Gm(t:TE):TO:=λσ H Q=>t σ H λx H1=>∃i,x= .int i/\Q (some i) H1
theorem Gq{ns:List Int}:∀{us:List VJ},aP (ns.map V.int) us->V9 us ns:=by
 induction ns with
 | nil=>intro us r;rw [Pw] at r;cases r;exact .nil
 | cons n ns ih=>
  intro us r;rw [Ol] at r;cases r with
  | cons r1 r2=>
   obtain⟨t,e⟩:=r1;subst e;exact .cons n t (ih r2)
section
variable {X:Cx} {e:VT} {te:TE} {lo hi:Option VT} {tl th:TO} {pos p2:Pos}
theorem Gr:PO X none Gk:=by
 intro Xl s σ H Q I h;rw [evalPart_none];exact VO ⟨none,H,I,.none,h⟩
theorem Gs(h:PE X e te):PO X (some e) (Gm te):=by
 intro Xl s σ H Q I hw;rw [evalPart_some];refine aG (h Xl s σ H _ I hw) λu s1 ⟨x,H1,I1,r1,q1⟩=>?_;obtain⟨i,rfl,q⟩:=q1;obtain⟨t,rfl⟩:=r1;exact⟨some i,H1,I1,.int i t,q⟩
def tV(X:Cx)(r:V->Option Int->Option Int->Hp->VK->Prop):Prop:=
 ∀(Xl:List (VM×Obj))(s:VN)(σ:St)(H:Hp)(x:V)(v vl vu:VJ)(lo hi:Option Int)(sl:VM)(Q:VK),ah X Xl σ H s->aO x v->s.heap.IsSliceOf sl vl vu .none->IsPart vl lo->IsPart vu hi->r x lo hi H Q->
  ∃T id,typeLookup (.type T) "__getitem__"=pure (some (.builtin id))/\s.TypeIs v T/\VR (VS X.prog X.w) X.A (WL v (.ref sl)) (EP X Xl σ Q) X.xe s
def Gu(r:V->Option Int->Option Int->Hp->VK->Prop)(te:TE)(tl th:TO):TE:=λσ H Q=>te σ H λx H1=>tl σ H1 λl H2=>th σ H2 λu H3=>r x l u H3 Q
theorem vM{r:V->Option Int->Option Int->Hp->VK->Prop}(hr:tV X r)(he:PE X e te)(hl:PO X lo tl)(hu:PO X hi th):PE X (.Subscript e (.Slice lo hi none p2) pos) (Gu r te tl th):=by
 intro Xl s σ H Q I h;refine Subscript_ (aG (he Xl s σ H _ I h) λv s1 ⟨x,H1,I1,r1,q1⟩=>?_);refine wpAny_Slice (aG (hl Xl s1 σ H1 _ I1 q1) λvl s2 ⟨l,H2,I2,pl,q2⟩=>aG (hu Xl s2 σ H2 _ I2 q2) λvu s3 ⟨u,H3,I3,pu,q3⟩=>?_);rw [evalPart_none];refine VO ?_;have I4:ah X Xl σ H3 {s3 with heap:=s3.heap.push {cls:= .type "slice",data:= .fields #[vl,vu,.none]}}:=I3.kept (t':=s3.toks) λb ob q=>Ou _ q;obtain⟨T,id,hT,ht,hg⟩:=hr Xl {s3 with heap:=s3.heap.push {cls:= .type "slice",data:= .fields #[vl,vu,.none]}} σ H3 x v vl vu l u s3.heap.objs.size Q I4 r1 (Heap.IsSliceOf.new ..) pl pu q3;show VR (VS X.prog X.w) X.A (subscriptTail e (.Slice lo hi none p2) v (.ref s3.heap.objs.size)) (EP X Xl σ Q) X.xe {s3 with heap:=s3.heap.push {cls:= .type "slice",data:= .fields #[vl,vu,.none]}};exact tail_any (ops:=[.ref s3.heap.objs.size,v]) ht hT hg (by with_unfolding_all rfl)
def jX(xs:List V)(lo hi:Option Int):List V:=(xs.drop (HT.sIx xs.length 0 lo)).take (HT.sIx xs.length xs.length hi - HT.sIx xs.length 0 lo)
theorem zP(xs:List V)(lo hi:Option Int):(jX xs lo hi).length<=xs.length:=by
 unfold jX;rw [Pf,Q8];omega
def Gv(K:Og):V->Option Int->Option Int->Hp->VK->Prop:=λx lo hi H Q=>∃a xs,x= .ref a/\bC K H a xs/\
 ¬(HT.sIx xs.length 0 lo=0/\HT.sIx xs.length xs.length hi=xs.length)/\∀p,H p=none->Q (.ref p) (ai H p (.tup (jX xs lo hi)))
theorem Gw:tV X (Gv X.K):=by
 intro Xl s σ H x v vl vu lo hi sl Q I rx hs pl pu h;obtain⟨a,xs,rfl,hx,hw,q⟩:=h;cases rx;obtain⟨its,r,ht,hz⟩:=I.tuple hx;have hlen:its.toArray.size=xs.length:=by rw [OH];exact r.length.symm
 refine⟨"tuple",_,QU.lookup,ht.typeIs,?_⟩;refine HT.getItem_tuple_cut ht hs pl pu (by rw [hlen];exact hw) ?_ (by rw [hlen];exact hz);rw [hlen];refine⟨.ref s.heap.objs.size,_,I.laid (t':=s.toks) (o:= .tup (jX xs lo hi)) (λb ob q=>Ou _ q) (Oi _) ?_,rfl,q _ (I.hok.fresh (Oi _))⟩;exact⟨O7 (zP xs lo hi) hz,_,(r.drop (HT.sIx xs.length 0 lo)).take (HT.sIx xs.length xs.length hi - HT.sIx xs.length 0 lo),Vz _ _⟩
end
def iU(n:Nat)(i:Int):Option Nat:=if 0<=i then(if i < n then some i.toNat else none) else if -(n:Int)<=i then some (i+n).toNat else none
def atI{α:Type}(xs:List α)(i:Int):Option α:=(iU xs.length i).bind λj=>xs[j]?
theorem Gx{n:Nat}{i:Int}{j:Nat}(h:iU n i=some j):seqIndex? i n=some j/\j < n/\-(n:Int)<=i/\i < n:=by
 unfold iU at h;by_cases h0:0<=i
 ·rw [VF h0] at h;by_cases h1:i < n
  ·rw [VF h1] at h;have e:i.toNat=j:=Ph h;exact⟨by rw [seqIndex_of h0 h1,e],VD,VD,h1⟩
  ·rw [VE h1] at h;cases h
 ·rw [VE h0] at h;by_cases h1:-(n:Int)<=i
  ·rw [VF h1] at h;have e:(i+n).toNat=j:=Ph h;exact⟨by rw [seqIndex_neg VD h1,e],VD,h1,VD⟩
  ·rw [VE h1] at h;cases h
theorem vN{α:Type}{xs:List α}{i:Int}{v:α}(h:atI xs i=some v):∃j,seqIndex? i xs.length=some j/\xs[j]?=some v/\j < xs.length/\-(xs.length:Int)<=i/\i < xs.length:=by
 unfold atI at h;cases e:iU xs.length i with
 | none=>rw [e] at h;cases h
 | some j=>
  rw [e] at h;obtain⟨h1,h2,h3,h4⟩:=Gx e;exact⟨j,h1,h,h2,h3,h4⟩
theorem fM{α:Type}{xs:List α}{j:Nat}{v:α}(h:xs[j]?=some v):atI xs (j:Int)=some v:=by
 have hj:j < xs.length:=(OB.mp h).1;have e:iU xs.length (j:Int)=some j:=by
  unfold iU;rw [VF VD,VF VD];simp
 unfold atI;rw [e];exact h
theorem zQ{α:Type}(xs:List α)(v:α):atI (xs++[v]) (-1)=some v:=by
 have hl:(xs++[v]).length=xs.length+1:=VH
 have e:iU (xs++[v]).length (-1)=some xs.length:=by
  unfold iU;rw [hl,VE VC,VF VD];congr 1;omega
 unfold atI;rw [e];show(xs++[v])[xs.length]?=some v;simp
def Gy(b:VT):Prop:=∀o i,Xc b false o i=operate [o,i] (WL o i)
def sL(X:Cx)(r:R2):Prop:=
 ∀(value slice:VT)(Xl:List (VM×Obj))(s:VN)(σ:St)(H:Hp)(x y:V)(v u:VJ)(Q:VK),ah X Xl σ H s->aO x v->aO y u->r x y H Q->
  Xc slice false v u=operate [v,u] (WL v u)->VR (VS X.prog X.w) X.A (subscriptTail value slice v u) (EP X Xl σ Q) X.xe s
def Gz(X:Cx)(id:String)(r:V->List V->Hp->VK->Prop):Prop:=
 ∀(Xl:List (VM×Obj))(s:VN)(σ:St)(H:Hp)(x:V)(xs:List V)(v:VJ)(us:List VJ)(Q:VK),ah X Xl σ H s->aO x v->aP xs us->r x xs H Q->
  VR (VS X.prog X.w) X.A (call (.builtin id) (v::us)) (EP X Xl σ Q) X.xe s
section
variable {X:Cx} {a b:VT} {ta tb:TE} {pos:Pos}
theorem jY{r:R2}(hr:sL X r)(ha:PE X a ta)(hb:PE X b tb)(hs:Gy b):PE X (.Subscript a b pos) (qK r ta tb):=by
 intro Xl s σ H Q I h;exact Subscript_ (vE ha hb I h λv u s2 x y H2 I2 rx ry q=>hr a b Xl s2 σ H2 x y v u Q I2 rx ry q (hs _ _))
def vO(K:Og):R2:=λx y H Q=>∃p xs i v,x= .ref p/\y= .int i/\bu K H p xs/\atI xs i=some v/\Q v H
def tW(K:Og):R2:=λx y H Q=>∃p xs i v,x= .ref p/\y= .int i/\bC K H p xs/\atI xs i=some v/\Q v H
def zR:R2:=λx y H Q=>∃z i c,x= .str z/\y= .int i/\z.length<=VV/\atI z.cps.toList i=some c/\Q (.str ⟨#[c]⟩) H
theorem aX:sL X (vO X.K):=by
 intro value slice Xl s σ H x y v u Q I rx ry h hs;obtain⟨p,xs,i,z,rfl,rfl,hq,he,q⟩:=h;cases rx;obtain⟨t,rfl⟩:=ry;obtain⟨its,r,pl,hz⟩:=I.list hq;obtain⟨j,h1,h2,h3,h4,h5⟩:=vN he;obtain⟨w,ew,rw'⟩:=r.get h2;have hl:=r.length;have hn:=sF;have fin:EP X Xl σ Q w s:=⟨z,H,I,rw',q⟩;by_cases h0:0<=i
 ·have hj:i.toNat=j:=by
   rw [seqIndex_of h0 h5] at h1;exact Ph h1
  exact item_listR pl.isList h0 VD (by rw [hj];simpa using ew) fin hs
 ·have hj:(i+(its.toArray.size:Int)).toNat=j:=by
   rw [seqIndex_neg VD h4] at h1;rw [OH,<-hl];exact Ph h1
  exact subscriptTail_builtinR (x:=w) pl.isList.typeIs slot_list_getitem.lookup
   (wpAny_getItem_list_neg (Q:=λr s'=>r=w/\EP X Xl σ Q r s') pl.isList VD (by rw [OH] <;> omega) VD (by rw [hj];simpa using ew) ⟨rfl,fin⟩) hs
theorem aF:sL X (tW X.K):=by
 intro value slice Xl s σ H x y v u Q I rx ry h hs;obtain⟨p,xs,i,z,rfl,rfl,hq,he,q⟩:=h;cases rx;obtain⟨t,rfl⟩:=ry;obtain⟨its,r,pl,hz⟩:=I.tuple hq;obtain⟨j,h1,h2,h3,h4,h5⟩:=vN he;obtain⟨w,ew,rw'⟩:=r.get h2;have hl:=r.length;have hn:=sF;have fin:EP X Xl σ Q w s:=⟨z,H,I,rw',q⟩;exact subscriptTail_builtinR (x:=w) pl.typeIs slot_tuple_getitem.lookup
  (getItem_tuple (j:=j) (Q:=λr s'=>r=w/\EP X Xl σ Q r s') pl VD VD (by rw [OH,<-hl];exact h1) (by simpa using ew) ⟨rfl,fin⟩) hs
theorem zS:sL X zR:=by
 intro value slice Xl s σ H x y v u Q I rx ry h hs;obtain⟨z,i,c,rfl,rfl,hz,he,q⟩:=h;obtain⟨t,rfl⟩:=rx;obtain⟨t',rfl⟩:=ry;obtain⟨j,h1,h2,h3,h4,h5⟩:=vN he;have hl:z.cps.toList.length=z.length:=by simp [Str.length]
 rw [hl] at h1 h4 h5;have hn:=sF;exact tail_any (W6 s z t) slot_str_getitem.lookup (getItem_str (c:=c) (by
  have e1:decide (i < -(2 ^ 63:Int))=false:=decide_eq_false VD;have e2:decide (i >= 2 ^ 63)=false:=decide_eq_false VD;rw [e1,e2,QK]) (by rw [h1];simpa using h2) ⟨.str ⟨#[c]⟩,H,I.tok _,⟨_,rfl⟩,q⟩) hs
theorem GA(lo hi:Option Int)(n:Nat):(WM lo hi none n).1=((HT.sIx n 0 lo:Nat):Int)/\(WM lo hi none n).2.1=((HT.sIx n n hi:Nat):Int)/\(WM lo hi none n).2.2=1:=by
 refine⟨?_,?_,rfl⟩
 ·cases lo with
  | none=>simp [WM,HT.sIx]
  | some i=>
   simp only [WM,HT.sIx,TH,show(1:Int) > 0 by decide,if_true];by_cases h:i < 0
   ·simp only [h,if_true] <;> omega
   ·simp only [h,if_false] <;> omega
 ·cases hi with
  | none=>simp [WM,HT.sIx]
  | some i=>
   simp only [WM,HT.sIx,TH,show(1:Int) > 0 by decide,if_true];by_cases h:i < 0
   ·simp only [h,if_true] <;> omega
   ·simp only [h,if_false] <;> omega
theorem GB(its:List VJ)(lo hi:Option Int):slicePick its.toArray lo hi none=((its.drop (HT.sIx its.length 0 lo)).take (HT.sIx its.length its.length hi - HT.sIx its.length 0 lo)).toArray:=by
 obtain⟨h1,h2,h3⟩:=GA lo hi its.toArray.size;unfold slicePick;rw [h1,h2,h3];simp only [sliceRange_one,pick_run,OH] <;> rfl
def GC(K:Og):V->Option Int->Option Int->Hp->VK->Prop:=λx lo hi H Q=>∃a xs,x= .ref a/\bu K H a xs/\∀p,H p=none->Q (.ref p) (ai H p (.lst (jX xs lo hi)))
theorem zT:tV X (GC X.K):=by
 intro Xl s σ H x v vl vu lo hi sl Q I rx hs pl pu h;obtain⟨a,xs,rfl,hx,q⟩:=h;cases rx;obtain⟨its,r,ht,hz⟩:=I.list hx;have hlen:=r.length;refine⟨"list",_,slot_list_getitem.lookup,ht.isList.typeIs,?_⟩;refine wpAny_getItem_list_slice ht.isList hs pl pu .none VH ?_ (by rw [OH] <;> omega);rw [GB,<-hlen];refine⟨.ref s.heap.objs.size,_,I.laid (t':=s.toks) (o:= .lst (jX xs lo hi)) (λb ob q=>Ou _ q) (Oi _) ?_,rfl,q _ (I.hok.fresh (Oi _))⟩;exact⟨O7 (zP xs lo hi) hz,_,0,(r.drop (HT.sIx xs.length 0 lo)).take (HT.sIx xs.length xs.length hi - HT.sIx xs.length 0 lo),OX _ rfl⟩
theorem dj:dZ X (.builtin "len") (λxs H Q=>∃p ys,xs=[.ref p]/\(bu X.K H p ys\/bC X.K H p ys)/\Q (.int ys.length) H):=by
 intro Xl s σ H xs us Q I r h;obtain⟨p,ys,rfl,hq,q⟩:=h;obtain⟨u,rfl,rx⟩:=fu r;cases rx;have hn:=sF;rcases hq with hq | hq
 ·obtain⟨its,r',pl,hz⟩:=I.list hq;have hlen:=r'.length;exact Calls.call_len_list pl.isList (by simp only [OH] <;> omega) ⟨.int ys.length,H,I.tok _,⟨s.toks+1,by rw [OH,hlen]⟩,q⟩
 ·obtain⟨its,r',pl,hz⟩:=I.tuple hq;have hlen:=r'.length;exact len_tuple pl (by simp only [OH] <;> omega) ⟨.int ys.length,H,I.tok _,⟨s.toks+1,by rw [OH,hlen]⟩,q⟩
theorem GF:dZ X (.type "list") (λxs H Q=>∃p ys,xs=[.ref p]/\(bu X.K H p ys\/bC X.K H p ys)/\∀l,H l=none->Q (.ref l) (ai H l (.lst ys))):=by
 intro Xl s σ H xs us Q I r h;obtain⟨p,ys,rfl,hq,q⟩:=h;obtain⟨u,rfl,rx⟩:=fu r;cases rx;have fin:∀(its:List VJ),aP ys its->ys.length<=VV->∀(h':VY)(c':Nat),(∀b o',s.heap.get? b=some o'->h'.get? b=some o')->
  h'.get? s.heap.objs.size=some {cls:= .type "list",dict:=none,data:= .seq its.toArray c',slots:=#[]}->EP X Xl σ Q (.ref s.heap.objs.size) {s with heap:=h'}:=λits r' hz h' c' kp e=>
  ⟨.ref s.heap.objs.size,_,I.laid (t':=s.toks) kp (Oi _) (show cg X.prog X.w _ h' _ (.lst ys) from⟨hz,its,c',r',e⟩),rfl,q _ (I.hok.fresh (Oi _))⟩
 rcases hq with hq | hq
 ·obtain⟨its,r',pl,hz⟩:=I.list hq;have hlen:=r'.length;obtain⟨o,ho,hc,n,hd⟩:=pl.isList;exact call_list_seq p (.inl rfl) ho hc hd (λh' c' kp e=>fin its r' hz h' c' kp e) (by simp only [OH] <;> omega)
 ·obtain⟨its,r',pl,hz⟩:=I.tuple hq;have hlen:=r'.length;obtain⟨o,ho,hc,n,hd⟩:=pl;exact call_list_seq p (.inr rfl) ho hc hd (λh' c' kp e=>fin its r' hz h' c' kp e) (by simp only [OH] <;> omega)
theorem gr:dZ X (.type "tuple") (λxs H Q=>∃p ys,xs=[.ref p]/\((bu X.K H p ys/\∀l,H l=none->Q (.ref l) (ai H l (.tup ys)))\/(bC X.K H p ys/\Q (.ref p) H))):=by
 intro Xl s σ H xs us Q I r h;obtain⟨p,ys,rfl,h⟩:=h;obtain⟨u,rfl,rx⟩:=fu r;cases rx;rcases h with⟨hq,q⟩ | ⟨hq,q⟩
 ·obtain⟨its,r',pl,hz⟩:=I.list hq;have hlen:=r'.length;refine call_tuple_list pl.isList (λh' kp=>?_) (by simp only [OH] <;> omega);have I1:ah X Xl σ H {s with heap:=h'}:=I.kept (t':=s.toks) kp;have I2:ah X Xl σ (ai H h'.objs.size (.tup ys)) {s with heap:=h'.push {cls:= .type "tuple",data:= .seq its.toArray}}:=
   I1.laid (t':=s.toks) (λb o e=>Ou _ e) (Oi _) (show cg X.prog X.w _ _ _ (.tup ys) from⟨hz,its,r',Vz _ _⟩)
  exact⟨.ref h'.objs.size,_,I2,rfl,q _ (I1.hok.fresh (Oi _))⟩
 ·obtain⟨its,r',pl,hz⟩:=I.tuple hq;exact call_tuple_same pl ⟨.ref p,H,I,rfl,q⟩
def zU(K:Og)(T:String)(x:V)(H:Hp):Prop:=match x with
 | .str _=>T="str"
 | .int _=>T="int"
 | .ref p=>(T="list"/\∃xs,bu K H p xs)\/(T="tuple"/\∃o,K.lookup p=some o/\o.cls= .type "tuple"/\o.dict=none)\/
  (T="dict"/\((∃kvs,H p=some (.dK kvs))\/∃kvs,H p=some (.dT kvs)))\/(T="set"/\∃S n,H p=some (.set S n))
 | _=>False
theorem GG{Xl:List (VM×Obj)}{σ:St}{H:Hp}{s:VN}{T:String}{x:V}{v:VJ}(I:ah X Xl σ H s)(r:aO x v)(ty:zU X.K T x H):
 s.TypeIs v T/\∀a,v= .ref a->∃ob,s.heap.get? a=some ob/\ob.dict=none:=by
 cases x with
 | str z=>
  obtain⟨t,rfl⟩:=r;cases (show T="str" from ty);exact⟨W6 s z t,λ_ e=>nomatch e⟩
 | int i=>
  obtain⟨t,rfl⟩:=r;cases (show T="int" from ty);exact⟨typeIs_int s i t,λ_ e=>nomatch e⟩
 | ref p=>
  cases r;rcases ty with⟨rfl,xs,hq⟩ | ⟨rfl,o,hk,hc,hd⟩ | ⟨rfl,hk⟩ | ⟨rfl,S,n,hk⟩
  ·obtain⟨its,_,pl,_⟩:=I.list hq;refine⟨pl.isList.typeIs,λa e=>?_⟩;cases e;obtain⟨o,n,e,c,hd,_⟩:=pl;exact⟨o,e,hd⟩
  ·refine⟨⟨o,I.kIn p o hk,hc⟩,λa e=>?_⟩;cases e;exact⟨o,I.kIn _ o hk,hd⟩
  ·have z:∃o,s.heap.get? p=some o/\o.ExactDict:=by
    rcases hk with⟨kvs,hk⟩ | ⟨kvs,hk⟩
    ·obtain⟨_,_,_,_,o,_,_,e,ex,_⟩:=I.hok p _ hk;exact⟨o,e,ex⟩
    ·obtain⟨_,_,_,_,o,_,_,e,ex,_⟩:=I.hok p _ hk;exact⟨o,e,ex⟩
   obtain⟨o,e,ex⟩:=z;refine⟨⟨o,e,ex.1⟩,λa e2=>?_⟩;cases e2;exact⟨o,e,ex.2.1⟩
  ·obtain⟨o,_,_,_,e,ex,_⟩:=I.hok p _ hk;refine⟨⟨o,e,ex.1⟩,λa e2=>?_⟩;cases e2;exact⟨o,e,ex.2.1⟩
 | _=>exact Qq ty
def GH(K:Og)(T:String)(r:V->List V->Hp->VK->Prop)(to:TE)(t:TA):TE:=λσ H Q=>to σ H λx H1=>zU K T x H1/\t σ H1 λxs H2=>r x xs H2 Q
variable {o e:VT} {es:List VT} {to:TE} {t:TA} {name:Str} {apos cpos:Pos} {T id:String} {r:V->List V->Hp->VK->Prop}
theorem vP(pa:PlainAttrs T)(slot:Slot T name id)(hty:typeOf (.builtin id)=pure (.type "method_descriptor"))(hm:Gz X id r)(ho:PE X o to)(ha:PA X (e::es) t)
 (hbase:Wh o name X.env (eval o X.env)=eval o X.env:=by rfl)
 (hfew:((V4 cpos (VQ (e::es) X.env)).all (λx=>!x.1) && (Wu cpos (Wj [] X.env)).all (λx=>x.1.isSome)
   && decide ((e::es).length+([]:List WA).length+(if ([]:List WA).isEmpty then 0 else 1) < 30))=true:=by rfl)
 (hline:(apos.endLine==cpos.line)=true:=by rfl)(hs:VQ (e::es) X.env=(false,eval e X.env)::VQ es X.env:=by rfl)(hplain:(V4 cpos (VQ es X.env)).any (·.1)=false:=by rfl):
 PE X (.Call (.Attribute o name apos) (e::es) [] cpos) (GH X.K T r to t):=by
 intro Xl s σ H Q I h;refine wpAny_Call_method_late hbase hfew hline rfl (aG (ho Xl s σ H _ I h) λv s1 ⟨x,H1,I1,r1,ty,q1⟩=>?_);obtain⟨h1,h2⟩:=GG I1 r1 ty;refine⟨T,id,pa,slot,hty,h1,h2,?_⟩;have hA:=ha cpos Xl s1 σ H1 _ I1 q1;rw [hs] at hA⊢;refine SJ (by show(false || (V4 cpos (VQ es X.env)).any (·.1))=false;rw [hplain] <;> rfl) (SR ?_);exact aG hA λus s2 uu56=>by obtain⟨vs,H2,I2,r2,q2⟩:=uu56;exact hm Xl s2 σ H2 x vs v us Q I2 r1 r2 q2
end
def vQ(X:Cx)(id:String)(r:V->List V->Hp->VK->Prop):Prop:=
 ∀(Xl:List (VM×Obj))(s:VN)(σ:St)(H:Hp)(x:V)(xs:List V)(v:VJ)(us:List VJ)(Q:VK),ah X Xl σ H s->aO x v->aP xs us->r x xs H Q->
  VR (VS X.prog X.w) X.A (call (.builtin id) (v::us)) (EP X Xl σ Q) X.xe s
theorem aP.one:∀{x:V}{us:List VJ},aP [x] us->∃u,us=[u]/\aO x u
 | _,_,.cons r .nil=>⟨_,rfl,r⟩
theorem aP.rep{xs:List V}{us:List VJ}(h:aP xs us):∀k:Nat,aP (OL k xs).flatten (OL k us).flatten
 | 0=>.nil
 | k+1=>by
  rw [Qk,Qk,RA,RA];exact aP.append h (aP.rep h k)
theorem zV(its:List VJ):∀(k:Nat)(acc:List VJ),
 U3 (λx1 x2=>x1++x2) acc.toArray (OL k its.toArray)=(acc++(OL k its).flatten).toArray
 | 0,acc=>by simp
 | k+1,acc=>by
  have e:acc.toArray++its.toArray=(acc++its).toArray:=VH
  have e2:(acc++its)++(OL k its).flatten=acc++(OL (k+1) its).flatten:=by
   rw [Qk,RA,RY]
  rw [<-e2,<-zV its k (acc++its),<-e,Qk,PF]
section
variable {X:Cx} {Xl:List (VM×Obj)} {σ:St} {H:Hp} {s:VN} {l b:VM} {xs ys zs:List V}
theorem ah.lset{its its':List VJ}{n:Nat}{f:Array VJ->Array VJ}{t':Nat}(I:ah X Xl σ H s)(hH:H l=some (.lst xs))
 (e:s.heap.get? l=some {cls:= .type "list",data:= .seq its.toArray n})(hf:f its.toArray=its'.toArray)(hv:aP ys its')(hz:ys.length<=VV):
 ah X Xl σ (ai H l (.lst ys)) {s with heap:=s.heap.update l (PR f),toks:=t'}:=by
 have q:=PySem.IsL.update e f;rw [hf] at q;refine I.write (x:=l) (e:=l) (by rw [hH];exact trivial) (.inl rfl) (λb' u hb hu=>(Rg s.heap (PR f) (Ne.symm hb)).trans hu) ⟨_,q⟩ ?_;exact⟨hz,its',_,hv,q⟩
theorem ah.lnew{its:List VJ}{t':Nat}(I:ah X Xl σ H s)(hv:aP ys its)(hz:ys.length<=VV):
 ah X Xl σ (ai H s.heap.objs.size (.lst ys)) {s with heap:=s.heap.push {cls:= .type "list",data:= .seq its.toArray},toks:=t'}:=
 I.laid (λ_ _ q=>Ou _ q) (Oi _) ⟨hz,its,0,hv,OX _ rfl⟩
theorem ah.fresh(I:ah X Xl σ H s):H s.heap.objs.size=none:=I.hok.fresh (Oi _)
theorem ah.lstM(I:ah X Xl σ H s)(hH:H l=some (.lst xs)):xs.length<=VV/\∃(its:List VJ)(n:Nat),aP xs its/\xs.length=its.length/\s.heap.get? l=some {cls:= .type "list",data:= .seq its.toArray n}:=by
 obtain⟨z,its,n,r,e⟩:=I.hok l _ hH;exact⟨z,its,n,r,r.length,e⟩
theorem vR{n:Nat}(h:n<=VV):QY n=false:=by
 unfold QY;exact decide_eq_false VD
end
section
variable {X:Cx}
def GI:V->List V->Hp->VK->Prop:=λx vs H Q=>∃l xs y,x= .ref l/\vs=[y]/\H l=some (.lst xs)/\xs.length < VV/\Q .non (ai H l (.lst (xs++[y])))
theorem zW:vQ X "list.append" GI:=by
 intro Xl s σ H x vs v us Q I rx rv h;obtain⟨l,xs,y,rfl,rfl,hH,hz,q⟩:=h;cases rx;obtain⟨u,rfl,ru⟩:=rv.one;obtain⟨z,its,n,r,hl,e⟩:=I.lstM hH;refine WB F.slot_list_append ⟨_,e,rfl⟩ F.entry_list_append (F.args_list_append_2 _ _) (PySem.list_append l its.toArray n u (by rw [OH];omega)) ⟨e,?_⟩;refine⟨.non,_,I.lset (its':=its++[u]) hH e VH (r.append (.cons ru .nil)) ?_,rfl,q⟩;rw [OG,QQ];omega
def GJ:V->List V->Hp->VK->Prop:=λx vs H Q=>∃l b xs zs,x= .ref l/\vs=[.ref b]/\H l=some (.lst xs)/\H b=some (.lst zs)/\xs.length+zs.length<=VV/\Q .non (ai H l (.lst (xs++zs)))
theorem GK:vQ X "list.extend" GJ:=by
 intro Xl s σ H x vs v us Q I rx rv h;obtain⟨l,b,xs,zs,rfl,rfl,hH,hB,hz,q⟩:=h;cases rx;obtain⟨u,rfl,ru⟩:=rv.one;cases ru;obtain⟨z,its,n,r,hl,e⟩:=I.lstM hH;obtain⟨z2,its2,n2,r2,hl2,e2⟩:=I.lstM hB;have hsz:its.toArray.size+its2.toArray.size<=VV:=by rw [OH,OH];omega
 have hlong:¬(!its.toArray.isEmpty && QY (its.toArray.size+its2.toArray.size))=true:=by
  rw [vR hsz,Vb];exact Ot
 refine WB F.slot_list_extend ⟨_,e,rfl⟩ F.entry_list_extend (F.args_list_extend_2 _ _)
  (SN l its.toArray n b its2.toArray n2 hlong (by rw [OH];omega) VD) ⟨e,e2,?_⟩
 refine⟨.non,_,I.lset (its':=its++its2) hH e VH (r.append r2) ?_,rfl,q⟩;rw [OG];omega
def GL:R2:=λx y H Q=>∃l k xs,x= .ref l/\y= .int k/\H l=some (.lst xs)/\-(2 ^ 63)<=k/\k < 2 ^ 63/\xs.length*k.toNat<=VV/\
 ∀p,H p=none->Q (.ref p) (ai H p (.lst (OL k.toNat xs).flatten))
theorem GN{α:Type}(xs:List α)(k:Nat):(OL k xs).flatten.length=k*xs.length:=by
 induction k with
 | zero=>simp
 | succ k ih=>rw [Qk,RA,OG,ih,Nat.succ_mul,Nat.add_comm]
theorem GO:bU X (Wn .Mult) GL:=by
 intro Xl s σ H x y v u Q I rx ry h;obtain⟨l,k,xs,rfl,rfl,hH,h1,h2,hz,q⟩:=h;cases rx;obtain⟨t,rfl⟩:=ry;obtain⟨z,its,n,r,hl,e⟩:=I.lstM hH;have hlen:its.toArray.size*k.toNat<=VV:=by rw [OH,<-hl];exact hz
 have hcap:¬its.toArray.size*k.toNat > (2 ^ 63 - 1)/ 8:=by
  have:(VV:Nat)<=(2 ^ 63 - 1)/ 8:=VC
  omega
 have hfit:¬(!Vd k)=true:=by
  rw [fitsIndex_both h1 h2];exact Ot
 have hlong:¬QY (its.toArray.size*k.toNat)=true:=by
  rw [vR hlen];exact Ot
 have hnew:U3 (λx1 x2=>x1++x2) #[] (OL (if its.toArray.isEmpty=true then 0 else k.toNat) its.toArray)=(OL k.toNat its).flatten.toArray:=by
  have f0:∀m:Nat,U3 (λx1 x2=>x1++x2) #[] (OL m its.toArray)=(OL m its).flatten.toArray:=λm=>by
   have:=zV its m [];rw [PL] at this;exact this
  rw [f0];cases its with
  | nil=>simp
  | cons a r'=>rw [VE VH]
 refine wpAny_binaryOp_repeat_ref (T:="list") (U:="int") VC ⟨_,e,rfl⟩ (λs'=>typeIs_int s' k t) noFill_list_mul F.fills_int_mul F.slot_int_rmul repeat_list F.slot_int_index.lookup
  (WB F.slot_int_rmul (typeIs_int s k t) F.entry_int_rmul (F.args_int_rmul_2 _ _) (int___rmul___int_list k t l its.toArray n)
    ⟨e,rfl,⟨_,e,rfl⟩,WB F.slot_list_mul ⟨_,e,rfl⟩ F.entry_list_mul (F.args_list_mul_2 _ _) (AutoListH.list___mul___list_int_3 l its.toArray n k t hfit hcap hlong) ⟨e,?_⟩⟩)
 rw [hnew];exact⟨.ref _,_,I.lnew (t':=s.toks) (r.rep k.toNat) (by rw [GN,Nat.mul_comm];exact hz),rfl,q _ I.fresh⟩
end
end L2
namespace Att
open PySem PySem.W PySem.Calls PyProof.Rows
theorem GP{P:Params}{h:VY}:∀(ns:List Int)(vs:List VJ),WellAll P h vs (ns.map RU)->V9 vs ns:=by
 intro ns
 induction ns with
 | nil=>
  intro vs w;rw [Pw] at w;cases w;exact .nil
 | cons n ns ih=>
  intro vs w;rw [Ol] at w;cases w with
  | cons a b=>
   cases a;exact .cons _ _ (ih _ b)
theorem GQ{l:OpenLaw}{n:Nat}(hn:l.most=some n){P:Params}{h:VY}{args:List WData}{vals:List VJ}
 (hpre:l.row.toRowW.claim.pre args=true)(hwl:WellAll P h vals args):
 ∃a vs ns,vals=[O9 a]/\args=[Tv (ns.map RU)]/\h.get? a=some {cls:= .type "list",data:= .seq vs.toArray}/\V9 vs ns/\ns.length<=n:=by
 have hsh:WShape.hasAll [] args [.list .int]=true:=(pre_splitW hpre).1;have hc:l.pre.holds [] {args:=args}=true:=(pre_splitW hpre).2;obtain⟨d,r,rfl,h1,h2⟩:=hasAllW_cons hsh;obtain rfl:=hasAllW_nil h2;obtain⟨xs,rfl,h3⟩:=hasW_list h1;obtain⟨ns,rfl⟩:=items_int h3;have hlen:ns.length<=n:=by
  unfold OpenLaw.pre at hc;have h4:(WTm.not (.lt (.lit (.int (n:Int))) (.len (.arg 0)))).holds [] {args:=[.list (ns.map .int)]}=true:=by
   have h4:=(holds_andW hc).1;rw [hn] at h4;exact h4
  have h5:=condW_of h4 (w_not (w_lt w_lit (w_len_list (w_arg rfl))));rw [Oe] at h5;refine QN λq=>?_;have q':(n:Int) < ((ns.length:Nat):Int):=VD
  first
   | (rw [decide_eq_true q'] at h5;exact absurd h5 VC)
   | (simp at h5;omega)
 cases hwl with
 | cons w1 w2=>
  cases w2;cases w1 with
  | list ho hall=>exact⟨_,_,ns,rfl,rfl,ho,GP ns _ hall,hlen⟩
theorem GR(l:OpenLaw)(args:List WData):l.row.toRowW.claim.post args (.bool true) args=true:=
 postW_of (r:=l.row.toRowW) (X:=(true==true))
  (show WShape.has [] (.bool true) .bool=true by first | rfl | decide | simp [WShape.has,WShape.arms,WShape.armsAll])
  (show(WTm.eq .res (.lit (.bool true))).value [] {args:=args,res:=some (.bool true),after:=args}=some (.bool (true==true)) from w_eq_bool (w_res rfl) w_lit) rfl
end Att
namespace L2
open PySem PySem.Spec PyProof.Rows
theorem zX:∀{vs:List VJ}{ns:List Int},V9 vs ns->aP (ns.map V.int) vs
 | _,_,.nil=>.nil
 | _,_,.cons n t h=>.cons ⟨t,rfl⟩ (zX h)
def tX(H:Hp):Prop:=∀b,H b=none\/∃o xs,H b=some (.frz o (.lst xs))
theorem GS{P:VW}{w:VX}{K:Og}{mg mb:Str->Option VJ}{CX:eY}{k:Nat}{fa a:VM}{fd:VU}{x:Str}{sp:Sp}{s₁:VN}{vs:List VJ}{ns:List Int}
 (KX:K.In s₁.heap)(hns:s₁.heap.Ns VP mg)(hb:s₁.heap.Ns builtinsNs mb)(hbb:∀x:Str,x≠"__name__"->mb x=V1 x)(hlim:s₁.heap.NoLimit)(hg:s₁.gens=#[])
 (ha:s₁.heap.get? a=some {cls:= .type "list",data:= .seq vs.toArray})(hi:V9 vs ns)(hl:ns.length<=VV)(hr:bw k callerA)
 (F:∀base:VY,K.In base->base.Ns VP mg->aD P w K mg base CX k fa fd [x] sp)(hbind:∀(s:VN) (u:VJ),BindsTo s fd ⟨[u],[]⟩ [(x,u)])
 (hsp:∀H:Hp,tX H->bu K H a (ns.map V.int)->sp [.ref a] H (λv _=>v= .bl true) λ_ _ _=>False)
 (hCX:∀H e s',CX [] H s₁ (λ_ _ _=>False) e s'->False):
 Wz (VS P w) callerA (.call (.ref fa) ⟨[.ref a],[]⟩) (λr s'=>r= .ok (.ret (.bool true))/\OldK s₁.heap s'.heap/\s'.os=s₁.os/\WY s'.gens) s₁:=by
 have rv:=zX hi;have lenV:=hi.length;have core:∀H:Hp,tX H->bu K H a (ns.map V.int)->bQ P w H s₁.heap->(∀b,H b≠none->b=a)->(H a≠none->K.lookup a=none)->
  Wz (VS P w) callerA (.call (.ref fa) ⟨[.ref a],[]⟩) (λr s'=>r= .ok (.ret (.bool true))/\OldK s₁.heap s'.heap/\s'.os=s₁.os/\WY s'.gens) s₁:=by
  intro H hO hS hok hA hK;have base_of:∀{b:VM}{o:Obj},s₁.heap.get? b=some o->H b=none->(jS s₁.heap H).get? b=some o:=λe n=>E8 e n;have noA:∀{b:VM}{o:Obj}{es:Array Xe}{ep:Nat},s₁.heap.get? b=some o->o.data= .dict es ep->H b=none:=λ{b o es ep} e d=>by
   cases q:H b with
   | none=>rfl
   | some u=>
    have e':b=a:=hA b (by rw [q];simp);subst e';rw [ha] at e;cases e;have d':Data.seq vs.toArray _=Data.dict es ep:=d;cases d'
  have nsK:∀{b:VM}{m:Str->Option VJ},s₁.heap.Ns b m->(jS s₁.heap H).Ns b m:=λ{b m} ⟨o,es,ep,e,d,r⟩=>⟨o,es,ep,base_of e (noA e d),d,r⟩;have hKb:K.In (jS s₁.heap H):=λb o e=>base_of (KX b o e) (by
   cases q:H b with
   | none=>rfl
   | some u=>
    have e':b=a:=hA b (by rw [q];simp);subst e';rw [hK (by rw [q];simp)] at e;cases e)
  have hM:Mod K mg (jS s₁.heap H):=⟨hKb,nsK hns,⟨mb,nsK hb,hbb⟩,let ⟨mc,h1,h2⟩:=hlim;⟨mc,nsK h1,h2⟩⟩;have e0:iT P w K mg (jS s₁.heap H) callerA [] s₁ H:=⟨rfl,hM,λb o e=>E9 e,Uu (E7 _ _),trivial,λb hb=>absurd (show b∈([]:List VM) from hb) VH,hok,.of_eq hg⟩;refine Wv ((F _ hKb (nsK hns)).run callerA [] s₁ H ⟨[.ref a],[]⟩ [.ref a] [.ref a] _ _ hr e0 (hbind s₁ (.ref a)) (.cons rfl .nil) (hsp H hO hS)) λr s' h=>?_;cases r with
  | error e=>exact(hCX H e s' h).elim
  | ok fl=>
   cases fl with
   | next=>exact Qq h
   | brk=>exact Qq h
   | cont=>exact Qq h
   | ret u=>
    obtain⟨v,H',os,bare,un,hok',r',q⟩:=h;have q':v= .bl true:=q;subst q';obtain rfl:u=Rf true:=r';refine⟨rfl,OldK.of_keep λb o e=>?_,os,bare⟩;cases q:H b with
    | none=>exact un.keep b o e q (by intro z;exact absurd (show b∈([]:List VM) from z) VH) VH
    | some u=>
     rcases hO b with z | ⟨ob,xs,z⟩
     ·rw [q] at z;cases z
     ·have z2:=un.frzs b ob _ z;obtain⟨e1,_⟩:=hok b _ z;obtain⟨e2,_⟩:=hok' b _ z2;rw [e] at e1;cases e1;exact e2
 cases hk:K.lookup a with
 | some o=>
  have e:=KX a o hk;rw [ha] at e;cases e;refine core (λ_=>none) (λ_=>.inl rfl) (.inr ⟨_,vs.toArray,_,hk,rfl,rfl,rfl,by rw [OH,lenV];exact hl,by simpa using rv⟩) (λb u z=>by have z':(none:Option HO)=some u:=z;cases z') (λb z=>absurd rfl z) λz=>absurd rfl z
 | none=>
  refine core (λb=>if b=a then some (.frz {cls:= .type "list",data:= .seq vs.toArray} (.lst (ns.map V.int))) else none) (λb=>?_) (.inl (.inr ⟨{cls:= .type "list",data:= .seq vs.toArray},VF rfl⟩)) (λb u z=>?_) (λb z=>?_) λ_=>hk
  ·by_cases hb:b=a
   ·exact .inr ⟨_,_,VF hb⟩
   ·exact .inl (VE hb)
  ·by_cases hb:b=a
   ·have z':=(VF hb).symm.trans z;cases z';subst hb;exact⟨ha,by rw [Oe];exact hl,vs,_,rv,ha⟩
   ·have z':=(VE hb).symm.trans z;cases z'
  ·by_cases hb:b=a
   ·exact hb
   ·exact absurd (VE hb) z
abbrev KOf{K:Og}{h:VY}(_:K.In h):Og:=K
def inClass(s:VZ)(j:Nat):VZ:=match s with
 | .ClassDef _ _ _ body _ _ _ _ _ _ _=>body.getD j (.Pass ⟨0,0,0,0⟩)
 | _=>.Pass ⟨0,0,0,0⟩
def av(s:VZ):Arguments:=match s with
 | .FunctionDef _ a _ _ _ _ _ _ _ _=>a
 | _=>{posonlyargs:=[],args:=[],vararg:=none,kwonlyargs:=[],kw_defaults:=[],kwarg:=none,defaults:=[]}
def ar(s:VZ):List VZ:=match s with
 | .FunctionDef _ _ b _ _ _ _ _ _ _=>b
 | _=>[]
def ag(s:VZ):Wm:=match s with
 | .FunctionDef _ _ _ _ _ _ sc _ _ _=>sc
 | _=>{kind:= .function,names:=[],isGenerator:=false,isCoroutine:=false}
abbrev CX0:eY:=λ_ _ _ _ _ _=>False
abbrev E0:XK:=λ_ _ _=>False
theorem aB{X:Cx}:gL CX0 X E0:=λ_ _ _ _ _ _ _ h=>h.elim
structure aQ (K:Og) (x qual:Str) (st:VZ) (f:VM) (fd:VU):Prop where
 ex:∃(oc:VJ)(od:Option VM)(kV doc pm:VJ)(an:Option VM)(cdv ct:VJ)(osl:Array (Option VJ)),
  fd=Oh x qual (av st) (ar st) (ag st) .none kV doc pm an cdv ct/\K.lookup f=some ⟨oc,od,.func fd,osl⟩/\Ow K cdv qual=true
 kp:Oo K (.ref f)=true
section
variable {P:VW} {w:VX} {K:Og} {mg:Str->Option VJ} {base:VY}
theorem aQ.ok{x qual:Str}{st:VZ}{f:VM}{fd:VU}{N ps:List Str}{k:Nat}{sp:Sp}(F:aQ K x qual st f fd)(S:aV N ps (ag st))(len:∀vs H Q E,sp vs H Q E->vs.length=ps.length)
 (hbody:∀(cdv:VJ) (A:V0) (outer:List Env) (s:VN) (H:Hp) (vs:List V) (Q:VK) (E:XK),bw k (A.deeper (WI qual (ag st) s.heap.objs.size f cdv))->sp vs H Q E->
   ∃t,bX (ie CX0 P w K mg base N qual (ag st) f cdv A outer s H E).nox (ar st) t/\t {nx:=λ_ H'=>Q .non H',rt:=Q} (start N vs) H):aD P w K mg base CX0 (k+1) f fd ps sp:=by
 obtain⟨oc,od,kV,doc,pm,an,cdv,ct,osl,rfl,lk,hcd⟩:=F.ex;refine Gf lk hcd S len λA outer s H vs Q E hr hsp=>?_;obtain⟨t,h,q⟩:=hbody cdv A outer s H vs Q E hr hsp;exact⟨t,h.nox,q⟩
theorem aQ.binds{x qual:Str}{st:VZ}{f:VM}{fd:VU}{ps:List Str}(F:aQ K x qual st f fd)
 (h:∀(kV doc pm:VJ) (an:Option VM) (cdv ct:VJ) (us:List VJ),us.length=ps.length->bindArgs (Oh x qual (av st) (ar st) (ag st) .none kV doc pm an cdv ct) ⟨us,[]⟩=pure (ps.zip us)):aK K fd ps []:=by
 obtain⟨oc,od,kV,doc,pm,an,cdv,ct,osl,rfl,lk,hcd⟩:=F.ex;exact .all (h kV doc pm an cdv ct)
theorem aZ{x qual:Str}{st:VZ}{f:VM}{oc:VJ}{od an:Option VM}{osl:Array (Option VJ)}{kV doc pm cdv ct:VJ}(l:K.lookup f=some ⟨oc,od,.func (Oh x qual (av st) (ar st) (ag st) .none kV doc pm an cdv ct),osl⟩)
 (c:Ow K cdv qual=true)(k:Oo K (.ref f)=true):aQ K x qual st f (Oh x qual (av st) (ar st) (ag st) .none kV doc pm an cdv ct):=⟨⟨oc,od,kV,doc,pm,an,cdv,ct,osl,rfl,l,c⟩,k⟩
end
section
variable {X:Cx}
theorem pv(i:Nat){x:Str}{pos:Pos}(hN:X.N[i]?=some x:=by rfl)(hv:sf X.env.scope x:=by first | exact T7 rfl | exact SS (T7 rfl) | exact SS (SS rfl))(hd:(x==("__debug__":Str))=false:=by decide)
 (hcd:(x==("__classdict__":Str))=false:=by decide):PE X (.Name x pos) (dh i):=vk hN hv hd hcd
end
def aw(H H':Hp):Prop:=∀b o,H b=some o->H' b=some o
theorem aw.refl(H:Hp):aw H H:=λ_ _ h=>h
theorem aw.trans{H H1 H2:Hp}(a:aw H H1)(b:aw H1 H2):aw H H2:=λc o h=>b c o (a c o h)
def eZ(env:Env)(names:List (Str×Ww))(cs:List (Str×VM)):List (Str×VM):=
 names.foldl (λcs p=>if (p.2==P0)=true then(p.1,(env.cells.lookup p.1).getD 0)::cs else cs) cs
theorem zY{scope:Wm}{env:Env}(h:∀y∈scope.names,y.2= .free->∃c,env.cells.lookup y.1=some c):closureFor scope env=pure (eZ env scope.names []):=by
 unfold closureFor;have key:∀(l:List (Str×Ww))(cs:List (Str×VM)),(∀y∈l,y.2= .free->∃c,env.cells.lookup y.1=some c)->
  (forIn l cs λ(x:Str×Ww) (r:List (Str×VM))=>(if (x.2==P0)=true then do let a<-cellOf env x.1;pure (RV ((x.1,a)::r)) else pure (RV r):Sem (ForInStep (List (Str×VM)))))=pure (eZ env l cs):=by
  intro l
  induction l with
  | nil=>intro cs _;rfl
  | cons p r ih=>
   intro cs hl;rw [U4];by_cases hk:(p.2==P0)=true
   ·obtain⟨c,hc⟩:=hl p Pa (by simpa using hk);rw [VF hk];have e:cellOf env p.1=pure c:=by unfold cellOf;rw [hc]
    rw [e];simp only [pure_bind];rw [ih _ λy hy=>hl y (OT _ hy)];unfold eZ;rw [PF,VF hk,hc];rfl
   ·rw [VE hk];simp only [pure_bind];rw [ih _ λy hy=>hl y (OT _ hy)];unfold eZ;rw [PF,VE hk]
 have:=key scope.names [] h;simp only [bind_pure];exact this
theorem tY{env:Env}:∀(l:List (Str×Ww))(cs:List (Str×VM)){x:Str}{c:VM},(∀y∈l,y.2= .free->∃c,env.cells.lookup y.1=some c)->(∀y d,cs.lookup y=some d->env.cells.lookup y=some d)->
 (eZ env l cs).lookup x=some c->env.cells.lookup x=some c
 | [],cs,x,c,_,hc,h=>hc x c h
 | p::r,cs,x,c,hl,hc,h=>by
  unfold eZ at h;rw [PF] at h;by_cases hk:(p.2==P0)=true
  ·rw [VF hk] at h;refine tY r _ (λy hy=>hl y (OT _ hy)) (λy d e=>?_) h;obtain⟨a,ha⟩:=hl p Pa (by simpa using hk);rw [Pg] at e;cases hx:y==p.1 with
   | true=>
    rw [hx] at e;have hy:y=p.1:=by simpa using hx
    rw [ha] at e;cases e;rw [hy];exact ha
   | false=>rw [hx] at e;exact hc y d e
  ·rw [VE hk] at h;exact tY r cs (λy hy=>hl y (OT _ hy)) hc h
theorem vS{env:Env}:∀(l:List (Str×Ww))(cs:List (Str×VM)){x:Str},(∃c,cs.lookup x=some c)->∃c,(eZ env l cs).lookup x=some c
 | [],cs,x,h=>h
 | p::r,cs,x,⟨c,h⟩=>by
  unfold eZ;rw [PF];by_cases hk:(p.2==P0)=true
  ·rw [VF hk];refine vS r _ ?_;rw [Pg];cases hx:x==p.1 with
   | true=>exact⟨_,rfl⟩
   | false=>exact⟨c,h⟩
  ·rw [VE hk];exact vS r cs ⟨c,h⟩
theorem vT{env:Env}:∀(l:List (Str×Ww))(cs:List (Str×VM)){x:Str},(x,P0)∈l->∃c,(eZ env l cs).lookup x=some c
 | [],_,_,h=>by simp at h
 | p::r,cs,x,h=>by
  unfold eZ;rw [PF];rcases Ox.mp h with e | e
  ·subst e;rw [VF (by rfl)];exact vS r _ ⟨(env.cells.lookup x).getD 0,by rw [Pg];simp⟩
  ·exact vT r _ e
theorem GU{env:Env}{scope:Wm}{x:Str}(h:(relabel scope env).names.lookup x=some .cell\/(relabel scope env).names.lookup x=some .free)(hc:∀y∈scope.names,y.2≠ .cell):(x,P0)∈scope.names:=by
 have key:∀(l:List (Str×Ww)),(∀y∈l,y.2≠ .cell)->
  ((l.map λ(n,k)=>if (k==P0 && env.scope.kind== .function && env.kindOf n==some .cell) then(n,Th) else(n,k)).lookup x=some .cell\/
  (l.map λ(n,k)=>if (k==P0 && env.scope.kind== .function && env.kindOf n==some .cell) then(n,Th) else(n,k)).lookup x=some .free)->(x,P0)∈l:=by
  intro l
  induction l with
  | nil=>intro _ h;simp at h
  | cons p r ih=>
   obtain⟨n,k⟩:=p;intro hl h;rw [Ol] at h;have hk:k≠ .cell:=hl (n,k) Pa;by_cases hx:x=n
   ·subst hx;by_cases hq:(k==P0 && env.scope.kind== .function && env.kindOf x==some .cell)=true
    ·have:k= .free:=by simp only [Pz,beq_iff_eq] at hq;exact hq.1.1
     subst this;exact Pa
    ·simp only [VE hq,Pg,beq_self_eq_true] at h;rcases h with h | h
     ·exact absurd (Ph h) hk
     ·have e:=Ph h;subst e;exact Pa
   ·have hb:(x==n)=false:=by simpa using hx
    refine OT _ (ih (λy hy=>hl y (OT _ hy)) ?_);by_cases hq:(k==P0 && env.scope.kind== .function && env.kindOf n==some .cell)=true
    ·simpa only [VF hq,Pg,hb] using h
    ·simpa only [VE hq,Pg,hb] using h
 exact key scope.names hc h
theorem GV{env:Env}{scope:Wm}{x:Str}(h:scope.names.lookup x=some .free):(relabel scope env).names.lookup x=some .cell\/(relabel scope env).names.lookup x=some .free:=by
 have key:∀(l:List (Str×Ww)),l.lookup x=some .free->
  ((l.map λ(n,k)=>if (k==P0 && env.scope.kind== .function && env.kindOf n==some .cell) then(n,Th) else(n,k)).lookup x=some .cell\/
  (l.map λ(n,k)=>if (k==P0 && env.scope.kind== .function && env.kindOf n==some .cell) then(n,Th) else(n,k)).lookup x=some .free):=by
  intro l
  induction l with
  | nil=>intro h;simp at h
  | cons p r ih=>
   obtain⟨n,k⟩:=p;intro h;rw [Ol];by_cases hx:x=n
   ·subst hx;rw [Pg,beq_self_eq_true] at h;have e:k= .free:=Ph h;by_cases hq:(k==P0 && env.scope.kind== .function && env.kindOf x==some .cell)=true
    ·left;simp only [VF hq,Pg,beq_self_eq_true]
    ·right;simp only [VE hq,Pg,beq_self_eq_true];rw [e]
   ·have hb:(x==n)=false:=by simpa using hx
    rw [Pg,hb] at h;by_cases hq:(k==P0 && env.scope.kind== .function && env.kindOf n==some .cell)=true
    ·simpa only [VF hq,Pg,hb] using ih h
    ·simpa only [VE hq,Pg,hb] using ih h
 exact key scope.names h
structure bq (sc:Wm) (N N':List Str) (k:Nat) (fr:List Nat) (scope:Wm):Prop where
 kind:scope.kind= .function
 cell:∀y∈scope.names,y.2≠ .cell
 names:∀y∈scope.names,y.2= .local->scope.names.lookup y.1=some .local
 nd:N'.Nodup
 slot:fr.map (λj=>N[j]?)=(N'.drop k).map some
 frees:∀x∈N'.drop k,scope.names.lookup x=some .free
 outer:∀y∈scope.names,y.2= .free->sc.names.lookup y.1=some .cell\/sc.names.lookup y.1=some .free
 outer':∀x∈N'.drop k,sc.names.lookup x=some .cell\/sc.names.lookup x=some .free
 len:N'.length=k+fr.length
def bL(X:Cx)(scope:Wm)(N':List Str)(fp:List VM)(C:VM)(s:VN)(H:Hp):Cx where
 prog:=X.prog
 w:=X.w
 K:=X.K
 mg:=X.mg
 base:=X.base
 A:=X.A
 N:=N'
 s₀:=s
 H₀:=H
 env:=compEnvC scope (eZ X.env scope.names []) C X.env
 outer:=X.stack
 stack:=X.stack
 ex:=fp
 fn:=λ_=>false
 calm:=X.calm
 pn:=[]
 xe:=λ_ _=>False
def bI(k:Nat)(fr:List Nat)(σ:St):St:=OL k none++fr.map λj=>(σ[j]?).join
def oF(σ σ':St):Prop:=σ.length=σ'.length/\∀(i:Nat) v,σ[i]?=some (some v)->σ'[i]?=some (some v)
section
variable {X:Cx} {Xl:List (VM×Obj)} {σ:St} {H:Hp} {s:VN} {scope:Wm} {N':List Str} {k:Nat} {fr:List Nat} {fp:List VM}
theorem GW(S:bq X.env.scope X.N N' k fr scope)(I:ah X Xl σ H s)(hf:∀b∈fp,h7 X Xl H b)(hlt:∀b∈fp,b < s.heap.objs.size):
 (bL X scope N' fp s.heap.objs.size s H).Ok:=by
 have hcell:∀y∈scope.names,y.2= .free->∃c,X.env.cells.lookup y.1=some c:=λy hy e=>I.ok.has y.1 (S.outer y hy e);have hcl:∀x c,(eZ X.env scope.names []).lookup x=some c->X.env.cells.lookup x=some c:=λx c e=>tY scope.names [] hcell (λ_ _ z=>by simp at z) e;refine⟨I.ok.mod,S.kind,I.ok.glob,I.ok.blt,Oi _,λx y c h1 h2=>I.ok.inj x y c (hcl x c h1) (hcl y c h2),λx hx=>vT _ _ (GU hx S.cell),λx c h=>absurd h (by simp [bL]),I.ok.hd,I.ok.frames,.inl rfl,λb hb=>⟨O6 (hlt b hb),λx c e=>(hf b hb).2.2.2.2.1 x c (hcl x c e)⟩,
  I.bs,O7 I.ok.bsz I.sz,λb o e hb=>?_,λb hb hb'=>?_,I.stack,I.stkFree⟩
 ·rcases(hf b hb).2.2.2.1 with z | z
  ·exact I.ok.noex b o e z
  ·exact absurd (PB (OM e) (O7 I.ok.bsz z)) (QJ _)
 ·rcases Ox.mp (I.stkSub b hb') with z | z
  ·exact(hf b hb).2.1 z
  ·exact(hf b hb).2.2.1 z
theorem GX(S:bq X.env.scope X.N N' k fr scope)(I:ah X Xl σ H s)(hf:∀b∈fp,h7 X Xl H b)(hlt:∀b∈fp,b < s.heap.objs.size){h':VY}{t':Nat}
 (hn:h'.Ns s.heap.objs.size (λ_=>none))(hk:∀b o,s.heap.get? b=some o->h'.get? b=some o):
 ah (bL X scope N' fp s.heap.objs.size s H) [] (bI k fr σ) H {s with heap:=h',toks:=t'}:=by
 have hcell:∀y∈scope.names,y.2= .free->∃c,X.env.cells.lookup y.1=some c:=λy hy e=>I.ok.has y.1 (S.outer y hy e);have hcl:∀x c,(eZ X.env scope.names []).lookup x=some c->X.env.cells.lookup x=some c:=λx c e=>tY scope.names [] hcell (λ_ _ z=>by simp at z) e;refine⟨GW S I hf hlt,rfl,I.bare,Un.kept hk,⟨_,hn,λi x v h1 h2 h3=>?_⟩,λx c e=>?_,I.hok.fresh (Oi _),λx c e=>I.freeC x c (hcl x c e),λp hp=>absurd hp (by simp [bL]),I.hok.kept hk,?_⟩
 ·have hi:k<=i:=by
   rcases QH i k with z | z
   ·exfalso;unfold bI at h2;rw [PH (by simpa using z),Q4,VF z] at h2;cases h2
   ·exact z
  have h2':(fr.map λj=>(σ[j]?).join)[i - k]?=some (some v):=by
   unfold bI at h2;rw [Qf (by simpa using hi)] at h2;simpa using h2
  have h1':(N'.drop k)[i - k]?=some x:=by
   rw [List.getElem?_drop,Nat.add_sub_cancel' hi];exact h1
  have hmem:x∈N'.drop k:=O4 h1';have e2:(fr.map λj=>X.N[j]?)[i - k]?=some (some x):=by
   rw [S.slot,OD,h1'];rfl
  obtain⟨j,hj,ej⟩:∃j,fr[i - k]?=some j/\X.N[j]?=some x:=by
   rw [OD] at e2;cases e:fr[i - k]? with
   | none=>rw [e] at e2;cases e2
   | some j=>rw [e] at e2;exact⟨j,rfl,Ph e2⟩
  have hv:σ[j]?=some (some v):=by
   rw [OD,hj] at h2';have h3':(σ[j]?).join=some v:=Ph h2';cases e:σ[j]? with
   | none=>rw [e] at h3';cases h3'
   | some o=>rw [e] at h3';rw [show o=some v from h3']
  obtain⟨m,hn0,hl⟩:=I.loc;have ho:=S.outer' x hmem;obtain⟨u,ru,lk⟩:=hl j x v ej hv (.inr ho);refine⟨u,ru,.inr ⟨GV (S.frees x hmem),?_⟩⟩;rcases lk with⟨z,_⟩ | ⟨_,c,hc,hx⟩
  ·exfalso;rcases ho with ho | ho
   ·exact absurd (z.symm.trans ho) VH
   ·exact absurd (z.symm.trans ho) VH
  ·obtain⟨c',hc'⟩:=vT (env:=X.env) scope.names [] (Q5 (S.frees x hmem));have:=hcl x c' hc';rw [hc] at this;cases this;obtain⟨o,ho,hd⟩:=hx;exact⟨c,hc',o,hk c o ho,hd⟩
 ·obtain⟨v,o,ho,hd⟩:=I.cell x c (hcl x c e);exact⟨v,o,hk c o ho,hd⟩
 ·unfold bI;show _=N'.length;rw [OG,SO,Oe,S.len]
end
section
variable {prog:VW} {w:VX} {A:V0} {E:VJ->VN->Prop} {R:Result->VN->Prop} {s:VN}
theorem GY{elt target iter:VT}{ifs:List VT}{scope:Wm}{pos:Pos}{it acc:VJ}{env:Env}(I:Nat->VN->Prop)
 (turn:∀n s,I n s->VR (VS prog w) A (WH it) (λr s₁=>match r with
  | none=>R (.ok .next) s₁
  | some v=>VR (VS prog w) A (W4 target it v) (λ_ s₁'=>VR (VS prog w) A (assign target env v) (λ_ s₂=>
   VR (VS prog w) A (forIn ifs true λc r=>if r=true then do let ok<-isTrue c env (eval c env);pure (RV ok) else pure (RV r)) (λok s₃=>
    if ok=true then VR (VS prog w) A (eval elt env) (λx s₄=>
     VR (VS prog w) A (call (.builtin "list.append") [acc,x]) (λ_ s₅=>∃m,m < n/\I m s₅) (λ_ _=>False) s₄) (λ_ _=>False) s₃
    else ∃m,m < n/\I m s₃) (λ_ _=>False) s₂) (λ_ _=>False) s₁') (λ_ _=>False) s₁) (λ_ _=>False) s)
 (n:Nat)(h:I n s):
 Wz (VS prog w) A (.compLoop (.ListComp elt [⟨target,iter,ifs,0⟩] scope pos) 0 it acc env) R s:=by
 refine codeAny_loop rfl I (λn s hI=>?_) n h;show VR _ A ((compTurn (.ListComp elt [⟨target,iter,ifs,0⟩] scope pos) 0 it acc env).onRaise (λx=>do noteFrame x env;theTreesLotGoes x)) _ _ s;refine wpAny_noted ?_;rw [compTurn_list];refine VL (wpAny_standAt (VL (V8 (turn n s hI) (λr s₁ h₁=>?_) λ_ _ h'=>h'.elim)));cases r with
 | none=>exact VO h₁
 | some v=>
  refine VL (V8 h₁ (λ_ s₁' h₁'=>?_) λ_ _ h'=>h'.elim);refine VL (V8 h₁' (λ_ s₂ h₂=>VL (V8 h₂ (λok s₃ h₃=>?_) λ_ _ h'=>h'.elim)) λ_ _ h'=>h'.elim);cases ok with
  | false=>exact VO ⟨rfl,h₃⟩
  | true=>
   exact VL (VL (V8 h₃ (λx s₄ h₄=>VL (V8 h₄ (λ_ s₅ h₅=>VO (VO ⟨rfl,h₅⟩)) λ_ _ h'=>h'.elim)) λ_ _ h'=>h'.elim))
end
def fx(X:Cx)(ifs:List VT)(t:TT):Prop:=
 ∀(Xl:List (VM×Obj))(s:VN)(σ:St)(H:Hp)(Q:Bool->Hp->Prop),ah X Xl σ H s->t σ H Q->
  VR (VS X.prog X.w) X.A (forIn ifs true λc r=>if r=true then do let ok<-isTrue c X.env (eval c X.env);pure (RV ok) else pure (RV r)) (TP X Xl σ Q) X.xe s
def zZ:TT:=λ_ H Q=>Q true H
theorem z3{X:Cx}:fx X [] zZ:=λXl s σ H Q I h=>wpAny_tests_nil ⟨H,I,h⟩
theorem cU{X:Cx}{c:VT}{t:TT}(h:PT X c t):fx X [c] t:=λXl s σ H Q I hq=>wpAny_tests_one (h Xl s σ H Q I hq)
theorem bQ.but{P:VW}{w:VX}{H:Hp}{h h':VY}{C:VM}(x:bQ P w H h)(hC:H C=none)(k:∀b o,b≠C->h.get? b=some o->h'.get? b=some o):bQ P w H h':=λa o e=>by
 refine(x a o e).stay (λb u hb q=>k b u ?_ q) (λ_ q=>q) λ_ _ q=>q;intro z;subst z;rcases hb with z | z
 ·rw [<-z,hC] at e;cases e
 ·rw [hC] at z;cases z
def lL(wi:TI)(g:TG)(tc:TT)(te:TE)(k:Nat)(fr:List Nat):TE:=λσ H Q=>wi σ H λJ H1=>∀D,H1 D=none->∃W:Nat->Nat->Hp->Prop,(∃m,W 0 m (ai H1 D (.lst [])))/\∀i m H,W i m H->
 (J.stop i H/\Q (.ref D) H)\/(J.go i H/\∀x H',J.yld i H x H'->g x (bI k fr σ) H' λσ2 H2=>oF (bI k fr σ) σ2/\tc σ2 H2 λok H3=>
  if ok=true then te σ2 H3 λy H4=>∃ys,H4 D=some (.lst ys)/\ys.length < VV/\∃m',m' < m/\W (i+1) m' (ai H4 D (.lst (ys++[y])))
  else ∃m',m' < m/\W (i+1) m' H3)
section
variable {X:Cx} {tg iter elt:VT} {ifs:List VT} {scope:Wm} {N':List Str} {k:Nat} {fr:List Nat} {wi:TI} {g:TG} {tc:TT} {te:TE} {pos:Pos}
theorem z4{use:Option (VJ->Sem Unit)}{Q':VJ->VN->Prop}{Xl:List (VM×Obj)}{s:VN}{σ:St}{H:Hp}{Q:VK}(hc:X.calm=true)(S:bq X.env.scope X.N N' k fr scope)(hi:PI X tg iter wi)
 (hg:∀fp C s H,PG (bL X scope N' fp C s H) tg g)(hf:∀fp C s H,fx (bL X scope N' fp C s H) ifs tc)(he:∀fp C s H,PE (bL X scope N' fp C s H) elt te)
 (I:ah X Xl σ H s)(h:lL wi g tc te k fr σ H Q)
 (hQ:∀D C s' H',C≠X.env.locals->ah X Xl σ H' s'->(∀h',QX C s'.heap h'->ah X Xl σ H' {s' with heap:=h'})->Q (.ref D) H'->(∃m,s'.heap.Ns C m)->X.env.locals < C->H' C=none/\(∀x c,X.env.cells.lookup x=some c->c≠C)/\(∀p∈X.pn++Xl,p.1≠C)->compPost (VS X.prog X.w) X.A X.xe use Q' (.ref D) C (.ok .next) s'):
 VR (VS X.prog X.w) X.A (eval iter X.env) (λx s₁=>VR (VS X.prog X.w) X.A (pyIter x) (λit s₂=>VR (VS X.prog X.w) X.A (newList []) (λacc s₃=>
  VR (VS X.prog X.w) X.A (newFunctionEnv scope X.env.globals (eZ X.env scope.names []) [] X.env.qual none .none (some X.env)) (λcenv s₄=>
   Wz (VS X.prog X.w) X.A (.compStart (.ListComp elt [⟨tg,iter,ifs,0⟩] scope pos) 0 it acc {cenv with scope:=relabel scope X.env}) (compPost (VS X.prog X.w) X.A X.xe use Q' acc cenv.locals) s₄) X.xe s₃) X.xe s₂) X.xe s₁) X.xe s:=by
 refine aG (hi Xl s σ H _ I h) λv s1 h1=>aG h1 λitv s2 h2=>?_;obtain⟨it,fp,tn,J,H2,e,I2,T,st2,f2,wW⟩:=h2;subst e;refine V7 ?_;have hD0:H2 s2.heap.objs.size=none:=I2.hok.fresh (Oi _);obtain⟨W,⟨m0,w0⟩,turn⟩:=wW _ hD0;generalize hD:s2.heap.objs.size=D at*;have I3:ah X Xl σ (ai H2 D (.lst [])) {s2 with heap:=s2.heap.push {cls:= .type "list",dict:=none,data:= .seq ([]:List VJ).toArray}}:=by
  have:=I2.lnew (ys:=[]) (its:=[]) (t':=s2.toks) .nil (Pc _);rw [hD] at this;exact this
 generalize hs3:({s2 with heap:=s2.heap.push {cls:= .type "list",dict:=none,data:= .seq ([]:List VJ).toArray}}:VN)=s3 at*;have up23:∀b o,s2.heap.get? b=some o->s3.heap.get? b=some o:=λb o e=>by rw [<-hs3];exact Ou _ e
 have fpD:∀b∈fp,b≠D:=λb hb z=>by
  obtain⟨o,ho,_⟩:=T.obj _ _ st2 b hb;have:=OM ho;rw [hD,z] at this;exact QJ _ this
 have f3:∀b∈fp,h7 X Xl (ai H2 D (.lst [])) b:=λb hb=>⟨by rw [aC (fpD b hb)];exact(f2 b hb).1,(f2 b hb).2⟩;have st3:tn 0 s3.heap:=T.keep _ _ _ st2 λb hb o e=>up23 b o e;have lt3:∀b∈fp,b < s3.heap.objs.size:=λb hb=>by obtain⟨o,ho,_⟩:=T.obj _ _ st3 b hb;exact OM ho
 refine wpAny_newFunctionEnv S.cell (by intro y hy;simp at hy) (λh₁ hns₁ hsb₁=>?_) S.kind;have up34:∀b o,s3.heap.get? b=some o->h₁.get? b=some o:=λb o e=>hsb₁.extBut b o (O6 (OM e)) (Ou _ e);have I4:=GX (t':=s3.toks+([]:List (Str×VJ)).length) S I3 f3 lt3 hns₁ up34;have st4:tn 0 h₁:=T.keep _ _ _ st3 λb hb o e=>up34 b o e;generalize hX':bL X scope N' fp s3.heap.objs.size s3 (ai H2 D (.lst []))=X' at*;have hg':PG X' tg g:=by rw [<-hX'];exact hg _ _ _ _
 have hf':fx X' ifs tc:=by rw [<-hX'];exact hf _ _ _ _
 have he':PE X' elt te:=by rw [<-hX'];exact he _ _ _ _
 have eP:X'.prog=X.prog:=by rw [<-hX'];rfl
 have eW:X'.w=X.w:=by rw [<-hX'];rfl
 have eK:X'.K=X.K:=by rw [<-hX'];rfl
 have eA:X'.A=X.A:=by rw [<-hX'];rfl
 have eC:X'.calm=true:=by rw [<-hX'];exact hc
 have eE:X'.xe=λ_ _=>False:=by rw [<-hX'];rfl
 have eEnv:X'.env=compEnvC scope (eZ X.env scope.names []) s3.heap.objs.size X.env:=by rw [<-hX'];rfl
 have fpx:∀{H':Hp},(∀b∈fp,H' b=none)->∀b∈fp,h7 X' [] H' b:=λ{H'} hn b hb=>by
  refine⟨hn b hb,?_,?_,.inl ?_,?_,?_⟩
  ·rw [eEnv];exact O6 (lt3 b hb)
  ·have:=I4.ok.exfs b (by rw [<-hX'];exact hb);exact this
  ·rw [<-hX'];exact hb
  ·have:=I4.ok.exf b (by rw [<-hX'];exact hb);exact this.2
  ·intro p hp;rw [<-hX'] at hp;simp [bL] at hp
 have fin:∀(s':VN)(H':Hp)(σ':St),ah X' [] σ' H' s'->Q (.ref D) H'->compPost (VS X.prog X.w) X.A X.xe use Q' (.ref D) s3.heap.objs.size (.ok .next) s':=λs' H' σ' J q=>by
  have un:Un (gh X.stack) fp (ai H2 D (.lst [])) H' s3.heap s'.heap:=by have:=J.base;rw [<-hX'] at this;exact this
  have jos:s'.os=s3.os:=by have:=J.os;rw [<-hX'] at this;exact this
  have hC:H' s3.heap.objs.size=none:=by have:=J.free;rw [eEnv] at this;exact this
  have hok':bQ X.prog X.w H' s'.heap:=by have:=J.hok;rw [eP,eW] at this;exact this
  have eO:∀h',QX s3.heap.objs.size s'.heap h'->ah X Xl σ H' {s' with heap:=h'}:=λh' hs'=>by
   have un':Un (gh X.stack) fp (ai H2 D (.lst [])) H' s3.heap h':=
    ⟨λb o e n h1 h2=>hs'.extBut b o (O6 (OM e)) (un.keep b o e n h1 h2),λb o e n h1 h2=>by
     obtain⟨sl,z⟩:=un.slot b o e n h1 h2;exact⟨sl,hs'.extBut b _ (O6 (OM e)) z⟩,un.free,λb o e h2=>by
     obtain⟨o',z⟩:=un.there b o e h2;exact⟨o',hs'.extBut b o' (O6 (OM e)) z⟩,un.tups,un.frzs,un.tbls⟩
   exact ah.call' (s':={s' with heap:=h'}) I3 jos un' (hok'.but hC hs'.extBut) J.bare λb hb=>⟨(f3 b hb).2.2.2.1,(f3 b hb).2.1,(f3 b hb).2.2.2.2.1,(f3 b hb).2.2.2.2.2⟩
  have nsC:∃m,s'.heap.Ns s3.heap.objs.size m:=by
   obtain⟨m,hn,_⟩:=J.loc;rw [eEnv] at hn;exact⟨m,hn⟩
  exact hQ D s3.heap.objs.size s' H' (R1 I3.lt) (eO s'.heap (.refl ..)) eO q nsC I3.lt
   ⟨hC,λx c e=>by obtain⟨v,o,ho,_⟩:=I3.cell x c e;exact O6 (OM ho),λp hp=>O6 (OM (I3.pin p hp).1)⟩
 have loop:∀s4:VN,s4=({s3 with heap:=h₁,toks:=s3.toks+([]:List (Str×VJ)).length}:VN)->
  Wz (VS X.prog X.w) X.A (.compLoop (.ListComp elt [⟨tg,iter,ifs,0⟩] scope pos) 0 (.ref it) (.ref D) X'.env) (compPost (VS X.prog X.w) X.A X.xe use Q' (.ref D) s3.heap.objs.size) s4:=by
  rintro s4 rfl;refine GY (λn s'=>∃i H',ah X' [] (bI k fr σ) H' s'/\tn i s'.heap/\(∀b∈fp,H' b=none)/\W i n H') ?_ m0 ⟨0,_,I4,st4,λb hb=>(f3 b hb).1,w0⟩;rintro n s5 ⟨i,H5,I5,st5,fr5,w5⟩;rcases turn i n H5 w5 with⟨stop,qn⟩ | ⟨go,step⟩
  ·have:=T.done X' eP eW eK eC i [] s5 _ H5 (λ_ _=>False) I5 (fpx fr5) st5 stop;rw [eA] at this;refine aG this λr s6 ⟨hr,I6⟩=>?_;subst hr;exact fin s6 H5 _ I6 qn
  ·have:=T.item X' eP eW eK eC i [] s5 _ H5 (λ_ _=>False) I5 (fpx fr5) st5 go;rw [eA] at this;refine aG this λr s6 ⟨u,hr,h6⟩=>?_;subst hr;refine aG h6 λ_ s7 ⟨x,H7,I7,r7,y7,st7,fr7⟩=>?_;have I7':=I7.pinned (fpx fr7) (T.obj _ _ st7);have h8:=hg' _ s7 _ H7 x u _ I7' r7 (step x H7 y7);rw [eP,eW,eA,eE] at h8;refine aG h8 λ_ s8 ⟨σ8,H8,I8,kp,q8⟩=>?_;have h9:=hf' _ s8 σ8 H8 _ I8 q8;rw [eP,eW,eA,eE] at h9;have again:∀{s9:VN}{H9:Hp}{n':Nat},ah X' ([]++sA fp s7.heap) σ8 H9 s9->n' < n->W (i+1) n' H9->∃m,m < n/\∃i H',ah X' [] (bI k fr σ) H' s9/\tn i s9.heap/\(∀b∈fp,H' b=none)/\W i m H':=λ{s9 H9 n'} I9 hn' w9=>by
    refine⟨n',hn',i+1,H9,I9.unpinned.weak kp.1 kp.2,T.keep _ _ _ st7 λb hb o e=>(I9.pin (b,o) (Pq _ (Pq _ (tL hb e)))).1,λb hb=>?_,w9⟩;obtain⟨o,e,d⟩:=T.obj _ _ st7 b hb;exact(I9.pin (b,o) (Pq _ (Pq _ (tL hb e)))).2.1
   refine aG h9 λok s9 ⟨H9,I9,q9⟩=>?_;cases ok with
   | false=>
    rw [VE Ot] at q9;obtain⟨m',hm',w9⟩:=q9;rw [VE Ot];exact again I9 hm' w9
   | true=>
    rw [VF rfl] at q9;rw [VF rfl];have h10:=he' _ s9 σ8 H9 _ I9 q9;rw [eP,eW,eA,eE] at h10;refine aG h10 λy s10 ⟨yv,H10,I10,r10,ys,hys,hz,m',hm',w10⟩=>?_;have h11:=zW (X:=X') _ s10 σ8 H10 (.ref D) [yv] (.ref D) [y] (λ_ H'=>W (i+1) m' H') I10 rfl (.cons r10 .nil) ⟨D,ys,yv,rfl,rfl,hys,hz,w10⟩;rw [eP,eW,eA,eE] at h11;exact aG h11 λ_ s11 uu63=>by obtain⟨_,H11,I11,_,q11⟩:=uu63;exact again I11 hm' q11
 have hE:({newEnv scope s3.heap.objs.size X.env.globals (eZ X.env scope.names []) X.env.qual none .none (some X.env) builtinsNs with scope:=relabel scope X.env}:Env)=X'.env:=by
  rw [eEnv];rfl
 have goal:=codeAny_compStart_list (elt:=elt) (target:=tg) (iter:=iter) (ifs:=ifs) (rest:=[]) (scope:=scope) (pos:=pos) (loop _ rfl) (T.self X.A 0 _ _ _ st4 (loop _ rfl));rw [<-hE] at goal;exact goal
theorem tZ(hc:X.calm=true)(S:bq X.env.scope X.N N' k fr scope)(hi:PI X tg iter wi)
 (hg:∀fp C s H,PG (bL X scope N' fp C s H) tg g)(hf:∀fp C s H,fx (bL X scope N' fp C s H) ifs tc)(he:∀fp C s H,PE (bL X scope N' fp C s H) elt te)
 (hs:∀x,V2 iter X.env x=pure x:=by intro _;rfl):PE X (.ListComp elt [⟨tg,iter,ifs,0⟩] scope pos) (lL wi g tc te k fr):=by
 intro Xl s σ H Q I h;have hcell:∀y∈scope.names,y.2= .free->∃c,X.env.cells.lookup y.1=some c:=λy hy e=>I.ok.has y.1 (S.outer y hy e);rw [eval_ListComp];refine Xh (use:=none) rfl hs (zY hcell) S.kind S.names (z4 hc S hi hg hf he I h ?_);intro D C s' H' hC J eO q ns hlt _;obtain⟨m,hn⟩:=ns;exact⟨m,hn,λh' hs'=>⟨.ref D,H',eO h' hs',rfl,q⟩⟩
theorem GZ{i:Nat}{x:Str}{pos' spos:Pos}(hN:X.N.Nodup)(hxi:X.N[i]?=some x)(hx:gK X.env.scope x)(hc:X.calm=true)(S:bq X.env.scope X.N N' k fr scope)(hi:PI X tg iter wi)
 (hg:∀fp C s H,PG (bL X scope N' fp C s H) tg g)(hf:∀fp C s H,fx (bL X scope N' fp C s H) ifs tc)(he:∀fp C s H,PE (bL X scope N' fp C s H) elt te)
 (hsw:V5 (.ListComp elt [⟨tg,iter,ifs,0⟩] scope pos) (some (.Name x pos')) spos.line X.env=pure true)
 (hs:∀x,V2 iter X.env x=pure x:=by intro _;rfl)(hfn:X.fn x=true\/X.env.scope.names.lookup x=some .local:=by first | exact .inl rfl | exact .inr rfl | assumption):
 PS X (.Assign [.Name x pos'] (.ListComp elt [⟨tg,iter,ifs,0⟩] scope pos) spos) (sj (lL wi g tc te k fr) (iQ i)):=by
 intro Xl s σ H D I h;have hcell:∀y∈scope.names,y.2= .free->∃c,X.env.cells.lookup y.1=some c:=λy hy e=>I.ok.has y.1 (S.outer y hy e);rw [exec_Assign_Name_used _ _ _ _ hsw];refine VL (wpAny_standAt (VL ?_));show VR _ X.A (do let _<-comprehension (.ListComp elt [⟨tg,iter,ifs,0⟩] scope pos) scope X.env _ (newList []) false (eval iter X.env) (some (assign (.Name x pos') X.env))) _ _ s;refine VL (V8 (Xh (use:=some (assign (.Name x pos') X.env)) (Q:=λ_ s'=>∃σ' H',ah X Xl σ' H' s'/\D.nx σ' H') rfl hs (zY hcell) S.kind S.names (z4 hc S hi hg hf he I h ?_)) (λ_ s' hq=>VO (VO hq)) λ_ _ e=>e);intro D' C s' H' hC J eO q ns hlt ⟨c1,c2,c3⟩;obtain⟨m,hn⟩:=ns;show VR _ X.A (assign (.Name x pos') X.env (.ref D')) _ _ _;refine wpAny_assign_Name (yN J hN hxi hx (v:= .ref D') rfl (λs2 J2 sb=>?_) hfn);obtain⟨a,sb,ha⟩:=sb;have hCa:C≠a:=by
  rcases ha with z | z
  ·rw [z];exact hC
  ·exact Ne.symm (c2 _ _ z)
 refine⟨m,hn.sameBut sb hCa,λh3 hs3=>⟨_,H',?_,q⟩⟩;exact J2.turned (t':=s2.toks) hs3.extBut c1 hC (.inr (O7 J.ok.above (Rj hlt))) c2 c3
end
section
variable {X:Cx}
theorem z5(hc:X.calm=true):dZ X (.builtin "sum") (λxs H Q=>∃(a:VM)(ns:List Int),xs=[.ref a]/\bu X.K H a (ns.map V.int)/\Q (.int ns.sum) H):=by
 intro Xl s σ H xs us Q I r h;obtain⟨a,ns,rfl,hl,q⟩:=h;obtain⟨u,rfl,rx⟩:=fu r;cases rx;obtain⟨its,rv,p,hz⟩:=I.list hl;have hi:V9 its ns:=Gq rv;have hall:AllInts its.toArray:=hi.allInts;obtain⟨ys,hys⟩:=hall.items;have hn:numsOf its.toArray.toList=ns:=by rw [show its.toArray.toList=its from rfl,hi.numsOf]
 rw [hys,nums_intItems] at hn;have hl':=p.isList;rw [hys] at hl';refine sum_intListG (I.ok.hd hc) hl' λh' tk t' hk=>?_;refine⟨.int ns.sum,H,I.kept hk,⟨t',?_⟩,q⟩;rw [preSum_eq,OZ VH,hn]
end
end L2
namespace Att
open PySem PySem.W PySem.Calls PyProof.Rows
theorem G0{ns:List Int}(h:UU [Tv (ns.map RU)]=true):∀n∈ns,P9 n<=1048576:=by
 have h1:(Tv (ns.map RU)).layable=true:=by simpa [UU] using h
 have h2:(Tv (ns.map RU)).weight<=1048576:=(PySem.W.layableW_iff.mp h1).2.2;have key:∀l:List Int,∀n∈l,P9 n<=Sn (l.map RU):=by
  intro l
  induction l with
  | nil=>intro n hn;simp at hn
  | cons x r ih=>
   intro n hn;have e:Sn ((x::r).map RU)=P9 x+1+Sn (r.map RU):=by
    rw [Ol,Sn,Vl];rfl
   rw [e];rcases Ox.mp hn with z | z
   ·subst z;omega
   ·have:=ih n z;omega
 intro n hn;have e:(Tv (ns.map RU)).weight=Sn (ns.map RU):=by rw [Vl]
 rw [e] at h2;exact O7 (key ns n hn) h2
theorem attach_callB{l:OpenLaw}{n:Nat}{q:VW}{loose:List Str}{XP:(Str->Option VJ)->VY->Prop}{YP:VX->VY->Prop}{d:DefRec}
 (hn:l.most=some n)(hdf:d.params.defaults=[])
 (call:∀(w:VX) (s₀ s₁:VN) (mg mb:Str->Option VJ) (fa:VM) (o:Obj) (pm cd doc:VJ) (a:VM) (vs:List VJ) (ns:List Int),
  Ground q loose [] XP w s₀ mg mb s₁.heap->YP w s₁.heap->
  s₁.heap.get? fa=some o->o.data= .func (docDef d.name d.params d.body d.scope pm cd doc)->s₁.heap.CodeRec cd d.name->mg d.name=some (.ref fa)->
  s₁.heap.get? a=some {cls:= .type "list",data:= .seq vs.toArray}->V9 vs ns->ns.length<=n->(∀z∈ns,P9 z<=1048576)->s₁.gens=#[]->
  Wz (VS l.prog w) callerA (.call (.ref fa) ⟨[.ref a],[]⟩) (λr s'=>r= .ok (.ret (.bool true))/\OldK s₁.heap s'.heap/\s'.os=s₁.os/\WY s'.gens) s₁):
 WalkO q loose XP YP l.row.toRowW d [] (λf vs=>U5 f vs):=by
 intro w s₀ s₁ mg mb G Y fa o pm cd doc dV kV ho hd hcd hD hmg hg args vals as hpre hlay hrd hwl hlo;obtain rfl:dV= .none:=Dflts.none hD hdf;obtain rfl:kV= .none:=Dflts.noKw hD;obtain⟨a,vs,ns,rfl,rfl,hobj,hints,hlen⟩:=GQ hn hpre hwl;have hb:∀z∈ns,P9 z<=1048576:=G0 hlay;refine enter_call (Wv (call w s₀ s₁ mg mb fa o pm cd doc a vs ns G Y ho (fd_plain hd) hcd hmg hobj hints hlen hb hg) λr s' hq=>?_);obtain⟨rfl,h2,h3,h4⟩:=hq;exact⟨.inl ⟨.bool true,.bool true,[],rfl,λ_=>rfl,.bool true,GR l _,λ_=>⟨List.Pairwise.nil,λ_ hm=>(nomatch hm)⟩⟩,h2,h3,h4⟩
end Att
namespace L2
open PySem PySem.Spec PyProof.Rows
theorem G1{l:U6}{n k:Nat}{q:VW}{loose:List Str}{XP:(Str->Option VJ)->VY->Prop}{YP:VX->VY->Prop}{d:DefRec}{K:Params->Og}{CX:VX->eY}{sp:VX->Sp}{x:Str}
 (hn:l.most=some n)(hn2:n<=VV)(hdf:d.params.defaults=[])(hr:bw k callerA)
 (hY:∀(w:VX) (h:VY),YP w h->(K w.params).In h)
 (F:∀(w:VX) (mg:Str->Option VJ) (fa:VM) (h:VY),(K w.params).In h->h.Ns VP mg->mg d.name=some (.ref fa)->
  ∃fd:VU,(∀(s:VN) (u:VJ),BindsTo s fd ⟨[u],[]⟩ [(x,u)])/\
   ∀base:VY,(K w.params).In base->base.Ns VP mg->aD l.prog w (K w.params) mg base (CX w) k fa fd [x] (sp w))
 (hsp:∀(w:VX) (H:Hp) (a:VM) (ns:List Int),ns.length<=n->(∀z∈ns,P9 z<=1048576)->tX H->bu (K w.params) H a (ns.map V.int)->sp w [.ref a] H (λv _=>v= .bl true) λ_ _ _=>False)
 (hCX:∀(w:VX) (H:Hp) (s:VN) (e:VJ) (s':VN),CX w [] H s (λ_ _ _=>False) e s'->False):
 Ve q loose XP YP l.row.toRowW d [] (λf vs=>U5 f vs):=by
 refine Att.attach_callB hn hdf λw s₀ s₁ mg mb fa o pm cd doc a vs ns G Y ho hd hcd hmg hobj hints hlen hb hg=>?_;have KX:=hY w _ Y;obtain⟨fd,hbi,hF⟩:=F w mg fa _ KX G.T.g hmg;exact GS KX G.T.g G.T.b G.T.builtins G.T.nolimit hg hobj hints (O7 hlen hn2) hr hF hbi (λH hO hS=>hsp w H a ns hlen hb hO hS) λH e s'=>hCX w H s₁ e s'
theorem walk_ofBK{l:U6}{n k:Nat}{q:VW}{loose:List Str}{XP:(Str->Option VJ)->VY->Prop}{YP:VX->VY->Prop}{d:DefRec}{K:Params->Og}{CX:eY}{sp:Og->Sp}{x:Str}
 (hn:l.most=some n)(hn2:n<=VV)(hdf:d.params.defaults=[])(hr:bw k callerA)
 (hY:∀(w:VX) (h:VY),YP w h->(K w.params).In h)
 (F:∀(w:VX) (mg:Str->Option VJ) (fa:VM) (h:VY),(K w.params).In h->h.Ns VP mg->mg d.name=some (.ref fa)->
  ∃fd:VU,(∀(s:VN) (u:VJ),BindsTo s fd ⟨[u],[]⟩ [(x,u)])/\
   ∀base:VY,(K w.params).In base->base.Ns VP mg->aD l.prog w (K w.params) mg base CX k fa fd [x] (sp (K w.params)))
 (hsp:∀(K:Og) (H:Hp) (a:VM) (ns:List Int),ns.length<=n->(∀z∈ns,P9 z<=1048576)->tX H->bu K H a (ns.map V.int)->sp K [.ref a] H (λv _=>v= .bl true) λ_ _ _=>False)
 (hCX:∀(H:Hp) (s:VN) (e:VJ) (s':VN),CX [] H s (λ_ _ _=>False) e s'->False):
 Ve q loose XP YP l.row.toRowW d [] (λf vs=>U5 f vs):=
 G1 (K:=K) (CX:=λ_=>CX) (sp:=λw=>sp (K w.params)) hn hn2 hdf hr hY F (λw H a ns h1 hb h2 h3=>hsp (K w.params) H a ns h1 hb h2 h3) λ_ H s e s'=>hCX H s e s'
def qM(p:VM)(H H':Hp):Prop:=∀b o,H b=some o->b≠p->H' b=some o
theorem aw.new{H:Hp}{p:VM}{o:HO}(h:H p=none):aw H (ai H p o):=λb u e=>by rw [aC (eG e h)];exact e
def FR(J:It)(g:TG)(tb:TS)(D:jT)(σ:St)(H1:Hp):Prop:=∃W:Nat->Nat->St->Hp->Prop,(∃m,W 0 m σ H1)/\∀i m σ H,W i m σ H->
 (J.stop i H/\D.nx σ H)\/(J.go i H/\∃N:St->Hp->Prop,(∀σ' H',N σ' H'->∃m',m' < m/\W (i+1) m' σ' H')/\∀x H',J.yld i H x H'->g x σ H' λσ2 H2=>tb {D with nx:=N,ct:=N,bk:=D.nx} σ2 H2)
theorem G2{ta:TA}{g:TG}{tb:TS}:su (vA ta) g tb=λD σ H=>ta σ H λvs H1=>∃j:Int,vs=[.int j]/\-(2 ^ 62)<=j/\j < 2 ^ 62/\FR (iR 0 j.toNat) g tb D σ H1:=rfl
theorem G3{ta:TA}{g:TG}{tb:TS}:su (vB ta) g tb=λD σ H=>ta σ H λvs H1=>∃i j:Int,vs=[.int i,.int j]/\(-(2 ^ 62)<=i/\i < 2 ^ 62/\-(2 ^ 62)<=j/\j < 2 ^ 62)/\FR (iR i (j - i).toNat) g tb D σ H1:=rfl
theorem G4{K:Og}{tl:TE}{g:TG}{tb:TS}:su (vv K tl) g tb=λD σ H=>tl σ H λx H1=>∃a,x= .ref a/\(∃xs,bu K H1 a xs)/\FR (qJ K a) g tb D σ H1:=rfl
theorem G5{K:Og}{tl:TE}{g:TG}{tb:TS}:su (vw K tl) g tb=λD σ H=>tl σ H λx H1=>∃a,x= .ref a/\(∃xs,bC K H1 a xs)/\FR (sr K a) g tb D σ H1:=rfl
def oG(J:It)(g:TG)(tc:TT)(te:TE)(k:Nat)(fr:List Nat)(σ:St)(H1:Hp)(Q:VK):Prop:=∀D,H1 D=none->∃W:Nat->Nat->Hp->Prop,(∃m,W 0 m (ai H1 D (.lst [])))/\∀i m H,W i m H->
 (J.stop i H/\Q (.ref D) H)\/(J.go i H/\∀x H',J.yld i H x H'->g x (bI k fr σ) H' λσ2 H2=>oF (bI k fr σ) σ2/\tc σ2 H2 λok H3=>
  if ok=true then te σ2 H3 λy H4=>∃ys,H4 D=some (.lst ys)/\ys.length < VV/\∃m',m' < m/\W (i+1) m' (ai H4 D (.lst (ys++[y])))
  else ∃m',m' < m/\W (i+1) m' H3)
theorem G6{ta:TA}{g:TG}{tc:TT}{te:TE}{k:Nat}{fr:List Nat}:lL (vA ta) g tc te k fr=λσ H Q=>ta σ H λvs H1=>∃j:Int,vs=[.int j]/\-(2 ^ 62)<=j/\j < 2 ^ 62/\oG (iR 0 j.toNat) g tc te k fr σ H1 Q:=rfl
theorem G7{ta:TA}{g:TG}{tc:TT}{te:TE}{k:Nat}{fr:List Nat}:lL (vB ta) g tc te k fr=λσ H Q=>ta σ H λvs H1=>∃i j:Int,vs=[.int i,.int j]/\(-(2 ^ 62)<=i/\i < 2 ^ 62/\-(2 ^ 62)<=j/\j < 2 ^ 62)/\oG (iR i (j - i).toNat) g tc te k fr σ H1 Q:=rfl
theorem G8{K:Og}{tl:TE}{g:TG}{tc:TT}{te:TE}{k:Nat}{fr:List Nat}:lL (vv K tl) g tc te k fr=λσ H Q=>tl σ H λx H1=>∃a,x= .ref a/\(∃xs,bu K H1 a xs)/\oG (qJ K a) g tc te k fr σ H1 Q:=rfl
theorem G9{K:Og}{tl:TE}{g:TG}{tc:TT}{te:TE}{k:Nat}{fr:List Nat}:lL (vw K tl) g tc te k fr=λσ H Q=>tl σ H λx H1=>∃a,x= .ref a/\(∃xs,bC K H1 a xs)/\oG (sr K a) g tc te k fr σ H1 Q:=rfl
theorem z6{fr:List Nat}{σ:St}{v:Option V}:oF (bI 1 fr σ) ((bI 1 fr σ).set 0 v):=by
 refine⟨VH,λi w h=>?_⟩;cases i with
 | zero=>simp [bI,OL] at h
 | succ i=>simpa [bI,OL] using h
theorem Ha{lo:Int}{n:Nat}{te:TE}{fr:List Nat}{σ:St}{H:Hp}{Q:VK}(f:Nat->V)(hn:n<=1000000)
 (ht:∀(i:Nat) (H':Hp) (R:VK),i < n->aw H H'->(∀H'',aw H' H''->R (f i) H'')->te ((bI 1 fr σ).set 0 (some (.int (lo+i)))) H' R)
 (hq:∀D H',H D=none->aw H H'->H' D=some (.lst ((P7 n).map f))->Q (.ref D) H'):oG (iR lo n) (iQ 0) zZ te 1 fr σ H Q:=by
 intro D hD;refine⟨λi m H'=>m=n - i/\i<=n/\aw H H'/\H' D=some (.lst ((P7 i).map f)),⟨n,VH,Pc _,aw.new hD,by rw [bA];rfl⟩,?_⟩;rintro i m H1 ⟨rfl,hi,s1,e1⟩;by_cases hlt:i < n
 ·refine .inr ⟨hlt,λx H' y=>?_⟩;obtain⟨e,y⟩:=y;subst e y;refine⟨z6,?_⟩;show te _ _ _;refine ht i H' _ hlt s1 λH2 s2=>?_;refine⟨_,s2 D _ e1,?_,n - (i+1),VD,rfl,hlt,?_,?_⟩
  ·rw [Oe,RZ,Wg];omega
  ·exact λb o h=>by rw [aC (eG h hD)];exact s2 b o (s1 b o h)
  ·rw [bA,T2,OO];rfl
 ·have e:i=n:=VD
  subst e;exact .inl ⟨Oi _,hq D H1 hD s1 e1⟩
theorem cxK{CX:eY}{P:VW}{w:VX}{K:Og}{mg:Str->Option VJ}{base:VY}{N:List Str}{qual:Str}{scope:Wm}{f:VM}{cd:VJ}{A:V0}{outer:List Env}{s:VN}{H:Hp}{E:XK}:(ie CX P w K mg base N qual scope f cd A outer s H E).K=K:=rfl
theorem cmK{X:Cx}{scope:Wm}{N':List Str}{fp:List VM}{C:VM}{s:VN}{H:Hp}:(bL X scope N' fp C s H).K=X.K:=rfl
theorem iV{K:Og}{p:VM}{xs:List V}{i:Int}{v:V}{H:Hp}{Q:VK}(h:bC K H p xs)(hv:atI xs i=some v)(q:Q v H):tW K (.ref p) (.int i) H Q:=⟨p,xs,i,v,rfl,rfl,h,hv,q⟩
theorem oH{α:Type}{xs:List α}{i:Int}(h0:0<=i)(h1:i < xs.length):∃v,atI xs i=some v/\v∈xs:=by
 obtain⟨j,rfl⟩:=QD h0;have hj:j < xs.length:=VD
 exact⟨xs[j],fM (by simp [hj]),Qr hj⟩
theorem z7{a b:Int}:(if b < a then b else a)=min a b:=by
 by_cases h:b < a
 ·rw [VF h];omega
 ·rw [VE h];omega
theorem lM:V1 "isinstance"=some (.builtin "isinstance"):=VB
theorem oI:V1 "int"=some (.type "int"):=VB
theorem vU:V1 "bool"=some (.type "bool"):=VB
theorem Hb:V1 "str"=some (.type "str"):=VB
theorem fy:V1 "tuple"=some (.type "tuple"):=VB
theorem Hc:V1 "list"=some (.type "list"):=VB
open PySem PySem.Spec PyProof.Rows PySem.W
section
variable {M:Model} {A:V0} {E:VJ->VN->Prop}
variable {nm q:Str} {C N:VM} {bs bm:List VJ} {hdct:Bool} {sn:List Str} {sub:List VJ} {ab:Bool} {col:Option Bool} {dd:Option VM} {k0 k1 k2 k3 k5:Option VJ} {newId:String}
variable {nm' q':Str} {C' N':VM} {bs' bm':List VJ} {hdct':Bool} {sn':List Str} {sub':List VJ} {ab':Bool} {col':Option Bool} {dd':Option VM} {k0' k1' k2' k3' k5':Option VJ} {newId':String}
end
section
variable {X:Cx}
theorem z9{bs:List Bool}{its:List VJ}(r:aP (bs.map V.bl) its):its=bs.map Rf:=by
 induction bs generalizing its with
 | nil=>cases r;rfl
 | cons b bs ih=>
  rw [Ol] at r;cases r with
  | cons r1 r2=>
   rw [Ol,<-ih r2];exact congrArg (·::_) r1
theorem He(bs:List Bool)(f:Nat->Bool)(h:∀i,i < bs.length->f i=bs.getD i true):(P7 bs.length).all f=bs.all id:=by
 rw [Rr,Q9,Q9];constructor
 ·intro z b hb;obtain⟨i,hi,e⟩:=Si hb;have:=z i (SG.mpr hi);rw [h i hi,QL,OW hi] at this;rw [<-e];exact this
 ·intro z i hi;have hi:=SG.mp hi;rw [h i hi,QL,OW hi];exact z _ (Qr hi)
theorem Hf(bs:List Bool)(f:Nat->Bool)(h:∀i,i < bs.length->f i=bs.getD i true):(P7 bs.length).any f=bs.any id:=by
 rw [Rr,Ra,Ra];constructor
 ·rintro⟨i,hi,z⟩;have hi:=SG.mp hi;rw [h i hi,QL,OW hi] at z;exact⟨_,Qr hi,z⟩
 ·rintro⟨b,hb,z⟩;obtain⟨i,hi,e⟩:=Si hb;refine⟨i,SG.mpr hi,?_⟩;rw [h i hi,QL,OW hi];show bs[i]=true;rw [e];exact z
theorem Aa{bs:List Bool}{i:Nat}{v:VJ}(h:(bs.map Rf).toArray[i]?=some v):v= .bool (bs.getD i true):=by
 have h':(bs.map Rf)[i]?=some v:=by simpa using h
 rw [OD] at h';cases e:bs[i]? with
 | none=>rw [e] at h';cases h'
 | some b=>
  rw [e] at h';rw [QL,e];exact(Ph h').symm
theorem Ab{prog:VW}{w:VX}{A:V0}{E:VJ->VN->Prop}{s:VN}{l:VM}{items:Array VJ}{Q:VJ->VN->Prop}(hl:s.heap.IsList l items)
 (h:∀s₂:VN,s₂={s with heap:=s.heap.push {cls:= .type "list_iterator",data:= .fields #[.ref l,.int 0 0]}}->
  (s₂.heap.IsListIter s.heap.objs.size l 0/\s₂.heap.IsList l items)->l≠s.heap.objs.size->Q (.ref s.heap.objs.size) s₂):VR (VS prog w) A (pyIter (.ref l)) Q E s:=by
 have hlt:l < s.heap.objs.size:=by obtain⟨_,e,_⟩:=hl;exact OM e
 exact Xg hl (h _ rfl ⟨⟨_,OX _ rfl,rfl,rfl⟩,hl.push _⟩ (O6 hlt))
theorem Ac(hc:X.calm=true):dZ X (.builtin "all") (λxs H Q=>∃(a:VM)(bs:List Bool),xs=[.ref a]/\bu X.K H a (bs.map V.bl)/\Q (.bl (bs.all id)) H):=by
 intro Xl s σ H xs us Q I r h;obtain⟨a,bs,rfl,hl,q⟩:=h;obtain⟨u,rfl,rx⟩:=fu r;cases rx;obtain⟨its,rv,p,hz⟩:=I.list hl;have hi:=z9 rv;subst hi;refine call_all_walk (Ab p.isList λs₂ e st hlI=>?_);subst e;refine⟨_,_,_,_,_,_,λi=>bs.getD i true,rfl,U7 (A:=X.A.in1) (I.ok.hd hc) _ a hlI _,st,λi v s' Q' E' hP hq=>by rw [Aa hP];exact Wc hq,λh' tk hk=>?_⟩;have e:=He bs (λi=>bs.getD i true) λ_ _=>rfl;have e2:(Pn Rf bs).toArray.size=bs.length:=VH
 rw [e2,e];exact⟨.bl (bs.all id),H,I.kept (old_kept hk),rfl,q⟩
theorem Ad(hc:X.calm=true):dZ X (.builtin "any") (λxs H Q=>∃(a:VM)(bs:List Bool),xs=[.ref a]/\bu X.K H a (bs.map V.bl)/\Q (.bl (bs.any id)) H):=by
 intro Xl s σ H xs us Q I r h;obtain⟨a,bs,rfl,hl,q⟩:=h;obtain⟨u,rfl,rx⟩:=fu r;cases rx;obtain⟨its,rv,p,hz⟩:=I.list hl;have hi:=z9 rv;subst hi;refine call_any_walk (Ab p.isList λs₂ e st hlI=>?_);subst e;refine⟨_,_,_,_,_,_,λi=>bs.getD i true,rfl,U7 (A:=X.A.in1) (I.ok.hd hc) _ a hlI _,st,λi v s' Q' E' hP hq=>by rw [Aa hP];exact Wc hq,λh' tk hk=>?_⟩;have e:=Hf bs (λi=>bs.getD i true) λ_ _=>rfl;have e2:(Pn Rf bs).toArray.size=bs.length:=VH
 rw [e2,e];exact⟨.bl (bs.any id),H,I.kept (old_kept hk),rfl,q⟩
end
open PySem PySem.Spec PyProof.Rows PySem.W PySem.Calls PySem.Builtin.ObjectAttr PySem.Builtin PySem.Builtin.Getset_descriptor
section
variable {X:Cx}
abbrev cM(d:VI):Prop:=QZ d=true
end
theorem Ae:V1 "all"=some (.builtin "all"):=VB
theorem Af:V1 "any"=some (.builtin "any"):=VB
def Hg(p:VM)(h:VY):Prop:=∃(n:Int)(t:Tok)(k:Nat),h.get? p=some {cls:= .type "list",data:= .seq #[.int n t] k}
abbrev Hh(p:VM):HO:= .ext (Hg p)
abbrev Hi:VI:= .dict [(.none,.none)]
def Hj(p:VM)(h:VY):Prop:=∃(a b c:Int)(t u v:Tok)(k:Nat),h.get? p=some {cls:= .type "list",data:= .seq #[.int a t,.int b u,.int c v] k}
abbrev Hk(p:VM):HO:= .ext (Hj p)
abbrev Hl:VI:= .dict [(.none,.bool true)]
abbrev fN(ds:List VI):VI:= .dict [(.none,.list ds)]
abbrev fA(C:VM)(kp ds:List VI):VI:= .dict [(.none,.tuple [.int (C:Int),.list kp,.list ds])]
abbrev Ag(kp ds:List VI):VI:= .dict [(.bool true,.tuple [.list kp,.list ds])]
abbrev Ex:=VM->Prop
abbrev t6:Hp:=λ_=>none
mutual
inductive Dt (K:Og) (H:Hp) (O:Ex):V->VI->Prop
 | non:Dt K H O .non .none
 | bl (b:Bool):Dt K H O (.bl b) (.bool b)
 | int (i:Int):Dt K H O (.int i) (.int i)
 | str (x:Str):Dt K H O (.str x) (.str x)
 | tup {a:VM} {xs:List V} {ds:List VI}:Rd H a (.tup xs)->¬O a->ak K H O xs ds->Dt K H O (.ref a) (.tuple ds)
 | tupK {a:VM} {xs:List V} {ds:List VI}:bC K t6 a xs->ak K H O xs ds->Dt K H O (.ref a) (.tuple ds)
 | lst {a:VM} {xs:List V} {ds:List VI}:Rd H a (.lst xs)->¬O a->ak K H O xs ds->Dt K H O (.ref a) (.list ds)
 | pack {p:VM}:H p=some (Hh p)->¬O p->Dt K H O (.ref p) Hi
 | purse {p:VM}:H p=some (Hk p)->¬O p->Dt K H O (.ref p) Hl
 | dct0 {a:VM}:H a=some (.dK [])->¬O a->Dt K H O (.ref a) (.dict [])
 | obj {a C dx:VM} {fs:List (Str×V)} {kp ds:List VI}:H a=some (.ins C dx fs)->kp=fs.map (λp=>Oj p.1)->¬O a->ak K H O (fs.map (·.2)) ds->Dt K H O (.ref a) (fA C kp ds)
 | dic {a:VM} {ob:Obj} {kv:List (au×V)} {ks:List Str} {kp ds:List VI}:H a=some (.frz ob (.dK kv))->kv.map (·.1)=ks.map P4->kp=ks.map Oj->¬O a->ak K H O (kv.map (·.2)) ds->Dt K H O (.ref a) (Ag kp ds)
 | scr {a:VM} {xs:List V} {ds:List VI}:(Rd H a (.lst xs)/\¬O a)\/bu K t6 a xs->ak K H O xs ds->Dt K H O (.ref a) (fN ds)
inductive ak (K:Og) (H:Hp) (O:Ex):List V->List VI->Prop
 | nil:ak K H O [] []
 | cons {v:V} {d:VI} {vs:List V} {ds:List VI}:Dt K H O v d->ak K H O vs ds->ak K H O (v::vs) (d::ds)
end
theorem Rd.same{H H':Hp}{a:VM}{u:HO}(s:∀o,H a=some o->H' a=some o)(h:Rd H a u):Rd H' a u:=by
 rcases h with h | ⟨o,h⟩
 ·exact .inl (s _ h)
 ·exact .inr ⟨o,s _ h⟩
theorem Rd.trk{H:Hp}{a:VM}{u:HO}(h:Rd H a u):H a≠none:=by
 rcases h with h | ⟨o,h⟩ <;> rw [h] <;> exact λz=>nomatch z
section
variable {K:Og}
structure aS (H H':Hp) (O O':Ex):Prop where
 keep:∀b o,H b=some o->¬O b->H' b=some o
 out:∀b,H b≠none->¬O b->¬O' b
mutual
theorem Dt.step{H H':Hp}{O O':Ex}(S:aS H H' O O'):∀{v:V}{d:VI},Dt K H O v d->Dt K H' O' v d
 | _,_,.non=>.non
 | _,_,.bl b=>.bl b
 | _,_,.int i=>.int i
 | _,_,.str x=>.str x
 | _,_,.tup h n r=>.tup (h.same λo e=>S.keep _ o e n) (S.out _ h.trk n) (ak.step S r)
 | _,_,.tupK h r=>.tupK h (ak.step S r)
 | _,_,.lst h n r=>.lst (h.same λo e=>S.keep _ o e n) (S.out _ h.trk n) (ak.step S r)
 | _,_,.pack h n=>.pack (S.keep _ _ h n) (S.out _ (by rw [h];exact λz=>nomatch z) n)
 | _,_,.purse h n=>.purse (S.keep _ _ h n) (S.out _ (by rw [h];exact λz=>nomatch z) n)
 | _,_,.dct0 h n=>.dct0 (S.keep _ _ h n) (S.out _ (by rw [h];exact λz=>nomatch z) n)
 | _,_,.obj h e n r=>.obj (S.keep _ _ h n) e (S.out _ (by rw [h];exact λz=>nomatch z) n) (ak.step S r)
 | _,_,.dic h e1 e2 n r=>.dic (S.keep _ _ h n) e1 e2 (S.out _ (by rw [h];exact λz=>nomatch z) n) (ak.step S r)
 | _,_,.scr h r=>.scr (h.imp (λh=>⟨h.1.same λo e=>S.keep _ o e h.2,S.out _ h.1.trk h.2⟩) id) (ak.step S r)
theorem ak.step{H H':Hp}{O O':Ex}(S:aS H H' O O'):∀{vs:List V}{ds:List VI},ak K H O vs ds->ak K H' O' vs ds
 | _,_,.nil=>.nil
 | _,_,.cons h r=>.cons (Dt.step S h) (ak.step S r)
end
theorem aS.same{H H':Hp}{O:Ex}(s:aw H H'):aS H H' O O:=⟨λb o e _=>s b o e,λ_ _ n=>n⟩
theorem Dt.mono{H H':Hp}{O:Ex}{v:V}{d:VI}(s:aw H H')(h:Dt K H O v d):Dt K H' O v d:=h.step (.same s)
theorem ak.mono{H H':Hp}{O:Ex}{v:List V}{d:List VI}(s:aw H H')(h:ak K H O v d):ak K H' O v d:=h.step (.same s)
theorem ak.length{H:Hp}{O:Ex}:∀{vs:List V}{ds:List VI},ak K H O vs ds->vs.length=ds.length
 | _,_,.nil=>rfl
 | _,_,.cons _ r=>by rw [OC,OC,ak.length r]
theorem ak.get{H:Hp}{O:Ex}:∀{vs:List V}{ds:List VI}{i:Nat}{v:V},ak K H O vs ds->vs[i]?=some v->∃d,ds[i]?=some d/\Dt K H O v d
 | _,_,_,_,.nil,e=>by simp at e
 | _,_,0,_,.cons h _,e=>by simp at e;subst e;exact⟨_,rfl,h⟩
 | _,_,i+1,_,.cons _ r,e=>by simpa using ak.get (i:=i) r (by simpa using e)
theorem ak.getD{H:Hp}{O:Ex}:∀{vs:List V}{ds:List VI}{i:Nat}{d:VI},ak K H O vs ds->ds[i]?=some d->∃v,vs[i]?=some v/\Dt K H O v d
 | _,_,_,_,.nil,e=>by simp at e
 | _,_,0,_,.cons h _,e=>by simp at e;subst e;exact⟨_,rfl,h⟩
 | _,_,i+1,_,.cons _ r,e=>by simpa using ak.getD (i:=i) r (by simpa using e)
theorem ak.append{H:Hp}{O:Ex}:∀{vs ws:List V}{ds es:List VI},ak K H O vs ds->ak K H O ws es->ak K H O (vs++ws) (ds++es)
 | _,_,_,_,.nil,s=>s
 | _,_,_,_,.cons h r,s=>.cons h (ak.append r s)
theorem ak.take{H:Hp}{O:Ex}:∀{vs:List V}{ds:List VI}(n:Nat),ak K H O vs ds->ak K H O (vs.take n) (ds.take n)
 | _,_,0,_=>.nil
 | _,_,_+1,.nil=>.nil
 | _,_,n+1,.cons h r=>.cons h (ak.take n r)
theorem ak.drop{H:Hp}{O:Ex}:∀{vs:List V}{ds:List VI}(n:Nat),ak K H O vs ds->ak K H O (vs.drop n) (ds.drop n)
 | _,_,0,r=>r
 | _,_,_+1,.nil=>.nil
 | _,_,n+1,.cons _ r=>ak.drop n r
theorem ak.ints{H:Hp}{O:Ex}:∀(ns:List Int),ak K H O (ns.map V.int) (ns.map OJ)
 | []=>.nil
 | n::r=>.cons (.int n) (ak.ints r)
inductive Sh (K:Og) (H:Hp) (O:Ex):V->VI->Prop
 | dt {v:V} {d:VI}:Dt K H O v d->Sh K H O v d
 | own {l:VM} {vs:List V} {ds:List VI}:H l=some (.lst vs)->ak K H O vs ds->Sh K H O (.ref l) (.list ds)
theorem Sh.mono{H H':Hp}{O:Ex}{v:V}{d:VI}(s:aw H H'):Sh K H O v d->Sh K H' O v d
 | .dt h=>.dt (h.mono s)
 | .own h r=>.own (s _ _ h) (r.mono s)
theorem Dt.all{H:Hp}{O:Ex}{v:V}{d:VI}(h:Dt K H O v d):Dt K H (λ_=>False) v d:=h.step ⟨λ_ _ e _=>e,λ_ _ _ z=>z⟩
theorem ak.all{H:Hp}{O:Ex}{v:List V}{d:List VI}(h:ak K H O v d):ak K H (λ_=>False) v d:=h.step ⟨λ_ _ e _=>e,λ_ _ _ z=>z⟩
theorem Sh.all{H:Hp}{O:Ex}{v:V}{d:VI}:Sh K H O v d->Dt K H (λ_=>False) v d
 | .dt h=>h.all
 | .own h r=>.lst (.inl h) (λz=>z) r.all
theorem bC.of0{H:Hp}{a:VM}{xs:List V}(h:bC K t6 a xs):bC K H a xs:=by
 rcases h with(h | ⟨o,h⟩) | h
 ·cases h
 ·cases h
 ·exact .inr h
theorem bu.of0{H:Hp}{a:VM}{xs:List V}(h:bu K t6 a xs):bu K H a xs:=by
 rcases h with(h | ⟨o,h⟩) | h
 ·cases h
 ·cases h
 ·exact .inr h
theorem Sh.tup{H:Hp}{O:Ex}{v:V}{ds:List VI}(h:Sh K H O v (.tuple ds)):∃a xs,v= .ref a/\bC K H a xs/\ak K H O xs ds:=by
 cases h with
 | dt h=>
  cases h with
  | tup h _ r=>exact⟨_,_,rfl,.inl h,r⟩
  | tupK h r=>exact⟨_,_,rfl,h.of0,r⟩
theorem Sh.lstR{H:Hp}{O:Ex}{v:V}{ds:List VI}(h:Sh K H O v (.list ds)):∃a xs,v= .ref a/\Rd H a (.lst xs)/\ak K H O xs ds:=by
 cases h with
 | dt h=>
  cases h with
  | lst h _ r=>exact⟨_,_,rfl,h,r⟩
 | own h r=>exact⟨_,_,rfl,.inl h,r⟩
theorem Sh.lst{H:Hp}{O:Ex}{v:V}{ds:List VI}(h:Sh K H O v (.list ds)):∃a xs,v= .ref a/\bu K H a xs/\ak K H O xs ds:=by
 obtain⟨a,xs,e,h,r⟩:=h.lstR;exact⟨a,xs,e,.inl h,r⟩
theorem Sh.scr{H:Hp}{O:Ex}{v:V}{ds:List VI}(h:Sh K H O v (fN ds)):∃a xs,v= .ref a/\bu K H a xs/\ak K H O xs ds:=by
 cases h with
 | dt h=>
  cases h with
  | scr h r=>
   rcases h with h | h
   ·exact⟨_,_,rfl,.inl h.1,r⟩
   ·exact⟨_,_,rfl,h.of0,r⟩
theorem Sh.int{H:Hp}{O:Ex}{v:V}{i:Int}(h:Sh K H O v (.int i)):v= .int i:=by cases h with | dt h=>cases h;rfl
theorem Sh.bl{H:Hp}{O:Ex}{v:V}{i:Bool}(h:Sh K H O v (.bool i)):v= .bl i:=by cases h with | dt h=>cases h;rfl
theorem Sh.str{H:Hp}{O:Ex}{v:V}{i:Str}(h:Sh K H O v (.str i)):v= .str i:=by cases h with | dt h=>cases h;rfl
theorem Sh.non{H:Hp}{O:Ex}{v:V}(h:Sh K H O v .none):v= .non:=by cases h with | dt h=>cases h;rfl
end
section
variable {X:Cx} {Xl:List (VM×Obj)} {σ:St} {H:Hp} {s:VN}
mutual
theorem ig(I:ah X Xl σ H s){O:Ex}:∀{v:V}{d:VI}{u:VJ},Dt X.K H O v d->d.canLay0=true->aO v u->∃as,Reads s.heap u d as
 | _,_,_,.non,_,r=>by cases r;exact⟨_,Reads.none⟩
 | _,_,_,.bl b,_,r=>by cases r;exact⟨_,Reads.bool b⟩
 | _,_,_,.int i,_,r=>by obtain⟨t,rfl⟩:=r;exact⟨_,Reads.int i t⟩
 | _,_,_,.str x,_,r=>by obtain⟨t,rfl⟩:=r;exact⟨_,Reads.str x t⟩
 | _,_,_,.tup h _ hs,c,r=>by
  cases r;obtain⟨its,rv,⟨o,e,c',n,dd⟩,_⟩:=I.tuple (.inl h);obtain⟨as,q⟩:=t7 I hs (by simpa [Pr] using c) rv;exact⟨as,reads_tuple_at e c' dd (by simpa using q)⟩
 | _,_,_,.tupK h hs,c,r=>by
  cases r;obtain⟨its,rv,⟨o,e,c',n,dd⟩,_⟩:=I.tuple h.of0;obtain⟨as,q⟩:=t7 I hs (by simpa [Pr] using c) rv;exact⟨as,reads_tuple_at e c' dd (by simpa using q)⟩
 | _,_,_,.lst h _ hs,c,r=>by
  cases r;obtain⟨its,rv,⟨o,n,e,c',_,dd⟩,_⟩:=I.list (.inl h);obtain⟨as,q⟩:=t7 I hs (by simpa [Pr] using c) rv;exact⟨_,reads_list_at e c' dd (by simpa using q)⟩
 | _,_,_,.pack _ _,c,_=>by simp [Pr] at c
 | _,_,_,.purse _ _,c,_=>by simp [Pr] at c
 | _,_,_,.dct0 _ _,c,_=>by simp [Pr] at c
 | _,_,_,.obj _ _ _ _,c,_=>by simp [Pr] at c
 | _,_,_,.dic _ _ _ _ _,c,_=>by simp [Pr] at c
 | _,_,_,.scr _ _,c,_=>by simp [Pr] at c
theorem t7(I:ah X Xl σ H s){O:Ex}:∀{vs:List V}{ds:List VI}{us:List VJ},ak X.K H O vs ds->Qb ds=true->aP vs us->∃as,ReadsAll s.heap us ds as
 | _,_,_,.nil,_,r=>by cases r;exact⟨_,ReadsAll.nil⟩
 | _,_,_,.cons h hs,c,r=>by
  rw [Qb,Pz] at c;cases r with
  | cons r1 r2=>
   obtain⟨as,q⟩:=ig I h c.1 r1;obtain⟨bs,p⟩:=t7 I hs c.2 r2;exact⟨_,ReadsAll.cons q p⟩
end
end
inductive Sl where
 | v (d:VI)
 | o (ds:List VI)
 | k (kd:List (au×VI))
 | i (l C:VM) (fd:List (Str×VI))
 | r (l C g u:VM) (fd:List (Str×VI)) (gd ud:List (au×VI))
 | b (ds:List VI)
abbrev Dl:=List (Option Sl)
inductive bJ (K:Og) (H:Hp) (O:Ex):List (au×V)->List (au×VI)->Prop
 | nil:bJ K H O [] []
 | cons {k:au} {v:V} {d:VI} {r:List (au×V)} {s:List (au×VI)}:Dt K H O v d->bJ K H O r s->bJ K H O ((k,v)::r) ((k,d)::s)
theorem bJ.step{K:Og}{H H':Hp}{O O':Ex}(S:aS H H' O O'){r:List (au×V)}{s:List (au×VI)}(h:bJ K H O r s):bJ K H' O' r s:=by
 induction h with
 | nil=>exact .nil
 | cons a _ ih=>exact .cons (a.step S) ih
theorem bJ.mono{K:Og}{H H':Hp}{O:Ex}(S:aw H H'){r:List (au×V)}{s:List (au×VI)}(h:bJ K H O r s):bJ K H' O r s:=h.step (.same S)
def ij(K:Og)(H:Hp)(O:Ex)(fs:List (Str×V))(fd:List (Str×VI)):Prop:=fs.map (·.1)=fd.map (·.1)/\ak K H O (fs.map (·.2)) (fd.map (·.2))
def Sl.own:Sl->Prop
 | .v _=>False
 | .b _=>False
 | _=>True
abbrev cm:Str:=Od "gone"
abbrev dG:Str:=Od "used"
def vV(K:Og)(H:Hp)(O0 O:Ex)(l C g u:VM)(fd:List (Str×VI))(gd ud:List (au×VI)):Prop:=∃dx fs og ou gv uv,H l=some (.ins C dx (fs++[(cm,.ref g),(dG,.ref u)]))/\ij K H O fs fd/\g≠u/\
 (O g/\¬O0 g/\H g=some (.frz og (.dK gv))/\bJ K H O gv gd)/\(O u/\¬O0 u/\H u=some (.frz ou (.dK uv))/\bJ K H O uv ud)
def gM(K:Og)(H:Hp)(O0 O:Ex)(x:Option V):Option Sl->Prop
 | none=>True
 | some (.v d)=>∃v,x=some v/\Dt K H O v d
 | some (.o ds)=>∃l vs,x=some (.ref l)/\O l/\¬O0 l/\H l=some (.lst vs)/\ak K H O vs ds
 | some (.k kd)=>∃l kv,x=some (.ref l)/\O l/\¬O0 l/\H l=some (.dK kv)/\bJ K H O kv kd
 | some (.i l C fd)=>∃dx fs,x=some (.ref l)/\O l/\¬O0 l/\H l=some (.ins C dx fs)/\ij K H O fs fd
 | some (.r l C g u fd gd ud)=>x=some (.ref l)/\O l/\¬O0 l/\vV K H O0 O l C g u fd gd ud
 | some (.b ds)=>∃l vs,x=some (.ref l)/\O0 l/\H l=some (.lst vs)/\ak K H O vs ds
structure Wd (K:Og) (H0:Hp) (O0:Ex) (H:Hp) (O:Ex) (σ:St) (δ:Dl):Prop where
 same:aw H0 H
 sub:∀l,O0 l->O l
 new:∀l,O l->O0 l\/H0 l=none
 trk:∀l,O l->H l≠none
 len:σ.length=δ.length
 sl:∀(i:Nat) y,δ[i]?=some y->gM K H O0 O ((σ[i]?).join) y
 dis:∀(i j:Nat) y z l,δ[i]?=some (some y)->y.own->δ[j]?=some (some z)->z.own->σ[i]?=some (some (.ref l))->σ[j]?=some (some (.ref l))->i=j
section
variable {K:Og} {H0 H H':Hp} {O0 O:Ex} {σ:St} {δ:Dl}
theorem gM.mono{x:Option V}{y:Option Sl}(s:aw H H')(h:gM K H O0 O x y):gM K H' O0 O x y:=by
 match y,h with
 | none,_=>exact Qi
 | some (.v d),⟨v,e,r⟩=>exact⟨v,e,r.mono s⟩
 | some (.o ds),⟨l,vs,e,a,b,c,r⟩=>exact⟨l,vs,e,a,b,s _ _ c,r.mono s⟩
 | some (.k ds),⟨l,vs,e,a,b,c,r⟩=>exact⟨l,vs,e,a,b,s _ _ c,r.mono s⟩
 | some (.i l C ds),⟨dx,vs,e,a,b,c,r1,r2⟩=>exact⟨dx,vs,e,a,b,s _ _ c,r1,r2.mono s⟩
 | some (.r l C g u fd gd ud),⟨e,a,b,dx,fs,og,ou,gv,uv,c,⟨r1,r2⟩,ne,⟨g1,g2,g3,g4⟩,u1,u2,u3,u4⟩=>exact⟨e,a,b,dx,fs,og,ou,gv,uv,s _ _ c,⟨r1,r2.mono s⟩,ne,⟨g1,g2,s _ _ g3,g4.mono s⟩,u1,u2,s _ _ u3,u4.mono s⟩
 | some (.b ds),⟨l,vs,e,a,c,r⟩=>exact⟨l,vs,e,a,s _ _ c,r.mono s⟩
theorem gM.go{O':Ex}{x:Option V}{y:Option Sl}(h:gM K H O0 O x y)(S:aS H H' O O')(kp:∀l o,y.any (λz=>match z with | .v _=>false | .b _=>false | _=>true)=true->x=some (.ref l)->O l->¬O0 l->H l=some o->O' l/\H' l=some o)
 (kp2:∀a o u,O a->¬O0 a->H a=some (.frz o u)->O' a/\H' a=some (.frz o u))(kp3:∀a o,O0 a->H a=some o->H' a=some o):gM K H' O0 O' x y:=by
 match y,h with
 | none,_=>exact Qi
 | some (.v d),⟨v,e,r⟩=>exact⟨v,e,r.step S⟩
 | some (.o ds),⟨l,vs,e,a,b,c,r⟩=>exact⟨l,vs,e,(kp l _ rfl e a b c).1,b,(kp l _ rfl e a b c).2,r.step S⟩
 | some (.k ds),⟨l,vs,e,a,b,c,r⟩=>exact⟨l,vs,e,(kp l _ rfl e a b c).1,b,(kp l _ rfl e a b c).2,r.step S⟩
 | some (.i l C ds),⟨dx,vs,e,a,b,c,r1,r2⟩=>exact⟨dx,vs,e,(kp l _ rfl e a b c).1,b,(kp l _ rfl e a b c).2,r1,r2.step S⟩
 | some (.r l C g u fd gd ud),⟨e,a,b,dx,fs,og,ou,gv,uv,c,⟨r1,r2⟩,ne,⟨g1,g2,g3,g4⟩,u1,u2,u3,u4⟩=>exact⟨e,(kp l _ rfl e a b c).1,b,dx,fs,og,ou,gv,uv,(kp l _ rfl e a b c).2,⟨r1,r2.step S⟩,ne,⟨(kp2 _ _ _ g1 g2 g3).1,g2,(kp2 _ _ _ g1 g2 g3).2,g4.step S⟩,(kp2 _ _ _ u1 u2 u3).1,u2,(kp2 _ _ _ u1 u2 u3).2,u4.step S⟩
 | some (.b ds),⟨l,vs,e,a,c,r⟩=>exact⟨l,vs,e,a,kp3 _ _ a c,r.step S⟩
theorem Wd.mono(s:aw H H')(w:Wd K H0 O0 H O σ δ):Wd K H0 O0 H' O σ δ:=
 ⟨w.same.trans s,w.sub,w.new,λl h z=>(by
  cases e:H l with
  | none=>exact w.trk l h e
  | some o=>rw [s _ _ e] at z;cases z),w.len,λi y e=>(w.sl i y e).mono s,w.dis⟩
theorem fB{i:Nat}{v:V}(h:(σ[i]?).join=some v):σ[i]?=some (some v):=by
 cases q:σ[i]? with
 | none=>rw [q] at h;cases h
 | some o=>rw [q] at h;rw [show o=some v from h]
theorem Wd.val(w:Wd K H0 O0 H O σ δ){i:Nat}{d:VI}(e:δ[i]?=some (some (.v d))):∃v,σ[i]?=some (some v)/\Dt K H O v d:=by
 obtain⟨v,h,r⟩:=w.sl i _ e;exact⟨v,fB h,r⟩
theorem Wd.own(w:Wd K H0 O0 H O σ δ){i:Nat}{ds:List VI}(e:δ[i]?=some (some (.o ds))):∃l vs,σ[i]?=some (some (.ref l))/\O l/\¬O0 l/\H l=some (.lst vs)/\ak K H O vs ds:=by
 obtain⟨l,vs,h,r⟩:=w.sl i _ e;exact⟨l,vs,fB h,r⟩
theorem Wd.ownK(w:Wd K H0 O0 H O σ δ){i:Nat}{kd:List (au×VI)}(e:δ[i]?=some (some (.k kd))):∃l kv,σ[i]?=some (some (.ref l))/\O l/\¬O0 l/\H l=some (.dK kv)/\bJ K H O kv kd:=by
 obtain⟨l,vs,h,r⟩:=w.sl i _ e;exact⟨l,vs,fB h,r⟩
theorem Wd.ownI(w:Wd K H0 O0 H O σ δ){i:Nat}{l C:VM}{fd:List (Str×VI)}(e:δ[i]?=some (some (.i l C fd))):∃dx fs,σ[i]?=some (some (.ref l))/\O l/\¬O0 l/\H l=some (.ins C dx fs)/\ij K H O fs fd:=by
 obtain⟨dx,vs,h,r⟩:=w.sl i _ e;exact⟨dx,vs,fB h,r⟩
theorem Wd.adr(w:Wd K H0 O0 H O σ δ){i:Nat}{y:Sl}(e:δ[i]?=some (some y))(h:y.own):∃l,σ[i]?=some (some (.ref l))/\O l/\¬O0 l:=by
 match y,h,e with
 | .o ds,_,e=>obtain⟨l,vs,a,b,c,_⟩:=w.own e;exact⟨l,a,b,c⟩
 | .k ds,_,e=>obtain⟨l,vs,a,b,c,_⟩:=w.ownK e;exact⟨l,a,b,c⟩
 | .i l C ds,_,e=>obtain⟨dx,vs,a,b,c,_⟩:=w.ownI e;exact⟨l,a,b,c⟩
 | .r l C g u fd gd ud,_,e=>obtain⟨a,b,c,_⟩:=w.sl i _ e;exact⟨l,fB a,b,c⟩
theorem Wd.nofrz(w:Wd K H0 O0 H O σ δ){i:Nat}{y:Sl}{l:VM}(e:δ[i]?=some (some y))(h:y.own)(hl:σ[i]?=some (some (.ref l)))(o:Obj)(u:HO):H l≠some (.frz o u):=by
 match y,h,e with
 | .o ds,_,e=>obtain⟨l',vs,a,b,c,d,_⟩:=w.own e;rw [hl] at a;cases a;rw [d];exact λz=>nomatch z
 | .k ds,_,e=>obtain⟨l',vs,a,b,c,d,_⟩:=w.ownK e;rw [hl] at a;cases a;rw [d];exact λz=>nomatch z
 | .i l C ds,_,e=>obtain⟨dx,vs,a,b,c,d,_⟩:=w.ownI e;rw [hl] at a;cases a;rw [d];exact λz=>nomatch z
 | .r l C g u fd gd ud,_,e=>obtain⟨a,b,c,_,_,_,_,_,_,d,_⟩:=w.sl i _ e;have a:=fB a;rw [hl] at a;cases a;rw [d];exact λz=>nomatch z
theorem Wd.set(w:Wd K H0 O0 H O σ δ){i:Nat}{v:V}{d:VI}(h:Dt K H O v d):Wd K H0 O0 H O (σ.set i (some v)) (δ.set i (some (.v d))):=by
 refine⟨w.same,w.sub,w.new,w.trk,by simp [w.len],λj y e=>?_,λj k y z l e1 y1 e2 z2 e3 e4=>?_⟩
 ·by_cases hj:j=i
  ·subst hj;have hl:j < δ.length:=by
    have:=(OB.mp e).1;simpa using this
   rw [OU hl] at e;cases e;rw [OU (by rw [w.len];exact hl)];exact⟨v,rfl,h⟩
  ·rw [OF (Ne.symm hj)] at e⊢;exact w.sl j y e
 ·have ne:∀{j:Nat}{y:Sl},(δ.set i (some (.v d)))[j]?=some (some y)->y.own->j≠i:=λ{j y} e ho z=>by
   subst z;by_cases hl:j < δ.length
   ·rw [OU hl] at e;cases e;exact ho
   ·rw [Qo (by simpa using hl)] at e;cases e
  have n1:=ne e1 y1;have n2:=ne e2 z2;rw [OF (Ne.symm n1)] at e1 e3;rw [OF (Ne.symm n2)] at e2 e4;exact w.dis j k y z l e1 y1 e2 z2 e3 e4
theorem Wd.setY(w:Wd K H0 O0 H O σ δ){i:Nat}{p:VM}{ho:HO}{y0:Sl}(hy:y0.own)(hp:H p=none)(h:∀O',aS H (ai H p ho) O O'->O' p->¬O0 p->gM K (ai H p ho) O0 O' (some (.ref p)) (some y0)):
 Wd K H0 O0 (ai H p ho) (λl=>O l\/l=p) (σ.set i (some (.ref p))) (δ.set i (some y0)):=by
 have sm:aw H (ai H p ho):=aw.new hp;have np:∀l,O l->l≠p:=λl hl z=>w.trk l hl (by rw [z];exact hp);have p0:H0 p=none:=by
  cases e:H0 p with
  | none=>rfl
  | some o=>rw [w.same _ _ e] at hp;cases hp
 have S:aS H (ai H p ho) O (λl=>O l\/l=p):=⟨λb o e _=>sm b o e,λb hb hn z=>z.elim hn λq=>hb (by rw [q];exact hp)⟩;have n0:¬O0 p:=λz=>np p (w.sub p z) rfl;refine⟨w.same.trans sm,λl z=>.inl (w.sub l z),λl z=>z.elim (w.new l) λq=>.inr (by rw [q];exact p0),λl z=>?_,by simp [w.len],λj y e=>?_,λj k y z l e1 y1 e2 z2 e3 e4=>?_⟩
 ·by_cases q:l=p
  ·rw [q,bA];exact λz=>nomatch z
  ·rw [aC q];exact w.trk l (z.resolve_right q)
 ·by_cases hj:j=i
  ·subst hj;have hl:j < δ.length:=by
    have:=(OB.mp e).1;simpa using this
   rw [OU hl] at e;cases e;rw [OU (by rw [w.len];exact hl)];exact h _ S (.inr rfl) n0
  ·rw [OF (Ne.symm hj)] at e⊢;exact(w.sl j y e).go S (λl o _ _ a _ c=>⟨.inl a,sm _ _ c⟩) (λa o u a1 _ a3=>⟨.inl a1,sm _ _ a3⟩) λa o _ a3=>sm _ _ a3
 ·by_cases hj:j=i
  ·by_cases hk:k=i
   ·rw [hj,hk]
   ·exfalso;rw [hj] at e1 e3;have hl:i < σ.length:=by
     have:=(OB.mp e3).1;simpa using this
    rw [OU hl] at e3;cases e3;rw [OF (Ne.symm hk)] at e2 e4;obtain⟨l',x1,x2,_⟩:=w.adr e2 z2;rw [e4] at x1;cases x1;exact np _ x2 rfl
  ·by_cases hk:k=i
   ·exfalso;rw [hk] at e2 e4;have hl:i < σ.length:=by
     have:=(OB.mp e4).1;simpa using this
    rw [OU hl] at e4;cases e4;rw [OF (Ne.symm hj)] at e1 e3;obtain⟨l',x1,x2,_⟩:=w.adr e1 y1;rw [e3] at x1;cases x1;exact np _ x2 rfl
   ·rw [OF (Ne.symm hj)] at e1 e3;rw [OF (Ne.symm hk)] at e2 e4;exact w.dis j k _ _ l e1 y1 e2 z2 e3 e4
theorem Wd.setO(w:Wd K H0 O0 H O σ δ){i:Nat}{p:VM}{vs:List V}{ds:List VI}(hp:H p=none)(h:ak K H O vs ds):
 Wd K H0 O0 (ai H p (.lst vs)) (λl=>O l\/l=p) (σ.set i (some (.ref p))) (δ.set i (some (.o ds))):=
 w.setY trivial hp λO' S a b=>⟨p,vs,rfl,a,b,bA,h.step S⟩
theorem Wd.setK(w:Wd K H0 O0 H O σ δ){i:Nat}{p:VM}{kv:List (au×V)}{kd:List (au×VI)}(hp:H p=none)(h:bJ K H O kv kd):
 Wd K H0 O0 (ai H p (.dK kv)) (λl=>O l\/l=p) (σ.set i (some (.ref p))) (δ.set i (some (.k kd))):=
 w.setY trivial hp λO' S a b=>⟨p,kv,rfl,a,b,bA,h.step S⟩
theorem Wd.putY(w:Wd K H0 O0 H O σ δ){i:Nat}{l:VM}{ho:HO}{y0 y1:Sl}(h0:y0.own)(h1:y1.own)(e:δ[i]?=some (some y0))(hl:σ[i]?=some (some (.ref l)))(h:aS H (ai H l ho) O O->O l->¬O0 l->gM K (ai H l ho) O0 O (some (.ref l)) (some y1)):
 Wd K H0 O0 (ai H l ho) O σ (δ.set i (some y1)):=by
 obtain⟨l',x1,x2,x3⟩:=w.adr e h0;rw [hl] at x1;cases x1;have l0:H0 l=none:=(w.new l x2).resolve_left x3;have S:aS H (ai H l ho) O O:=⟨λb o q n=>by rw [aC (λz=>n (by rw [z];exact x2))];exact q,λ_ _ n=>n⟩;have li:i < δ.length:=(OB.mp e).1;refine⟨λb o q=>by rw [aC (λz=>by rw [z,l0] at q;cases q)];exact w.same b o q,w.sub,w.new,λb z=>?_,by simp [w.len],λj y q=>?_,λj k y z b e1 y1' e2 z2 e3 e4=>?_⟩
 ·by_cases q:b=l
  ·rw [q,bA];exact λz=>nomatch z
  ·rw [aC q];exact w.trk b z
 ·by_cases hj:j=i
  ·subst hj;rw [OU li] at q;cases q;rw [hl];exact h S x2 x3
  ·rw [OF (Ne.symm hj)] at q;refine(w.sl j y q).go S (λb o ho' e' a1 a2 a3=>⟨a1,?_⟩) (λb o u a1 a2 a3=>⟨a1,by rw [aC (λz=>w.nofrz e h0 hl o u (by rw [<-z];exact a3))];exact a3⟩) λb o a1 a3=>by rw [aC (λz=>x3 (by rw [<-z];exact a1))];exact a3
   have nb:b≠l:=λz=>by
    subst z
    match y,ho',q with
    | some z,ho',q=>exact hj (w.dis j i z y0 b q (by cases z <;> first | trivial | cases ho') e h0 (fB e') hl)
   rw [aC nb];exact a3
 ·have eO:∀{j:Nat}{y:Sl},(δ.set i (some y1))[j]?=some (some y)->y.own->∃y',δ[j]?=some (some y')/\y'.own:=λ{j y} q hq=>by
   by_cases hj:j=i
   ·subst hj;exact⟨_,e,h0⟩
   ·rw [OF (Ne.symm hj)] at q;exact⟨_,q,hq⟩
  obtain⟨_,q1,r1⟩:=eO e1 y1';obtain⟨_,q2,r2⟩:=eO e2 z2;exact w.dis j k _ _ b q1 r1 q2 r2 e3 e4
theorem Wd.putO(w:Wd K H0 O0 H O σ δ){i:Nat}{l:VM}{vs us:List V}{ds es:List VI}(e:δ[i]?=some (some (.o ds)))(hl:σ[i]?=some (some (.ref l)))(h:ak K H O us es):
 Wd K H0 O0 (ai H l (.lst us)) O σ (δ.set i (some (.o es))):=
 w.putY (y0:= .o ds) (y1:= .o es) trivial trivial e hl λS a b=>⟨l,us,rfl,a,b,bA,h.step S⟩
theorem Wd.putK(w:Wd K H0 O0 H O σ δ){i:Nat}{l:VM}{kv:List (au×V)}{kd kd':List (au×VI)}(e:δ[i]?=some (some (.k kd)))(hl:σ[i]?=some (some (.ref l)))(h:bJ K H O kv kd'):
 Wd K H0 O0 (ai H l (.dK kv)) O σ (δ.set i (some (.k kd'))):=
 w.putY (y0:= .k kd) (y1:= .k kd') trivial trivial e hl λS a b=>⟨l,kv,rfl,a,b,bA,h.step S⟩
end
abbrev DT:=Dl->(VI->Prop)->Prop
abbrev DA:=Dl->(List VI->Prop)->Prop
abbrev DB:=Dl->(Bool->Prop)->Prop
structure d4 where
 nx:Dl->Prop
 rt:VI->Prop
 bk:Dl->Prop:=λ_=>False
 ct:Dl->Prop:=λ_=>False
abbrev DS:=d4->Dl->Prop
section
variable (K:Og) (H0:Hp) (O0:Ex)
def up(t:DT):TE:=λσ H R=>∃O δ Qd,Wd K H0 O0 H O σ δ/\t δ Qd/\∀d v H',Qd d->aw H H'->Dt K H' O v d->R v H'
def vW(t:DT):TE:=λσ H R=>∃O δ Qd,Wd K H0 O0 H O σ δ/\t δ Qd/\∀d v H',Qd d->aw H H'->Sh K H' O v d->R v H'
def gN(t:DA):TA:=λσ H R=>∃O δ Qd,Wd K H0 O0 H O σ δ/\t δ Qd/\∀ds vs H',Qd ds->aw H H'->ak K H' O vs ds->R vs H'
def b5(t:DB):TT:=λσ H R=>∃O δ Qd,Wd K H0 O0 H O σ δ/\t δ Qd/\∀b H',Qd b->aw H H'->R b H'
def bz(t:DS):TS:=λD σ H=>∃O δ E,Wd K H0 O0 H O σ δ/\t E δ/\(∀O' δ' σ' H',E.nx δ'->Wd K H0 O0 H' O' σ' δ'->aS H H' O O'->D.nx σ' H')/\(∀d v H',E.rt d->aw H0 H'->Dt K H' O0 v d->D.rt v H')/\
 (∀O' δ' σ' H',E.bk δ'->Wd K H0 O0 H' O' σ' δ'->aS H H' O O'->D.bk σ' H')/\(∀O' δ' σ' H',E.ct δ'->Wd K H0 O0 H' O' σ' δ'->aS H H' O O'->D.ct σ' H')
end
theorem PE.imp{X:Cx}{e:VT}{t u:TE}(h:PE X e t)(i:∀σ H Q,u σ H Q->t σ H Q):PE X e u:=λXl s σ H Q I z=>h Xl s σ H Q I (i σ H Q z)
theorem PT.imp{X:Cx}{e:VT}{t u:TT}(h:PT X e t)(i:∀σ H Q,u σ H Q->t σ H Q):PT X e u:=λXl s σ H Q I z=>h Xl s σ H Q I (i σ H Q z)
theorem PW.imp{X:Cx}{e:VT}{t u:TT}(h:PW X e t)(i:∀σ H Q,u σ H Q->t σ H Q):PW X e u:=λwh Xl s σ H Q I z=>h wh Xl s σ H Q I (i σ H Q z)
theorem PA.imp{X:Cx}{e:List VT}{t u:TA}(h:PA X e t)(i:∀σ H Q,u σ H Q->t σ H Q):PA X e u:=λpos Xl s σ H Q I z=>h pos Xl s σ H Q I (i σ H Q z)
theorem PS.imp{X:Cx}{e:VZ}{t u:TS}(h:PS X e t)(i:∀D σ H,u D σ H->t D σ H):PS X e u:=λXl s σ H D I z=>h Xl s σ H D I (i D σ H z)
theorem bX.imp{X:Cx}{e:List VZ}{t u:TS}(h:bX X e t)(i:∀D σ H,u D σ H->t D σ H):bX X e u:=λXl s σ H D I z=>h Xl s σ H D I (i D σ H z)
section
variable {X:Cx} {H0:Hp} {O0:Ex}
abbrev DE(X:Cx)(H0:Hp)(O0:Ex)(e:VT)(t:DT):Prop:=PE X e (up X.K H0 O0 t)
abbrev DF(X:Cx)(H0:Hp)(O0:Ex)(e:VT)(t:DT):Prop:=PE X e (vW X.K H0 O0 t)
theorem df{e:VT}{t:DT}(h:DE X H0 O0 e t):DF X H0 O0 e t:=h.imp λσ H Q uu64=>by obtain⟨O,δ,Qd,w,q,k⟩:=uu64;exact⟨O,δ,Qd,w,q,λd v H' a b c=>k d v H' a b (.dt c)⟩
def vX(Q:VI->Prop):Option (Option Sl)->Prop
 | some (some (.v d))=>Q d
 | _=>False
def cf(i:Nat):DT:=λδ Q=>vX Q δ[i]?
theorem Ah{Q:VI->Prop}{o:Option (Option Sl)}:vX Q o↔∃d,o=some (some (.v d))/\Q d:=by
 constructor
 ·intro h
  match o,h with
  | some (some (.v d)),h=>exact⟨d,rfl,h⟩
 ·rintro⟨d,rfl,h⟩;exact h
theorem Hm{i:Nat}{δ:Dl}{Q:VI->Prop}(h:cf i δ Q):∃d,δ[i]?=some (some (.v d))/\Q d:=Ah.mp h
def lN(i:Nat):DT:=λδ Q=>∃ds,δ[i]?=some (some (.o ds))/\Q (.list ds)
def dC(d:VI):DT:=λ_ Q=>Q d
theorem dv(i:Nat){x:Str}{pos:Pos}(hN:X.N[i]?=some x:=by rfl)(hv:sf X.env.scope x:=by first | exact T7 rfl | exact SS (T7 rfl) | exact SS (SS rfl))
 (hd:(x==("__debug__":Str))=false:=by decide)(hcd:(x==("__classdict__":Str))=false:=by decide):DE X H0 O0 (.Name x pos) (cf i):=
 (vk hN hv hd hcd).imp λσ H Q uu65=>by
  obtain⟨O,δ,Qd,w,dq,k⟩:=uu65;obtain⟨d,e,q⟩:=Hm dq;obtain⟨v,h,r⟩:=w.val e;exact⟨v,h,k d v H q (aw.refl _) r⟩
theorem dw(i:Nat){x:Str}{pos:Pos}(hN:X.N[i]?=some x:=by rfl)(hv:sf X.env.scope x:=by first | exact T7 rfl | exact SS (T7 rfl) | exact SS (SS rfl))
 (hd:(x==("__debug__":Str))=false:=by decide)(hcd:(x==("__classdict__":Str))=false:=by decide):DF X H0 O0 (.Name x pos) (lN i):=
 (vk hN hv hd hcd).imp λσ H Q uu66=>by
  obtain⟨O,δ,Qd,w,⟨ds,e,q⟩,k⟩:=uu66;obtain⟨l,vs,h,_,_,r,rs⟩:=w.own e;exact⟨_,h,k _ _ H q (aw.refl _) (.own r rs)⟩
theorem dc{e:VT}{v:V}{d:VI}(h:PE X e (tC v))(r:∀H O,Dt X.K H O v d):DE X H0 O0 e (dC d):=h.imp λσ H Q uu67=>by obtain⟨O,δ,Qd,w,q,k⟩:=uu67;exact k d v H q (aw.refl _) (r H O)
theorem af{i j pos}:DE X H0 O0 (.Constant (.int i) j pos) (dC (.int i)):=dc bR λ_ _=>.int i
theorem vY{b j pos}:DE X H0 O0 (.Constant (.bool b) j pos) (dC (.bool b)):=dc yP λ_ _=>.bl b
theorem d5{j pos}:DE X H0 O0 (.Constant .none j pos) (dC .none):=dc Fd λ_ _=>.non
theorem bg{x j pos}:DE X H0 O0 (.Constant (.str x) j pos) (dC (.str x)):=dc vo λ_ _=>.str x
def gO:DA:=λ_ Q=>Q []
def ik(t:DT)(u:DA):DA:=λδ Q=>t δ λd=>u δ λds=>Q (d::ds)
theorem ao:PA X [] (gN X.K H0 O0 gO):=ck.imp λσ H Q uu68=>by obtain⟨O,δ,Qd,w,q,k⟩:=uu68;exact k [] [] H q (aw.refl _) .nil
theorem aa{e:VT}{es:List VT}{t:DT}{u:DA}(h:DE X H0 O0 e t)(hs:PA X es (gN X.K H0 O0 u))(he:VQ (e::es) X.env=(false,eval e X.env)::VQ es X.env:=by rfl):PA X (e::es) (gN X.K H0 O0 (ik t u)):=
 (bF h hs he).imp λσ H Q uu69=>by obtain⟨O,δ,Qd,w,q,k⟩:=uu69;exact⟨O,δ,_,w,q,λd v H1 q1 s1 r1=>⟨O,δ,_,w.mono s1,q1,λds vs H2 q2 s2 r2=>k (d::ds) (v::vs) H2 q2 (s1.trans s2) (.cons (r1.mono s2) r2)⟩⟩
def lO(t:DA):DT:=λδ Q=>t δ λds=>ds.length<=VV/\Q (.tuple ds)
theorem t8{H:Hp}{O:Ex}{σ:St}{δ:Dl}{H1:Hp}{p:VM}{K:Og}(w:Wd K H0 O0 H O σ δ)(s:aw H H1)(hp:H1 p=none):¬O p:=λz=>(w.mono s).trk p z hp
theorem bN{es:List VT}{t:DA}{x1}{pos:Pos}(h:PA X es (gN X.K H0 O0 t)):DE X H0 O0 (.Tuple es x1 pos) (lO t):=
 (zF h).imp λσ H Q uu70=>by obtain⟨O,δ,Qd,w,q,k⟩:=uu70;exact⟨O,δ,_,w,q,λds vs H1 q1 s1 r1=>⟨by rw [r1.length];exact q1.1,λp hp=>k _ _ _ q1.2 (s1.trans (aw.new hp)) (.tup (.inl bA) (t8 w s1 hp) (r1.mono (aw.new hp)))⟩⟩
end
theorem aS.refl(H:Hp)(O:Ex):aS H H O O:=⟨λ_ _ e _=>e,λ_ _ n=>n⟩
theorem aS.trans{H H1 H2:Hp}{O O1 O2:Ex}(a:aS H H1 O O1)(b:aS H1 H2 O1 O2):aS H H2 O O2:=by
 refine⟨λc o e n=>?_,λc e n=>?_⟩
 ·have h1:=a.keep c o e n;exact b.keep c o h1 (a.out c (by rw [e];exact λz=>nomatch z) n)
 ·cases q:H c with
  | none=>exact absurd q e
  | some o=>exact b.out c (by rw [a.keep c o q n];exact λz=>nomatch z) (a.out c e n)
section
variable {X:Cx} {H0:Hp} {O0:Ex}
def cN(K:Og)(r:R2)(rd:VI->VI->(VI->Prop)->Prop):Prop:=
 ∀(H:Hp)(O:Ex)(x y:V)(dx dy:VI)(Qd:VI->Prop)(R:VK),(∀l,O l->H l≠none)->Sh K H O x dx->Sh K H O y dy->rd dx dy Qd->(∀d v H',Qd d->aw H H'->Dt K H' O v d->R v H')->r x y H R
def cV(rd:VI->VI->(VI->Prop)->Prop)(ta tb:DT):DT:=λδ Q=>ta δ λx=>tb δ λy=>rd x y Q
theorem t9{K:Og}{r:R2}{rd:VI->VI->(VI->Prop)->Prop}{ta tb:DT}(hd:cN K r rd):∀σ H Q,up K H0 O0 (cV rd ta tb) σ H Q->qK r (vW K H0 O0 ta) (vW K H0 O0 tb) σ H Q:=
 λσ H Q uu71=>by obtain⟨O,δ,Qd,w,q,k⟩:=uu71;exact⟨O,δ,_,w,q,λx v H1 q1 s1 r1=>⟨O,δ,_,w.mono s1,q1,λy u H2 q2 s2 r2=>hd H2 O v u x y Qd _ (w.mono (s1.trans s2)).trk (r1.mono s2) r2 q2 λd z H3 qd s3 r3=>k d z H3 qd (s1.trans (s2.trans s3)) r3⟩⟩
theorem az{a b:VT}{ta tb:DT}{op:Operator}{r:R2}{rd:VI->VI->(VI->Prop)->Prop}{pos:Pos}(ho:bU X (Wn op) r)(hd:cN X.K r rd)(ha:DF X H0 O0 a ta)(hb:DF X H0 O0 b tb):DE X H0 O0 (.BinOp a op b pos) (cV rd ta tb):=(bM ho ha hb).imp (t9 hd)
theorem cO{a b:VT}{ta tb:DT}{op:CmpOp}{r:R2}{rd:VI->VI->(VI->Prop)->Prop}{pos:Pos}(ho:bU X (V6 op) r)(hd:cN X.K r rd)(ha:DF X H0 O0 a ta)(hb:DF X H0 O0 b tb)(hm:Wf op b=false):DE X H0 O0 (.Compare a [op] [b] pos) (cV rd ta tb):=(tP ho ha hb hm).imp (t9 hd)
def dR(t:DT):DB:=λδ Q=>t δ λd=>∃b,d= .bool b/\Q b
theorem aU{a b:VT}{ta tb:DT}{op:CmpOp}{r:R2}{rd:VI->VI->(VI->Prop)->Prop}{pos:Pos}(ho:bU X (V6 op) r)(hd:cN X.K r rd)(ha:DF X H0 O0 a ta)(hb:DF X H0 O0 b tb)(hm:Wf op b=false):PT X (.Compare a [op] [b] pos) (b5 X.K H0 O0 (dR (cV rd ta tb))):=
 (oC ho ha hb hm).imp λσ H Q uu72=>by obtain⟨O,δ,Qd,w,q,k⟩:=uu72;exact t9 hd σ H _ ⟨O,δ,_,w,q,λd v H' uu73 s r=>by obtain⟨b,e,qb⟩:=uu73;subst e;cases r;exact⟨b,rfl,k b H' qb s⟩⟩
theorem fO{e:VT}{t:DT}(h:DE X H0 O0 e t)(he:∀whole,isTrue e X.env whole=(do let v<-whole;WZ e.pos;WR [v] (truthy v)):=by intro _;rfl):PT X e (b5 X.K H0 O0 (dR t)):=
 (yR h he).imp λσ H Q uu74=>by obtain⟨O,δ,Qd,w,q,k⟩:=uu74;exact⟨O,δ,_,w,q,λd v H' uu75 s r=>by obtain⟨b,e,qb⟩:=uu75;subst e;cases r;exact⟨b,rfl,k b H' qb s⟩⟩
def lP(t u:DB):DB:=λδ Q=>t δ λc=>if c=true then u δ Q else Q false
def jZ(t u:DB):DB:=λδ Q=>t δ λc=>if c=true then Q true else u δ Q
def lQ(t:DB):DB:=λδ Q=>t δ λc=>Q (!c)
theorem fc{a:VT}{t:DB}{pos:Pos}(h:PT X a (b5 X.K H0 O0 t)):PW X (.BoolOp .And [a] pos) (b5 X.K H0 O0 t):=yV h
theorem qN{a:VT}{t:DB}{pos:Pos}(h:PT X a (b5 X.K H0 O0 t)):PW X (.BoolOp .Or [a] pos) (b5 X.K H0 O0 t):=Fg h
theorem fg{a b:VT}{rest:List VT}{t u:DB}{pos:Pos}(h:PT X a (b5 X.K H0 O0 t))(hb:PW X (.BoolOp .And (b::rest) pos) (b5 X.K H0 O0 u)):PW X (.BoolOp .And (a::b::rest) pos) (b5 X.K H0 O0 (lP t u)):=
 (yW h hb).imp λσ H Q uu76=>by obtain⟨O,δ,Qd,w,q,k⟩:=uu76;exact⟨O,δ,_,w,q,λc H1 q1 s1=>by
  cases c with
  | true=>exact⟨O,δ,_,w.mono s1,q1,λb H2 q2 s2=>k b H2 q2 (s1.trans s2)⟩
  | false=>exact k false H1 q1 s1⟩
theorem qO{a b:VT}{rest:List VT}{t u:DB}{pos:Pos}(h:PT X a (b5 X.K H0 O0 t))(hb:PW X (.BoolOp .Or (b::rest) pos) (b5 X.K H0 O0 u)):PW X (.BoolOp .Or (a::b::rest) pos) (b5 X.K H0 O0 (jZ t u)):=
 (Fh h hb).imp λσ H Q uu77=>by obtain⟨O,δ,Qd,w,q,k⟩:=uu77;exact⟨O,δ,_,w,q,λc H1 q1 s1=>by
  cases c with
  | false=>exact⟨O,δ,_,w.mono s1,q1,λb H2 q2 s2=>k b H2 q2 (s1.trans s2)⟩
  | true=>exact k true H1 q1 s1⟩
theorem oJ{a:VT}{t:DB}{pos:Pos}(h:PT X a (b5 X.K H0 O0 t)):PT X (.UnaryOp .Not a pos) (b5 X.K H0 O0 (lQ t)):=
 (Fi h).imp λσ H Q uu78=>by obtain⟨O,δ,Qd,w,q,k⟩:=uu78;exact⟨O,δ,_,w,q,λc H1 q1 s1=>k (!c) H1 q1 s1⟩
def lR(t u:DT):DT:=λδ Q=>t δ λd=>∃c,d= .bool c/\if c=true then u δ Q else Q (.bool false)
def lT(t u:DT):DT:=λδ Q=>t δ λd=>∃c,d= .bool c/\if c=true then Q (.bool true) else u δ Q
def lU(t:DT):DT:=λδ Q=>t δ λd=>∃c,d= .bool c/\Q (.bool (!c))
theorem lV{op}{a:VT}{t:DT}{pos:Pos}(h:DE X H0 O0 a t):DE X H0 O0 (.BoolOp op [a] pos) t:=vp h
theorem j0{a b:VT}{rest:List VT}{t u:DT}{pos:Pos}(h:DE X H0 O0 a t)(hb:DE X H0 O0 (.BoolOp .And (b::rest) pos) u):DE X H0 O0 (.BoolOp .And (a::b::rest) pos) (lR t u):=
 (y9 h hb).imp λσ H Q ⟨O,δ,Qd,w,q,k⟩=>⟨O,δ,_,w,q,λd v H1 uu80 s1 r=>by
  obtain⟨c,e,q1⟩:=uu80;subst e;cases r;refine⟨c,rfl,?_⟩;cases c with
  | true=>exact⟨O,δ,_,w.mono s1,q1,λd v H2 q2 s2 r2=>k d v H2 q2 (s1.trans s2) r2⟩
  | false=>exact k _ _ H1 q1 s1 (.bl false)⟩
theorem Hn{a b:VT}{rest:List VT}{t u:DT}{pos:Pos}(h:DE X H0 O0 a t)(hb:DE X H0 O0 (.BoolOp .Or (b::rest) pos) u):DE X H0 O0 (.BoolOp .Or (a::b::rest) pos) (lT t u):=
 (za h hb).imp λσ H Q ⟨O,δ,Qd,w,q,k⟩=>⟨O,δ,_,w,q,λd v H1 uu82 s1 r=>by
  obtain⟨c,e,q1⟩:=uu82;subst e;cases r;refine⟨c,rfl,?_⟩;cases c with
  | false=>exact⟨O,δ,_,w.mono s1,q1,λd v H2 q2 s2 r2=>k d v H2 q2 (s1.trans s2) r2⟩
  | true=>exact k _ _ H1 q1 s1 (.bl true)⟩
theorem Ho{a:VT}{t:DT}{pos:Pos}(h:DE X H0 O0 a t):DE X H0 O0 (.UnaryOp .Not a pos) (lU t):=
 (Fj h).imp λσ H Q uu83=>by obtain⟨O,δ,Qd,w,q,k⟩:=uu83;exact⟨O,δ,_,w,q,λd v H1 uu84 s1 r=>by
  obtain⟨c,e,q1⟩:=uu84;subst e;cases r;exact⟨c,rfl,k _ _ H1 q1 s1 (.bl _)⟩⟩
def lW(c:DB)(t u:DT):DT:=λδ Q=>c δ λb=>if b=true then t δ Q else u δ Q
theorem sM{c a b:VT}{tc:DB}{t u:DT}{pos:Pos}(hc:PT X c (b5 X.K H0 O0 tc))(ha:DE X H0 O0 a t)(hb:DE X H0 O0 b u):DE X H0 O0 (.IfExp c a b pos) (lW tc t u):=
 (zc hc ha hb).imp λσ H Q uu85=>by obtain⟨O,δ,Qd,w,q,k⟩:=uu85;exact⟨O,δ,_,w,q,λc H1 q1 s1=>by
  cases c with
  | true=>exact⟨O,δ,_,w.mono s1,q1,λd v H2 q2 s2 r2=>k d v H2 q2 (s1.trans s2) r2⟩
  | false=>exact⟨O,δ,_,w.mono s1,q1,λd v H2 q2 s2 r2=>k d v H2 q2 (s1.trans s2) r2⟩⟩
def aW(K:Og)(F:List VI->(VI->Prop)->Prop):Sp:=λvs H Q _=>∃O ds Qd,(∀l,O l->H l≠none)/\ak K H O vs ds/\F ds Qd/\∀d v H',Qd d->aw H H'->Dt K H' O v d->Q v H'
def gP(F:List VI->(VI->Prop)->Prop)(t:DA):DT:=λδ Q=>t δ λds=>F ds Q
theorem aR{K:Og}{F:List VI->(VI->Prop)->Prop}{t:DA}{E:XK}:∀σ H Q,up K H0 O0 (gP F t) σ H Q->sH (aW K F) [] E (gN K H0 O0 t) σ H Q:=
 λσ H Q uu86=>by obtain⟨O,δ,Qd,w,q,k⟩:=uu86;exact⟨O,δ,_,w,q,λds vs H1 q1 s1 r1=>⟨O,ds,Qd,(w.mono s1).trk,by rw [Pj];exact r1,q1,λd v H2 q2 s2 r2=>k d v H2 q2 (s1.trans s2) r2⟩⟩
inductive qP (K:Og) (H:Hp) (O:Ex):List V->List VI->Prop
 | nil:qP K H O [] []
 | cons {v:V} {d:VI} {vs:List V} {ds:List VI}:Sh K H O v d->qP K H O vs ds->qP K H O (v::vs) (d::ds)
def iq(K:Og)(H0:Hp)(O0:Ex)(t:DA):TA:=λσ H R=>∃O δ Qd,Wd K H0 O0 H O σ δ/\t δ Qd/\∀ds vs H',Qd ds->aw H H'->qP K H' O vs ds->R vs H'
theorem bo:PA X [] (iq X.K H0 O0 gO):=ck.imp λσ H Q uu87=>by obtain⟨O,δ,Qd,w,q,k⟩:=uu87;exact k [] [] H q (aw.refl _) .nil
theorem bj{e:VT}{es:List VT}{t:DT}{u:DA}(h:DF X H0 O0 e t)(hs:PA X es (iq X.K H0 O0 u))(he:VQ (e::es) X.env=(false,eval e X.env)::VQ es X.env:=by rfl):PA X (e::es) (iq X.K H0 O0 (ik t u)):=
 (bF h hs he).imp λσ H Q uu88=>by obtain⟨O,δ,Qd,w,q,k⟩:=uu88;exact⟨O,δ,_,w,q,λd v H1 q1 s1 r1=>⟨O,δ,_,w.mono s1,q1,λds vs H2 q2 s2 r2=>k (d::ds) (v::vs) H2 q2 (s1.trans s2) (.cons (r1.mono s2) r2)⟩⟩
def j1(K:Og)(r:List V->Hp->VK->Prop)(rd:List VI->(VI->Prop)->Prop):Prop:=
 ∀(H:Hp)(O:Ex)(xs:List V)(ds:List VI)(Qd:VI->Prop)(R:VK),(∀l,O l->H l≠none)->qP K H O xs ds->rd ds Qd->(∀d v H',Qd d->aw H H'->Dt K H' O v d->R v H')->r xs H R
theorem bD{K:Og}{r:List V->Hp->VK->Prop}{rd:List VI->(VI->Prop)->Prop}{t:DA}(hd:j1 K r rd):∀σ H Q,up K H0 O0 (gP rd t) σ H Q->tU r (iq K H0 O0 t) σ H Q:=
 λσ H Q uu89=>by obtain⟨O,δ,Qd,w,q,k⟩:=uu89;exact⟨O,δ,_,w,q,λds vs H1 q1 s1 r1=>hd H1 O vs ds Qd _ (w.mono s1).trk r1 q1 λd v H2 q2 s2 r2=>k d v H2 q2 (s1.trans s2) r2⟩
def fP(t u:DS):DS:=λE δ=>t {E with nx:=u E} δ
theorem aq{st:VZ}{rest:List VZ}{t u:DS}(h:PS X st (bz X.K H0 O0 t))(h2:bX X rest (bz X.K H0 O0 u)):bX X (st::rest) (bz X.K H0 O0 (fP t u)):=
 (di h h2).imp λD σ H uu90=>by obtain⟨O,δ,E,w,q,k1,k2,k3,k4⟩:=uu90;exact⟨O,δ,_,w,q,λO' δ' σ' H' z w' S=>⟨O',δ',E,w',z,λO2 δ2 σ2 H2 z2 w2 S2=>k1 O2 δ2 σ2 H2 z2 w2 (S.trans S2),k2,λO2 δ2 σ2 H2 z2 w2 S2=>k3 O2 δ2 σ2 H2 z2 w2 (S.trans S2),λO2 δ2 σ2 H2 z2 w2 S2=>k4 O2 δ2 σ2 H2 z2 w2 (S.trans S2)⟩,k2,k3,k4⟩
def j2:DS:=λE δ=>E.nx δ
theorem bG:bX X [] (bz X.K H0 O0 j2):=qH.imp λD σ H uu91=>by obtain⟨O,δ,E,w,q,k1,k2,k3,k4⟩:=uu91;exact k1 O δ σ H q w (aS.refl _ _)
theorem aA{st:VZ}{t:DS}(h:PS X st (bz X.K H0 O0 t)):bX X [st] (bz X.K H0 O0 t):=eX h
def iW(i:Nat)(t:DT):DS:=λE δ=>t δ λd=>E.nx (δ.set i (some (.v d)))
theorem bt{i:Nat}{x:Str}{e:VT}{t:DT}{pos pos':Pos}(hN:X.N.Nodup)(hi:X.N[i]?=some x)(hx:gK X.env.scope x)(he:DE X H0 O0 e t)(hs:V5 e (some (.Name x pos')) pos.line X.env=pure false:=by rfl)(hf:X.fn x=true\/X.env.scope.names.lookup x=some .local:=by first | exact .inl rfl | exact .inr rfl | assumption):
 PS X (.Assign [.Name x pos'] e pos) (bz X.K H0 O0 (iW i t)):=
 (eJ hN hi hx he hs hf).imp λD σ H uu92=>by obtain⟨O,δ,E,w,q,k1,k2,k3,k4⟩:=uu92;exact⟨O,δ,_,w,q,λd v H1 q1 s1 r1=>k1 O _ _ H1 q1 ((w.mono s1).set r1) (.same s1)⟩
def lX(t:DT):DS:=λE δ=>t δ E.rt
theorem eO{K:Og}{H:Hp}{O:Ex}{σ:St}{δ:Dl}(w:Wd K H0 O0 H O σ δ):aS H H O O0:=⟨λ_ _ e _=>e,λb _ n z=>n (w.sub b z)⟩
theorem aT{e:VT}{t:DT}{pos:Pos}(he:DE X H0 O0 e t):PS X (.Return (some e) pos) (bz X.K H0 O0 (lX t)):=
 (fL he).imp λD σ H uu93=>by obtain⟨O,δ,E,w,q,k1,k2,k3,k4⟩:=uu93;exact⟨O,δ,_,w,q,λd v H1 q1 s1 r1=>k2 d v H1 q1 (w.same.trans s1) (r1.step (eO (w.mono s1)))⟩
def iX(i:Nat):DS:=λE δ=>∃ds,δ[i]?=some (some (.o ds))/\E.rt (.list ds)
theorem sN{e:VT}{i:Nat}{pos:Pos}(he:PE X e (dh i)):PS X (.Return (some e) pos) (bz X.K H0 O0 (iX i)):=
 (fL he).imp λD σ H uu94=>by
  obtain⟨O,δ,E,w,⟨ds,e,q⟩,k1,k2,k3,k4⟩:=uu94;obtain⟨l,vs,h,a,b,c,r⟩:=w.own e;exact⟨_,h,k2 _ _ H q w.same (.lst (.inl c) b (r.step (eO w)))⟩
def gQ(c:DB)(t u:DS):DS:=λE δ=>c δ λb=>if b=true then t E δ else u E δ
theorem bH{c:VT}{a b:List VZ}{tc:DB}{t u:DS}{pos:Pos}(hc:PT X c (b5 X.K H0 O0 tc))(ha:bX X a (bz X.K H0 O0 t))(hb:bX X b (bz X.K H0 O0 u)):PS X (.If c a b pos) (bz X.K H0 O0 (gQ tc t u)):=
 (qI hc ha hb).imp λD σ H uu95=>by obtain⟨O,δ,E,w,q,k1,k2,k3,k4⟩:=uu95;exact⟨O,δ,_,w,q,λc H1 q1 s1=>by
  have g:∀{t':DS},t' E δ->bz X.K H0 O0 t' D σ H1:=λz=>⟨O,δ,E,w.mono s1,z,λO2 δ2 σ2 H2 z2 w2 S2=>k1 O2 δ2 σ2 H2 z2 w2 (aS.trans (.same s1) S2),k2,λO2 δ2 σ2 H2 z2 w2 S2=>k3 O2 δ2 σ2 H2 z2 w2 (aS.trans (.same s1) S2),λO2 δ2 σ2 H2 z2 w2 S2=>k4 O2 δ2 σ2 H2 z2 w2 (aS.trans (.same s1) S2)⟩;cases c with
  | true=>exact g q1
  | false=>exact g q1⟩
def qQ(K:Og)(H0:Hp)(O0:Ex)(t:DA):TE:=λσ H R=>∃O δ Qd,Wd K H0 O0 H O σ δ/\t δ Qd/\∀ds vs p H',Qd ds->aw H H'->H' p=none->ak K H' O vs ds->R (.ref p) (ai H' p (.lst vs))
abbrev FE(X:Cx)(H0:Hp)(O0:Ex)(e:VT)(t:DA):Prop:=PE X e (qQ X.K H0 O0 t)
def dL(t:DA):DT:=λδ Q=>t δ λds=>Q (.list ds)
theorem fe{e:VT}{t:DA}(h:FE X H0 O0 e t):DE X H0 O0 e (dL t):=
 h.imp λσ H Q uu96=>by obtain⟨O,δ,Qd,w,q,k⟩:=uu96;exact⟨O,δ,_,w,q,λds vs p H1 q1 s1 hp r1=>k _ _ _ q1 (s1.trans (aw.new hp)) (.lst (.inl bA) (t8 w s1 hp) (r1.mono (aw.new hp)))⟩
def j3(t:DA):DA:=λδ Q=>t δ λds=>ds.length<=VV/\Q ds
theorem cn{es:List VT}{t:DA}{pos:Pos}(h:PA X es (gN X.K H0 O0 t)):FE X H0 O0 (.List es pos) (j3 t):=
 (Ga h).imp λσ H Q uu0=>by obtain⟨O,δ,Qd,w,q,k⟩:=uu0;exact⟨O,δ,_,w,q,λds vs H1 q1 s1 r1=>⟨by rw [r1.length];exact q1.1,λp hp=>k _ _ _ _ q1.2 s1 hp r1⟩⟩
def iY(i:Nat)(t:DA):DS:=λE δ=>t δ λds=>E.nx (δ.set i (some (.o ds)))
theorem iZ{i:Nat}{x:Str}{e:VT}{t:DA}{pos pos':Pos}(hN:X.N.Nodup)(hi:X.N[i]?=some x)(hx:gK X.env.scope x)(he:FE X H0 O0 e t)(hs:V5 e (some (.Name x pos')) pos.line X.env=pure false:=by rfl)(hf:X.fn x=true\/X.env.scope.names.lookup x=some .local:=by first | exact .inl rfl | exact .inr rfl | assumption):
 PS X (.Assign [.Name x pos'] e pos) (bz X.K H0 O0 (iY i t)):=
 (eJ hN hi hx he hs hf).imp λD σ H ⟨O,δ,E,w,q,k1,k2,k3,k4⟩=>⟨O,δ,_,w,q,λds vs p H1 q1 s1 hp r1=>k1 _ _ _ _ q1 ((w.mono s1).setO hp r1)
  ⟨λb o e _=>(s1.trans (aw.new hp)) b o e,λb e n z=>z.elim n λy=>by
   cases q:H b with
   | none=>exact e q
   | some o=>have:=s1 _ _ q;rw [y,hp] at this;cases this⟩⟩
def lY(i:Nat)(t:DT):DS:=λE δ=>∃ds,δ[i]?=some (some (.o ds))/\t δ λd=>ds.length < VV/\E.nx (δ.set i (some (.o (ds++[d]))))
theorem lZ{i:Nat}{o e:VT}{t:DT}{apos cpos pos:Pos}(ho:PE X o (dh i))(he:DE X H0 O0 e t)(hbase:Wh o "append" X.env (eval o X.env)=eval o X.env:=by rfl)
 (hfew:((V4 cpos (VQ [e] X.env)).all (λx=>!x.1) && (Wu cpos (Wj [] X.env)).all (λx=>x.1.isSome) && decide ([e].length+([]:List WA).length+(if ([]:List WA).isEmpty then 0 else 1) < 30))=true:=by rfl)
 (hline:(apos.endLine==cpos.line)=true:=by rfl)(hst:VQ [e] X.env=(false,eval e X.env)::VQ [] X.env:=by rfl)(hplain:(V4 cpos (VQ [] X.env)).any (·.1)=false:=by rfl)
 (hs:V5 (.Call (.Attribute o "append" apos) [e] [] cpos) none pos.line X.env=pure false:=by rfl):PS X (.Expr (.Call (.Attribute o "append" apos) [e] [] cpos) pos) (bz X.K H0 O0 (lY i t)):=
 (tG (vP SH PySem.F.slot_list_append PySem.F.type_list_append zW ho (bF he ck hst) hbase hfew hline hst hplain) hs).imp λD σ H uu2=>by
  obtain⟨O,δ,E,w,⟨ds,e,q⟩,k1,k2,k3,k4⟩:=uu2;obtain⟨l,vs,h,a,b,c,r⟩:=w.own e;refine⟨_,h,.inl ⟨rfl,_,bu.of c⟩,O,δ,_,w,q,λd v H1 q1 s1 r1=>?_⟩;refine⟨l,vs,v,rfl,rfl,s1 _ _ c,by rw [r.length];exact q1.1,?_⟩;exact k1 _ _ _ _ q1.2 ((w.mono s1).putO (vs:=vs) e h ((r.mono s1).append (.cons r1 .nil))) ⟨λb' o' z n=>by rw [aC (λy=>n (by rw [y];exact a))];exact s1 _ _ z,λ_ _ n=>n⟩
end
structure dn (J:It) (P:Hp->Prop) (vs:List V):Prop where
 go:∀i H',P H'->i < vs.length->J.go i H'
 yl:∀i H' x H'',P H'->i < vs.length->J.yld i H' x H''->H''=H'/\vs[i]?=some x
 st:∀i H',P H'->vs.length<=i->J.stop i H'
def qR(H1:Hp)(a:VM)(H':Hp):Prop:=∀o,H1 a=some o->H' a=some o
theorem bu.keep{K:Og}{H H':Hp}{a:VM}{xs:List V}(s:qR H a H')(h:bu K H a xs):bu K H' a xs:=by
 rcases h with(h | ⟨o,h⟩) | h
 ·exact .inl (.inl (s _ h))
 ·exact .inl (.inr ⟨o,s _ h⟩)
 ·exact .inr h
theorem bC.keep{K:Og}{H H':Hp}{a:VM}{xs:List V}(s:qR H a H')(h:bC K H a xs):bC K H' a xs:=by
 rcases h with(h | ⟨o,h⟩) | h
 ·exact .inl (.inl (s _ h))
 ·exact .inl (.inr ⟨o,s _ h⟩)
 ·exact .inr h
theorem dn.list{K:Og}{H:Hp}{a:VM}{vs:List V}(h:bu K H a vs):dn (qJ K a) (qR H a) vs:=
 ⟨λi H' s hi=>⟨vs,vs[i],h.keep s,by simp [hi]⟩,λi H' x H'' s _ y=>⟨y.1,y.2 vs (h.keep s)⟩,λi H' s hi=>⟨vs,h.keep s,hi⟩⟩
theorem dn.tup{K:Og}{H:Hp}{a:VM}{vs:List V}(h:bC K H a vs):dn (sr K a) (qR H a) vs:=
 ⟨λi H' s hi=>⟨vs,vs[i],h.keep s,by simp [hi]⟩,λi H' x H'' s _ y=>⟨y.1,y.2 vs (h.keep s)⟩,λi H' s hi=>⟨vs,h.keep s,hi⟩⟩
def oK(lo:Int)(n:Nat):List VI:=(P7 n).map λ(k:Nat)=>.int (lo+k)
theorem dn.rng{lo:Int}{n:Nat}:dn (iR lo n) (λ_=>True) ((P7 n).map λ(k:Nat)=>V.int (lo+k)):=by
 refine⟨λi H' s hi=>(by simpa using hi:i < n),λi H' x H'' s hi y=>⟨y.1,?_⟩,λi H' s hi=>(by simpa using hi:n<=i)⟩;obtain⟨_,rfl⟩:=y;have hn:i < n:=by simpa using hi
 simp [hn]
theorem ak.rng{K:Og}{H:Hp}{O:Ex}{lo:Int}:∀(l:List Nat),ak K H O (l.map λ(k:Nat)=>V.int (lo+k)) (l.map λ(k:Nat)=>OJ (lo+k))
 | []=>.nil
 | n::r=>.cons (.int _) (ak.rng r)
abbrev DG:=VI->Dl->(Dl->Prop)->Prop
def GD(K:Og)(g:TG)(dg:DG):Prop:=∀(H0:Hp)(O0:Ex)(H:Hp)(O:Ex)(σ:St)(δ:Dl)(v:V)(x:VI)(R:St->Hp->Prop)(Qd:Dl->Prop),Wd K H0 O0 H O σ δ->Dt K H O v x->dg x δ Qd->(∀δ' σ',Qd δ'->Wd K H0 O0 H O σ' δ'->R σ' H)->g v σ H R
def i3(i:Nat):DG:=λx δ Q=>Q (δ.set i (some (.v x)))
theorem aN{K:Og}{i:Nat}:GD K (iQ i) (i3 i):=λH0 O0 H O σ δ v x R Qd w r q k=>k _ _ q (w.set r)
abbrev oM:=List VI->Dl->(Dl->Prop)->Prop
def ub(K:Og)(g:iP)(dg:oM):Prop:=∀(H0:Hp)(O0:Ex)(H:Hp)(O:Ex)(σ:St)(δ:Dl)(vs:List V)(xs:List VI)(R:St->Hp->Prop)(Qd:Dl->Prop),Wd K H0 O0 H O σ δ->ak K H O vs xs->dg xs δ Qd->(∀δ' σ',Qd δ'->Wd K H0 O0 H O σ' δ'->R σ' H)->g vs σ H R
def md:oM:=λxs δ Q=>xs=[]/\Q δ
def me(t:DG)(u:oM):oM:=λxs δ Q=>∃x r,xs=x::r/\t x δ λδ'=>u r δ' Q
theorem gA{K:Og}:ub K tI md:=λH0 O0 H O σ δ vs xs R Qd w r uu3 k=>by obtain⟨e,q⟩:=uu3;subst e;cases r;exact⟨rfl,k _ _ q w⟩
theorem b7{K:Og}{t:TG}{u:iP}{dt:DG}{du:oM}(h:GD K t dt)(h2:ub K u du):ub K (sh t u) (me dt du):=λH0 O0 H O σ δ vs xs R Qd w r uu4 k=>by
 obtain⟨x,rr,e,q⟩:=uu4;subst e;cases r with
 | cons r1 r2=>exact⟨_,_,rfl,h H0 O0 H O σ δ _ _ _ _ w r1 q λδ' σ' q' w'=>h2 H0 O0 H O σ' δ' _ _ R Qd w' r2 q' k⟩
def mf(n:Nat)(t:oM):DG:=λx δ Q=>∃xs,x= .tuple xs/\xs.length=n/\t xs δ Q
theorem gB{K:Og}{n:Nat}{t:iP}{dt:oM}(h:ub K t dt):GD K (tJ K n t) (mf n dt):=λH0 O0 H O σ δ v x R Qd w r uu5 k=>by
 obtain⟨xs,e,hl,q⟩:=uu5;subst e;obtain⟨a,vs,rfl,hs,rr⟩:=(Sh.dt r).tup;exact⟨a,vs,rfl,hs,by rw [rr.length];exact hl,h H0 O0 H O σ δ _ _ R Qd w rr q k⟩
section
variable {X:Cx} {H0:Hp} {O0:Ex}
def mh(t:DT)(g:DG):DS:=λE δ=>t δ λd=>g d δ E.nx
theorem Ai{tg e:VT}{t:DT}{g:TG}{dg:DG}{pos:Pos}(he:DE X H0 O0 e t)(hg:PG X tg g)(gd:GD X.K g dg)(hs:swapsWithSole [tg] e pos.line X.env=pure false:=by rfl)(hw:swappedStores [tg] e X.env=pure none:=by rfl)
 (h1:(WS [tg] X.env).map (·.2)=[assign tg X.env]:=by rfl):PS X (.Assign [tg] e pos) (bz X.K H0 O0 (mh t dg)):=
 (Fo he hg hs hw h1).imp λD σ H uu6=>by obtain⟨O,δ,E,w,q,k1,k2,k3,k4⟩:=uu6;exact⟨O,δ,_,w,q,λd v H1 q1 s1 r1=>gd H0 O0 H1 O σ δ v d _ _ (w.mono s1) r1 q1 λδ' σ' q' w'=>k1 O δ' σ' H1 q' w' (.same s1)⟩
def gS(g:DG)(tb:DS)(E:d4):List VI->Dl->Prop
 | [],δ=>E.nx δ
 | x::xs,δ=>g x δ λδ2=>tb {E with nx:=gS g tb E xs,ct:=gS g tb E xs,bk:=E.nx} δ2
theorem N9{K:Og}{J:It}{P:Hp->Prop}{vs:List V}{xs:List VI}{g:TG}{dg:DG}{tb:DS}{D:jT}{E:d4}{σ:St}{H:Hp}{O:Ex}{δ:Dl}(S:dn J P vs)(gd:GD K g dg)
 (hP:∀H' O',aS H H' O O'->P H')(r:ak K H O vs xs)(w:Wd K H0 O0 H O σ δ)(q:gS dg tb E xs δ)
 (k1:∀O' δ' σ' H',E.nx δ'->Wd K H0 O0 H' O' σ' δ'->aS H H' O O'->D.nx σ' H')(k2:∀d v H',E.rt d->aw H0 H'->Dt K H' O0 v d->D.rt v H'):FR J g (bz K H0 O0 tb) D σ H:=by
 refine⟨λi m σ' H'=>∃O' δ',m=vs.length - i/\i<=vs.length/\Wd K H0 O0 H' O' σ' δ'/\aS H H' O O'/\gS dg tb E (xs.drop i) δ',⟨vs.length,O,δ,VH,Pc _,w,aS.refl _ _,by simpa using q⟩,?_⟩;rintro i m σ1 H1 ⟨O1,δ1,rfl,hi,w1,S1,q1⟩;by_cases hlt:i < vs.length
 ·refine .inr ⟨S.go i H1 (hP _ _ S1) hlt,λσ' H'=>∃O' δ',Wd K H0 O0 H' O' σ' δ'/\aS H H' O O'/\gS dg tb E (xs.drop (i+1)) δ',λσ' H' uu7=>by obtain⟨O',δ',w',S',q'⟩:=uu7;exact⟨vs.length - (i+1),VD,O',δ',rfl,hlt,w',S',q'⟩,λx H' y=>?_⟩;have yy:=S.yl i H1 x H' (hP _ _ S1) hlt y;clear y;obtain⟨e,y⟩:=yy;subst e;obtain⟨d,ed,rd⟩:=r.get y;have hd:xs.drop i=d::xs.drop (i+1):=by
   rw [So (h:=(OB.mp ed).1),(OB.mp ed).2]
  rw [hd] at q1;refine gd H0 O0 _ O1 σ1 δ1 x d _ _ w1 (rd.step S1) q1 λδ2 σ2 q2 w2=>?_;refine⟨O1,δ2,_,w2,q2,λO' δ' σ' H' z w' S'=>⟨O',δ',w',S1.trans S',z⟩,k2,λO' δ' σ' H' z w' S'=>k1 O' δ' σ' H' z w' (S1.trans S'),λO' δ' σ' H' z w' S'=>⟨O',δ',w',S1.trans S',z⟩⟩
 ·have e:i=vs.length:=VD
  subst e;refine .inl ⟨S.st _ H1 (hP _ _ S1) (Oi _),?_⟩;rw [r.length,T4 (Oi _)] at q1;exact k1 O1 δ1 σ1 H1 q1 w1 S1
def iu(g:DG)(tb:DS)(E:d4)(xs:List VI)(δ:Dl):Prop:=∃I:Nat->Dl->Prop,I 0 δ/\(∀i x δ,xs[i]?=some x->I i δ->g x δ λδ2=>tb {E with nx:=I (i+1),ct:=I (i+1),bk:=E.nx} δ2)/\∀δ,I xs.length δ->E.nx δ
theorem uc{K:Og}{J:It}{P:Hp->Prop}{vs:List V}{xs:List VI}{g:TG}{dg:DG}{tb:DS}{D:jT}{E:d4}{σ:St}{H:Hp}{O:Ex}{δ:Dl}(S:dn J P vs)(gd:GD K g dg)
 (hP:∀H' O',aS H H' O O'->P H')(r:ak K H O vs xs)(w:Wd K H0 O0 H O σ δ)(q:iu dg tb E xs δ)
 (k1:∀O' δ' σ' H',E.nx δ'->Wd K H0 O0 H' O' σ' δ'->aS H H' O O'->D.nx σ' H')(k2:∀d v H',E.rt d->aw H0 H'->Dt K H' O0 v d->D.rt v H'):FR J g (bz K H0 O0 tb) D σ H:=by
 obtain⟨Iv,q0,qs,qe⟩:=q;refine⟨λi m σ' H'=>∃O' δ',m=vs.length - i/\i<=vs.length/\Wd K H0 O0 H' O' σ' δ'/\aS H H' O O'/\Iv i δ',⟨vs.length,O,δ,VH,Pc _,w,aS.refl _ _,q0⟩,?_⟩;rintro i m σ1 H1 ⟨O1,δ1,rfl,hi,w1,S1,q1⟩;by_cases hlt:i < vs.length
 ·refine .inr ⟨S.go i H1 (hP _ _ S1) hlt,λσ' H'=>∃O' δ',Wd K H0 O0 H' O' σ' δ'/\aS H H' O O'/\Iv (i+1) δ',λσ' H' uu8=>by obtain⟨O',δ',w',S',q'⟩:=uu8;exact⟨vs.length - (i+1),VD,O',δ',rfl,hlt,w',S',q'⟩,λx H' y=>?_⟩;have yy:=S.yl i H1 x H' (hP _ _ S1) hlt y;clear y;obtain⟨e,y⟩:=yy;subst e;obtain⟨d,ed,rd⟩:=r.get y;refine gd H0 O0 _ O1 σ1 δ1 x d _ _ w1 (rd.step S1) (qs i d δ1 ed q1) λδ2 σ2 q2 w2=>?_;refine⟨O1,δ2,_,w2,q2,λO' δ' σ' H' z w' S'=>⟨O',δ',w',S1.trans S',z⟩,k2,λO' δ' σ' H' z w' S'=>k1 O' δ' σ' H' z w' (S1.trans S'),λO' δ' σ' H' z w' S'=>⟨O',δ',w',S1.trans S',z⟩⟩
 ·have e:i=vs.length:=VD
  subst e;refine .inl ⟨S.st _ H1 (hP _ _ S1) (Oi _),?_⟩;rw [r.length] at q1;exact k1 O1 δ1 σ1 H1 (qe δ1 q1) w1 S1
def mi(t:DT)(g:DG)(tb:DS):DS:=λE δ=>t δ λd=>∃xs,d= .list xs/\iu g tb E xs δ
def mj(t:DT)(g:DG)(tb:DS):DS:=λE δ=>t δ λd=>∃xs,d= .tuple xs/\iu g tb E xs δ
def mq(t:DA)(g:DG)(tb:DS):DS:=λE δ=>t δ λds=>∃j:Int,ds=[.int j]/\-(2 ^ 62)<=j/\j < 2 ^ 62/\iu g tb E (oK 0 j.toNat) δ
section
variable {tg iter:VT} {body:List VZ} {t:DT} {ta:DA} {g:TG} {dg:DG} {tb:DS} {pos p ps:Pos}
theorem mr(hp:WO (VS X.prog X.w) X.A X.env X.xe)(hc:X.calm=true)(hi:DE X H0 O0 iter t)(hg:PG X tg g)(gd:GD X.K g dg)(hb:bX X body (bz X.K H0 O0 tb))(hs:∀x,V2 iter X.env x=pure x:=by intro _;rfl):
 PS X (.For tg iter body [] pos) (bz X.K H0 O0 (mi t dg tb)):=
 (sC hp hc (tK hi) hg hb hs).imp λD σ H uu9=>by obtain⟨O,δ,E,w,q,k1,k2,k3,k4⟩:=uu9;exact⟨O,δ,_,w,q,λd v H1 uu10 s1 r1=>by
  obtain⟨xs,e,q1⟩:=uu10;subst e;cases r1 with
  | lst h n r=>
   refine⟨_,rfl,⟨_,.inl h⟩,uc (dn.list (.inl h)) gd (λH' O' S o e=>S.keep _ _ e n) r (w.mono s1) q1 (λO' δ' σ' H' z w' S=>k1 O' δ' σ' H' z w' (aS.trans (.same s1) S)) k2⟩⟩
theorem mw(hp:WO (VS X.prog X.w) X.A X.env X.xe)(hc:X.calm=true)(hi:DE X H0 O0 iter t)(hg:PG X tg g)(gd:GD X.K g dg)(hb:bX X body (bz X.K H0 O0 tb))(hs:∀x,V2 iter X.env x=pure x:=by intro _;rfl):
 PS X (.For tg iter body [] pos) (bz X.K H0 O0 (mj t dg tb)):=
 (sC hp hc (vz hi) hg hb hs).imp λD σ H uu11=>by obtain⟨O,δ,E,w,q,k1,k2,k3,k4⟩:=uu11;exact⟨O,δ,_,w,q,λd v H1 uu12 s1 r1=>by
  obtain⟨xs,e,q1⟩:=uu12;subst e;cases r1 with
  | tup h n r=>
   refine⟨_,rfl,⟨_,.inl h⟩,uc (dn.tup (.inl h)) gd (λH' O' S o e=>S.keep _ _ e n) r (w.mono s1) q1 (λO' δ' σ' H' z w' S=>k1 O' δ' σ' H' z w' (aS.trans (.same s1) S)) k2⟩
  | tupK h r=>
   refine⟨_,rfl,⟨_,h.of0⟩,uc (P:=λ_=>True) ⟨λi H' _ hi=>⟨_,_,h.of0,by simp [hi];rfl⟩,λi H' x H'' _ _ y=>⟨y.1,y.2 _ h.of0⟩,λi H' _ hi=>⟨_,h.of0,hi⟩⟩ gd (λ_ _ _=>trivial) r (w.mono s1) q1 (λO' δ' σ' H' z w' S=>k1 O' δ' σ' H' z w' (aS.trans (.same s1) S)) k2⟩⟩
theorem Hq(hp:WO (VS X.prog X.w) X.A X.env X.xe)(hc:X.calm=true){a:VT}(hgl:Gl X "range")(hm:X.mg "range"=none)(ha:PA X [a] (gN X.K H0 O0 ta))(hg:PG X tg g)(gd:GD X.K g dg)(hb:bX X body (bz X.K H0 O0 tb))
 (hst:VQ [a] X.env=[(false,eval a X.env)]:=by rfl)(hs:∀x,V2 (.Call (.Name "range" p) [a] [] ps) X.env x=pure x:=by intro _;rfl):
 PS X (.For tg (.Call (.Name "range" p) [a] [] ps) body [] pos) (bz X.K H0 O0 (mq ta dg tb)):=
 (sC hp hc (vC hgl hm ha hst) hg hb hs).imp λD σ H uu13=>by obtain⟨O,δ,E,w,q,k1,k2,k3,k4⟩:=uu13;exact⟨O,δ,_,w,q,λds vs H1 uu14 s1 r1=>by
  obtain⟨j,e,b1,b2,q1⟩:=uu14;subst e;cases r1 with
  | cons r1 r2=>
   cases r2;cases r1;exact⟨j,rfl,b1,b2,uc dn.rng gd (λ_ _ _=>trivial) (ak.rng _) (w.mono s1) q1 (λO' δ' σ' H' z w' S=>k1 O' δ' σ' H' z w' (aS.trans (.same s1) S)) k2⟩⟩
end
theorem Wd.letbe{K:Og}{H:Hp}{O:Ex}{σ:St}{δ:Dl}(w:Wd K H0 O0 H O σ δ){i:Nat}{l:VM}{y0:Sl}{d:VI}(e:δ[i]?=some (some y0))(ho:y0.own)(h:σ[i]?=some (some (.ref l)))(hd:∀O',aS H H O O'->¬O' l->Dt K H O' (.ref l) d):
 ∃O',Wd K H0 O0 H O' σ (δ.set i (some (.v d)))/\aS H H O O':=by
 obtain⟨l',x1,a,b⟩:=w.adr e ho;rw [h] at x1;cases x1;have S:aS H H O (λx=>O x/\x≠l):=⟨λ_ _ z _=>z,λ_ _ n z=>n z.1⟩;have li:i < δ.length:=(OB.mp e).1;have ne:∀{j:Nat}{y:Sl},(δ.set i (some (.v d)))[j]?=some (some y)->y.own->j≠i:=λ{j y} q hy z=>by
  subst z;rw [OU li] at q;cases q;exact hy
 refine⟨_,⟨w.same,λx z=>⟨w.sub x z,λy=>b (by rw [<-y];exact z)⟩,λx z=>w.new x z.1,λx z=>w.trk x z.1,by simp [w.len],λj y q=>?_,λj k y z l' e1 y1 e2 z2 e3 e4=>?_⟩,S⟩
 ·by_cases hj:j=i
  ·subst hj;rw [OU li] at q;cases q;exact⟨.ref l,by rw [h];rfl,hd _ S (λz=>z.2 rfl)⟩
  ·rw [OF (Ne.symm hj)] at q;refine(w.sl j y q).go S (λb o ho' e' a1 a2 a3=>⟨⟨a1,λz=>?_⟩,a3⟩) (λb o u a1 a2 a3=>⟨⟨a1,λz=>w.nofrz e ho h o u (by rw [<-z];exact a3)⟩,a3⟩) λb o a1 a3=>a3;subst z
   match y,ho',q with
   | some z,ho',q=>exact hj (w.dis j i z y0 _ q (by cases z <;> first | trivial | cases ho') e ho (fB e') h)
 ·have n1:=ne e1 y1;have n2:=ne e2 z2;rw [OF (Ne.symm n1)] at e1;rw [OF (Ne.symm n2)] at e2;exact w.dis j k _ _ l' e1 y1 e2 z2 e3 e4
theorem Wd.freeze{K:Og}{H:Hp}{O:Ex}{σ:St}{δ:Dl}(w:Wd K H0 O0 H O σ δ){i:Nat}{ds:List VI}(e:δ[i]?=some (some (.o ds))):∃O',Wd K H0 O0 H O' σ (δ.set i (some (.v (.list ds))))/\aS H H O O':=by
 obtain⟨l,vs,h,a,b,c,r⟩:=w.own e;exact w.letbe (y0:= .o ds) e trivial h λO' S n=>.lst (.inl c) n (r.step S)
def j4(i:Nat)(t:DS):DS:=λE δ=>∃ds,δ[i]?=some (some (.o ds))/\t E (δ.set i (some (.v (.list ds))))
theorem Hr(i:Nat){st:VZ}{t:DS}(h:PS X st (bz X.K H0 O0 t)):PS X st (bz X.K H0 O0 (j4 i t)):=
 h.imp λD σ H uu15=>by
  obtain⟨O,δ,E,w,⟨ds,e,q⟩,k1,k2,k3,k4⟩:=uu15;obtain⟨O',w',S⟩:=w.freeze e;exact⟨O',_,E,w',q,λO2 δ2 σ2 H2 z2 w2 S2=>k1 O2 δ2 σ2 H2 z2 w2 (S.trans S2),k2,λO2 δ2 σ2 H2 z2 w2 S2=>k3 O2 δ2 σ2 H2 z2 w2 (S.trans S2),λO2 δ2 σ2 H2 z2 w2 S2=>k4 O2 δ2 σ2 H2 z2 w2 (S.trans S2)⟩
def dS(k:Nat)(fr:List Nat)(δ:Dl):Dl:=OL k none++fr.map λj=>(δ[j]?).join
def ue(g:DG)(tc:DB)(te:DT)(δ0:Dl):List VI->List VI->(List VI->Prop)->Prop
 | [],acc,Q=>Q acc
 | x::xs,acc,Q=>g x δ0 λδ2=>tc δ2 λok=>if ok=true then te δ2 λy=>ue g tc te δ0 xs (acc++[y]) Q else ue g tc te δ0 xs acc Q
theorem Wd.comp{K:Og}{H:Hp}{O:Ex}{σ:St}{δ:Dl}(w:Wd K H0 O0 H O σ δ){k:Nat}{fr:List Nat}(hf:fr.Nodup):Wd K H0 O0 H O (bI k fr σ) (dS k fr δ):=by
 have at1:∀{α:Type}(l:List (Option α))(i:Nat),(OL k none++fr.map λj=>(l[j]?).join)[i]?=if i < k then some none else(fr[i - k]?).map λj=>(l[j]?).join:=by
  intro α l i;by_cases h:i < k
  ·rw [VF h,PH (by simpa using h),Q4,VF h]
  ·rw [VE h,Qf (by simpa using QN h),OD];simp
 have un:∀{α:Type}(l:List (Option α))(i:Nat)(x:α),(OL k none++fr.map λj=>(l[j]?).join)[i]?=some (some x)->∃j,fr[i - k]?=some j/\k<=i/\l[j]?=some (some x):=by
  intro α l i x h;rw [at1] at h;split at h
  ·cases h
  ·cases e:fr[i - k]? with
   | none=>rw [e] at h;cases h
   | some j=>
    rw [e] at h;refine⟨j,rfl,VD,?_⟩;have h':(l[j]?).join=some x:=Ph h;cases q:l[j]? with
    | none=>rw [q] at h';cases h'
    | some o=>rw [q] at h';rw [show o=some x from h']
 refine⟨w.same,w.sub,w.new,w.trk,by simp [bI,dS],λi y e=>?_,λi j y z l e1 y1 e2 z2 e3 e4=>?_⟩
 ·match y,e with
  | none,_=>exact Qi
  | some x,e=>
   obtain⟨j,hj,hk,ej⟩:=un δ i x e;have q:=w.sl j _ ej;have e2:((bI k fr σ)[i]?).join=(σ[j]?).join:=by
    unfold bI;rw [at1,VE VD,hj];rfl
   rw [e2];exact q
 ·obtain⟨a,ha,ka,ea⟩:=un δ i _ e1;obtain⟨b,hb,kb,eb⟩:=un δ j _ e2;obtain⟨a',ha',_,ea'⟩:=un σ i _ e3;obtain⟨b',hb',_,eb'⟩:=un σ j _ e4;rw [ha] at ha';cases ha';rw [hb] at hb';cases hb';have:=w.dis a b y z l ea y1 eb z2 ea' eb';subst this;have e5:=(List.getElem?_inj (l:=fr) (i:=i - k) (j:=j - k) (OB.mp ha).1 hf).mp (by rw [ha,hb]);omega
theorem Oa{K:Og}{J:It}{P:Hp->Prop}{vs:List V}{xs:List VI}{g:TG}{dg:DG}{tc:TT}{dc:DB}{te:TE}{de:DT}{k:Nat}{fr:List Nat}{σ:St}{H:Hp}{O:Ex}{δ:Dl}{Qd:List VI->Prop}{Q:VK}(S:dn J P vs)(gd:GD K g dg)(hf:fr.Nodup)
 (hk:∀v:V,∀σ':St,∀H':Hp,∀R:St->Hp->Prop,g v (bI k fr σ) H' R->g v (bI k fr σ) H' λσ2 H2=>oF (bI k fr σ) σ2/\R σ2 H2)
 (hc:∀σ H Q,b5 K H0 O0 dc σ H Q->tc σ H Q)(he:∀σ H Q,up K H0 O0 de σ H Q->te σ H Q)
 (hP:∀D H',H D=none->qM D H H'->P H')(r:ak K H O vs xs)(w:Wd K H0 O0 H O σ δ)(hz:vs.length<=VV)(q:ue dg dc de (dS k fr δ) xs [] Qd)
 (k1:∀ds us p H',Qd ds->aw H H'->H' p=none->ak K H' O us ds->Q (.ref p) (ai H' p (.lst us))):oG J g tc te k fr σ H Q:=by
 intro D hD;have w0:Wd K H0 O0 H O (bI k fr σ) (dS k fr δ):=w.comp hf;have nD:¬O D:=λz=>w.trk D z hD;have D0:H0 D=none:=by
  cases e:H0 D with
  | none=>rfl
  | some o=>rw [w.same _ _ e] at hD;cases hD
 have ex:∀H',qM D H H'->H' D≠none->Wd K H0 O0 H' (λa=>O a\/a=D) (bI k fr σ) (dS k fr δ):=λH' s' hd=>by
  have S':aS H H' O (λa=>O a\/a=D):=⟨λb o e _=>s' b o e (eG e hD),λb hb hn z=>z.elim hn λq=>hb (by rw [q];exact hD)⟩;refine⟨λb o e=>s' b o (w.same b o e) (λz=>by rw [z,D0] at e;cases e),λl z=>.inl (w.sub l z),λl z=>z.elim (w.new l) λq=>.inr (by rw [q];exact D0),λl z=>?_,w0.len,λj y e=>?_,w0.dis⟩
  ·by_cases ql:l=D
   ·rw [ql];exact hd
   ·have hl:=w.trk l (z.resolve_right ql);cases e:H l with
    | none=>exact absurd e hl
    | some o=>rw [s' l o e ql];exact λz=>nomatch z
  ·exact(w0.sl j y e).go S' (λl o _ _ a1 _ a3=>⟨.inl a1,s' _ _ a3 (λz=>nD (by rw [<-z];exact a1))⟩) (λa o u a1 _ a3=>⟨.inl a1,s' _ _ a3 (λz=>nD (by rw [<-z];exact a1))⟩) λa o a1 a3=>s' _ _ a3 (λz=>nD (by rw [<-z];exact w.sub _ a1))
 refine⟨λi m H'=>∃acc ys,m=vs.length - i/\i<=vs.length/\qM D H H'/\H' D=some (.lst ys)/\ys.length<=i/\ak K H' (λa=>O a\/a=D) ys acc/\ue dg dc de (dS k fr δ) (xs.drop i) acc Qd,⟨vs.length,[],[],VH,Pc _,λb o e n=>by rw [aC n];exact e,bA,Pc _,.nil,by simpa using q⟩,?_⟩;rintro i m H1 ⟨acc,ys,rfl,hi,s1,e1,hy,ra,q1⟩;by_cases hlt:i < vs.length
 ·refine .inr ⟨S.go i H1 (hP D H1 hD s1) hlt,λx H' y=>?_⟩;have yy:=S.yl i H1 x H' (hP D H1 hD s1) hlt y;clear y;obtain⟨e,y⟩:=yy;subst e;obtain⟨d,ed,rd⟩:=r.get y;have hd:xs.drop i=d::xs.drop (i+1):=by
   rw [So (h:=(OB.mp ed).1),(OB.mp ed).2]
  rw [hd] at q1;have w1:=ex _ s1 (by rw [e1];exact λz=>nomatch z);have S':aS H H' O (λa=>O a\/a=D):=⟨λb o e _=>s1 b o e (eG e hD),λb hb hn z=>z.elim hn λq=>hb (by rw [q];exact hD)⟩;refine hk x σ _ _ (gd H0 O0 _ _ _ _ x d _ _ w1 (rd.step S') q1 λδ2 σ2 q2 w2=>?_);refine hc σ2 _ _ ⟨_,δ2,_,w2,q2,λok H3 q3 s3=>?_⟩;cases ok with
  | true=>
   rw [VF rfl];refine he σ2 H3 _ ⟨_,δ2,_,w2.mono s3,q3,λd' v H4 q4 s4 r4=>?_⟩;have e4:=s4 _ _ (s3 _ _ e1);have sD:aS H4 (ai H4 D (.lst (ys++[v]))) (λa=>O a\/a=D) (λa=>O a\/a=D):=⟨λb o e n=>by rw [aC (λz=>n (.inr z))];exact e,λ_ _ n=>n⟩;refine⟨ys,e4,VD,vs.length - (i+1),VD,acc++[d'],ys++[v],rfl,hlt,λb o e n=>by rw [aC n];exact s4 _ _ (s3 _ _ (s1 b o e n)),bA,by simpa using hy,?_,q4⟩;exact((ra.mono (s3.trans s4)).append (.cons r4 .nil)).step sD
  | false=>
   rw [VE VC];exact⟨vs.length - (i+1),VD,acc,ys,rfl,hlt,λb o e n=>s3 _ _ (s1 b o e n),s3 _ _ e1,VD,ra.mono s3,q3⟩
 ·have e:i=vs.length:=VD
  subst e;refine .inl ⟨S.st _ H1 (hP D H1 hD s1) (Oi _),?_⟩;rw [r.length,T4 (Oi _)] at q1;have hrest:∃H2:Hp,H2 D=none/\aw H H2/\H1=ai H2 D (.lst ys):=by
   refine⟨λb=>if b=D then none else H1 b,VH,λb o e=>?_,?_⟩
   ·have n:=eG e hD;show(if b=D then none else H1 b)=some o;rw [VE n];exact s1 b o e n
   ·funext b;by_cases z:b=D
    ·rw [z,bA];exact e1
    ·rw [aC z];show H1 b=if b=D then none else H1 b;rw [VE z]
  obtain⟨H2,h2,s2,rfl⟩:=hrest;refine k1 acc ys D H2 q1 s2 h2 (ra.step ⟨λb o e n=>?_,λb _ n z=>n (.inl z)⟩);rw [aC (λz=>n (.inr z))] at e;exact e
def iw(g:DG)(tc:DB)(te:DT)(δ0:Dl)(xs:List VI)(Q:List VI->Prop):Prop:=∃I:Nat->List VI->Prop,I 0 []/\(∀i x acc,xs[i]?=some x->I i acc->g x δ0 λδ2=>tc δ2 λok=>if ok=true then te δ2 λy=>I (i+1) (acc++[y]) else I (i+1) acc)/\∀acc,I xs.length acc->Q acc
theorem qS{K:Og}{J:It}{P:Hp->Prop}{vs:List V}{xs:List VI}{g:TG}{dg:DG}{tc:TT}{dc:DB}{te:TE}{de:DT}{k:Nat}{fr:List Nat}{σ:St}{H:Hp}{O:Ex}{δ:Dl}{Qd:List VI->Prop}{Q:VK}(S:dn J P vs)(gd:GD K g dg)(hf:fr.Nodup)
 (hk:∀v:V,∀σ':St,∀H':Hp,∀R:St->Hp->Prop,g v (bI k fr σ) H' R->g v (bI k fr σ) H' λσ2 H2=>oF (bI k fr σ) σ2/\R σ2 H2)
 (hc:∀σ H Q,b5 K H0 O0 dc σ H Q->tc σ H Q)(he:∀σ H Q,up K H0 O0 de σ H Q->te σ H Q)
 (hP:∀D H',H D=none->qM D H H'->P H')(r:ak K H O vs xs)(w:Wd K H0 O0 H O σ δ)(hz:vs.length<=VV)(q:iw dg dc de (dS k fr δ) xs Qd)
 (k1:∀ds us p H',Qd ds->aw H H'->H' p=none->ak K H' O us ds->Q (.ref p) (ai H' p (.lst us))):oG J g tc te k fr σ H Q:=by
 obtain⟨Iv,q0,qs,qe⟩:=q;intro D hD;have w0:Wd K H0 O0 H O (bI k fr σ) (dS k fr δ):=w.comp hf;have nD:¬O D:=λz=>w.trk D z hD;have D0:H0 D=none:=by
  cases e:H0 D with
  | none=>rfl
  | some o=>rw [w.same _ _ e] at hD;cases hD
 have ex:∀H',qM D H H'->H' D≠none->Wd K H0 O0 H' (λa=>O a\/a=D) (bI k fr σ) (dS k fr δ):=λH' s' hd=>by
  have S':aS H H' O (λa=>O a\/a=D):=⟨λb o e _=>s' b o e (eG e hD),λb hb hn z=>z.elim hn λq=>hb (by rw [q];exact hD)⟩;refine⟨λb o e=>s' b o (w.same b o e) (λz=>by rw [z,D0] at e;cases e),λl z=>.inl (w.sub l z),λl z=>z.elim (w.new l) λq=>.inr (by rw [q];exact D0),λl z=>?_,w0.len,λj y e=>?_,w0.dis⟩
  ·by_cases ql:l=D
   ·rw [ql];exact hd
   ·have hl:=w.trk l (z.resolve_right ql);cases e:H l with
    | none=>exact absurd e hl
    | some o=>rw [s' l o e ql];exact λz=>nomatch z
  ·exact(w0.sl j y e).go S' (λl o _ _ a1 _ a3=>⟨.inl a1,s' _ _ a3 (λz=>nD (by rw [<-z];exact a1))⟩) (λa o u a1 _ a3=>⟨.inl a1,s' _ _ a3 (λz=>nD (by rw [<-z];exact a1))⟩) λa o a1 a3=>s' _ _ a3 (λz=>nD (by rw [<-z];exact w.sub _ a1))
 refine⟨λi m H'=>∃acc ys,m=vs.length - i/\i<=vs.length/\qM D H H'/\H' D=some (.lst ys)/\ys.length<=i/\ak K H' (λa=>O a\/a=D) ys acc/\Iv i acc,⟨vs.length,[],[],VH,Pc _,λb o e n=>by rw [aC n];exact e,bA,Pc _,.nil,q0⟩,?_⟩;rintro i m H1 ⟨acc,ys,rfl,hi,s1,e1,hy,ra,q1⟩;by_cases hlt:i < vs.length
 ·refine .inr ⟨S.go i H1 (hP D H1 hD s1) hlt,λx H' y=>?_⟩;have yy:=S.yl i H1 x H' (hP D H1 hD s1) hlt y;clear y;obtain⟨e,y⟩:=yy;subst e;obtain⟨d,ed,rd⟩:=r.get y;have w1:=ex _ s1 (by rw [e1];exact λz=>nomatch z);have S':aS H H' O (λa=>O a\/a=D):=⟨λb o e _=>s1 b o e (eG e hD),λb hb hn z=>z.elim hn λq=>hb (by rw [q];exact hD)⟩;refine hk x σ _ _ (gd H0 O0 _ _ _ _ x d _ _ w1 (rd.step S') (qs i d acc ed q1) λδ2 σ2 q2 w2=>?_);refine hc σ2 _ _ ⟨_,δ2,_,w2,q2,λok H3 q3 s3=>?_⟩;cases ok with
  | true=>
   rw [VF rfl];refine he σ2 H3 _ ⟨_,δ2,_,w2.mono s3,q3,λd' v H4 q4 s4 r4=>?_⟩;have e4:=s4 _ _ (s3 _ _ e1);have sD:aS H4 (ai H4 D (.lst (ys++[v]))) (λa=>O a\/a=D) (λa=>O a\/a=D):=⟨λb o e n=>by rw [aC (λz=>n (.inr z))];exact e,λ_ _ n=>n⟩;refine⟨ys,e4,VD,vs.length - (i+1),VD,acc++[d'],ys++[v],rfl,hlt,λb o e n=>by rw [aC n];exact s4 _ _ (s3 _ _ (s1 b o e n)),bA,by simpa using hy,?_,q4⟩;exact((ra.mono (s3.trans s4)).append (.cons r4 .nil)).step sD
  | false=>
   rw [VE VC];exact⟨vs.length - (i+1),VD,acc,ys,rfl,hlt,λb o e n=>s3 _ _ (s1 b o e n),s3 _ _ e1,VD,ra.mono s3,q3⟩
 ·have e:i=vs.length:=VD
  subst e;refine .inl ⟨S.st _ H1 (hP D H1 hD s1) (Oi _),?_⟩;rw [r.length] at q1;have hrest:∃H2:Hp,H2 D=none/\aw H H2/\H1=ai H2 D (.lst ys):=by
   refine⟨λb=>if b=D then none else H1 b,VH,λb o e=>?_,?_⟩
   ·have n:=eG e hD;show(if b=D then none else H1 b)=some o;rw [VE n];exact s1 b o e n
   ·funext b;by_cases z:b=D
    ·rw [z,bA];exact e1
    ·rw [aC z];show H1 b=if b=D then none else H1 b;rw [VE z]
  obtain⟨H2,h2,s2,rfl⟩:=hrest;refine k1 acc ys D H2 (qe acc q1) s2 h2 (ra.step ⟨λb o e n=>?_,λb _ n z=>n (.inl z)⟩);rw [aC (λz=>n (.inr z))] at e;exact e
def gT:DB:=λ_ Q=>Q true
def j5(g:TG)(k:Nat):Prop:=∀(fr:List Nat)(σ:St)(v:V)(H':Hp)(R:St->Hp->Prop),g v (bI k fr σ) H' R->g v (bI k fr σ) H' λσ2 H2=>oF (bI k fr σ) σ2/\R σ2 H2
theorem bO:j5 (iQ 0) 1:=λfr σ v H' R h=>⟨z6,h⟩
def i4(t:DT)(g:DG)(tc:DB)(te:DT)(k:Nat)(fr:List Nat):DA:=λδ Q=>t δ λd=>∃xs,d= .list xs/\xs.length<=VV/\iw g tc te (dS k fr δ) xs Q
def i5(t:DT)(g:DG)(tc:DB)(te:DT)(k:Nat)(fr:List Nat):DA:=λδ Q=>t δ λd=>∃xs,d= .tuple xs/\xs.length<=VV/\iw g tc te (dS k fr δ) xs Q
def j6(ta:DA)(g:DG)(tc:DB)(te:DT)(k:Nat)(fr:List Nat):DA:=λδ Q=>ta δ λds=>∃j:Int,ds=[.int j]/\-(2 ^ 62)<=j/\j < VV/\iw g tc te (dS k fr δ) (oK 0 j.toNat) Q
section
variable {tg iter elt:VT} {ifs:List VT} {scope:Wm} {N':List Str} {k:Nat} {fr:List Nat} {g:TG} {dg:DG} {t:DT} {ta:DA} {tc:DB} {te:DT} {pos p ps:Pos}
theorem dU(hc:X.calm=true)(S:bq X.env.scope X.N N' k fr scope)(hi:DF X H0 O0 iter t)(gd:GD X.K g dg)(hk:j5 g k)(hfr:fr.Nodup)
 (hg:∀fp C s H,PG (bL X scope N' fp C s H) tg g)(hf:∀fp C s H,fx (bL X scope N' fp C s H) ifs (b5 X.K H0 O0 tc))(he:∀fp C s H,PE (bL X scope N' fp C s H) elt (up X.K H0 O0 te))
 (hs:∀x,V2 iter X.env x=pure x:=by intro _;rfl):FE X H0 O0 (.ListComp elt [⟨tg,iter,ifs,0⟩] scope pos) (i4 t dg tc te k fr):=
 (tZ hc S (tK hi) hg hf he hs).imp λσ H Q uu16=>by obtain⟨O,δ,Qd,w,q,kk⟩:=uu16;exact⟨O,δ,_,w,q,λd v H1 uu17 s1 r1=>by
  obtain⟨xs,e,hz,q1⟩:=uu17;subst e;obtain⟨a,vs,rfl,hq,rr⟩:=r1.lst;refine⟨a,rfl,⟨_,hq⟩,λD hD=>qS (dn.list hq) gd hfr (λv _ H' R h=>hk fr σ v H' R h) (λ_ _ _ z=>z) (λ_ _ _ z=>z) (λD H' hD s' o e=>s' _ _ e (eG e hD)) rr (w.mono s1) (by rw [rr.length];exact hz) q1 (λds us p H' z s' hp r'=>kk ds us p H' z (s1.trans s') hp r') D hD⟩⟩
theorem i6(hc:X.calm=true)(S:bq X.env.scope X.N N' k fr scope)(hi:DF X H0 O0 iter t)(gd:GD X.K g dg)(hk:j5 g k)(hfr:fr.Nodup)
 (hg:∀fp C s H,PG (bL X scope N' fp C s H) tg g)(hf:∀fp C s H,fx (bL X scope N' fp C s H) ifs (b5 X.K H0 O0 tc))(he:∀fp C s H,PE (bL X scope N' fp C s H) elt (up X.K H0 O0 te))
 (hs:∀x,V2 iter X.env x=pure x:=by intro _;rfl):FE X H0 O0 (.ListComp elt [⟨tg,iter,ifs,0⟩] scope pos) (i5 t dg tc te k fr):=
 (tZ hc S (vz hi) hg hf he hs).imp λσ H Q uu18=>by obtain⟨O,δ,Qd,w,q,kk⟩:=uu18;exact⟨O,δ,_,w,q,λd v H1 uu19 s1 r1=>by
  obtain⟨xs,e,hz,q1⟩:=uu19;subst e;obtain⟨a,vs,rfl,hq,rr⟩:=r1.tup;refine⟨a,rfl,⟨_,hq⟩,λD hD=>qS (dn.tup hq) gd hfr (λv _ H' R h=>hk fr σ v H' R h) (λ_ _ _ z=>z) (λ_ _ _ z=>z) (λD H' hD s' o e=>s' _ _ e (eG e hD)) rr (w.mono s1) (by rw [rr.length];exact hz) q1 (λds us p H' z s' hp r'=>kk ds us p H' z (s1.trans s') hp r') D hD⟩⟩
theorem vZ(hc:X.calm=true){a:VT}(S:bq X.env.scope X.N N' k fr scope)(hgl:Gl X "range")(hm:X.mg "range"=none)(ha:PA X [a] (iq X.K H0 O0 ta))(gd:GD X.K g dg)(hk:j5 g k)(hfr:fr.Nodup)
 (hg:∀fp C s H,PG (bL X scope N' fp C s H) tg g)(hf:∀fp C s H,fx (bL X scope N' fp C s H) ifs (b5 X.K H0 O0 tc))(he:∀fp C s H,PE (bL X scope N' fp C s H) elt (up X.K H0 O0 te))
 (hst:VQ [a] X.env=[(false,eval a X.env)]:=by rfl)(hs:∀x,V2 (.Call (.Name "range" p) [a] [] ps) X.env x=pure x:=by intro _;rfl):
 FE X H0 O0 (.ListComp elt [⟨tg,(.Call (.Name "range" p) [a] [] ps),ifs,0⟩] scope pos) (j6 ta dg tc te k fr):=
 (tZ hc S (vC hgl hm ha hst) hg hf he hs).imp λσ H Q uu20=>by obtain⟨O,δ,Qd,w,q,kk⟩:=uu20;exact⟨O,δ,_,w,q,λds vs H1 uu21 s1 r1=>by
  obtain⟨j,e,b1,b2,q1⟩:=uu21;subst e;cases r1 with
  | cons r1 r2=>
   cases r2;cases r1.int;have hb:(VV:Int) < 2 ^ 62:=VC
   exact⟨j,rfl,b1,VD,λD hD=>qS (P:=λ_=>True) dn.rng gd hfr (λv _ H' R h=>hk fr σ v H' R h) (λ_ _ _ z=>z) (λ_ _ _ z=>z) (λ_ _ _ _=>trivial) (ak.rng _) (w.mono s1) (by rw [Oe,RZ];omega) q1 (λds us p H' z s' hp r'=>kk ds us p H' z (s1.trans s') hp r') D hD⟩⟩
end
end
section
variable {K:Og}
def dI(g:Int->Int->VI):VI->VI->(VI->Prop)->Prop:=λx y Q=>∃i j,x= .int i/\y= .int j/\Q (g i j)
def mx(C:Int->Int->Prop)(g:Int->Int->VI):VI->VI->(VI->Prop)->Prop:=λx y Q=>∃i j,x= .int i/\y= .int j/\C i j/\Q (g i j)
theorem bZ{g:Int->Int->Int}:cN K (ia λi j=>.int (g i j)) (dI λi j=>.int (g i j)):=λH O x y dx dy Qd R _ hx hy uu22 k=>by
 obtain⟨i,j,e1,e2,q⟩:=uu22;subst e1 e2;cases hx.int;cases hy.int;exact⟨i,j,rfl,rfl,k _ _ H q (aw.refl _) (.int _)⟩
theorem cW{g:Int->Int->Bool}:cN K (ia λi j=>.bl (g i j)) (dI λi j=>.bool (g i j)):=λH O x y dx dy Qd R _ hx hy uu23 k=>by
 obtain⟨i,j,e1,e2,q⟩:=uu23;subst e1 e2;cases hx.int;cases hy.int;exact⟨i,j,rfl,rfl,k _ _ H q (aw.refl _) (.bl _)⟩
theorem aL{C:Int->Int->Prop}{g:Int->Int->Int}:cN K (rI C λi j=>.int (g i j)) (mx C λi j=>.int (g i j)):=λH O x y dx dy Qd R _ hx hy uu24 k=>by
 obtain⟨i,j,e1,e2,c,q⟩:=uu24;subst e1 e2;cases hx.int;cases hy.int;exact⟨i,j,rfl,rfl,c,k _ _ H q (aw.refl _) (.int _)⟩
def Aj(K:Og):R2:=λx y H Q=>∃O dx dy,Sh K H O x dx/\Sh K H O y dy/\cM dx/\cM dy/\Q (.bl (OP dx dy)) H
def Ak(K:Og):R2:=λx y H Q=>∃O dx dy,Sh K H O x dx/\Sh K H O y dy/\cM dx/\cM dy/\Q (.bl (!OP dx dy)) H
theorem cx{X:Cx}(hu:X.A.units+64 < Wa):bU X (V6 .Eq) (Aj X.K):=by
 intro Xl s σ H x y v u Q I rx ry h;obtain⟨O,dx,dy,hx,hy,sx,sy,q⟩:=h;obtain⟨as,ra⟩:=ig I hx.all (PV sx) rx;obtain⟨bs,rb⟩:=ig I hy.all (PV sy) ry;exact SeqAt.compareEq_shaped ra rb sx sy hu (bK I q rfl)
theorem Hs{X:Cx}(hu:X.A.units+64 < Wa):bU X (V6 .NotEq) (Ak X.K):=by
 intro Xl s σ H x y v u Q I rx ry h;obtain⟨O,dx,dy,hx,hy,sx,sy,q⟩:=h;obtain⟨as,ra⟩:=ig I hx.all (PV sx) rx;obtain⟨bs,rb⟩:=ig I hy.all (PV sy) ry;exact SeqAt.compareNe_shaped ra rb sx sy hu (bK I q rfl)
def my:VI->VI->(VI->Prop)->Prop:=λx y Q=>cM x/\cM y/\Q (.bool (OP x y))
def mz:VI->VI->(VI->Prop)->Prop:=λx y Q=>cM x/\cM y/\Q (.bool (!OP x y))
theorem cy:cN K (Aj K) my:=λH O x y dx dy Qd R _ hx hy uu25 k=>by obtain⟨a,b,q⟩:=uu25;exact⟨O,dx,dy,hx,hy,a,b,k _ _ H q (aw.refl _) (.bl _)⟩
theorem Ht:cN K (Ak K) mz:=λH O x y dx dy Qd R _ hx hy uu26 k=>by obtain⟨a,b,q⟩:=uu26;exact⟨O,dx,dy,hx,hy,a,b,k _ _ H q (aw.refl _) (.bl _)⟩
def mB:VI->VI->(VI->Prop)->Prop:=λx y Q=>∃ds i d,x= .list ds/\y= .int i/\atI ds i=some d/\Q d
def gU:VI->VI->(VI->Prop)->Prop:=λx y Q=>∃ds i d,x= .tuple ds/\y= .int i/\atI ds i=some d/\Q d
theorem ak.atI{H:Hp}{O:Ex}{vs:List V}{ds:List VI}{i:Int}{d:VI}(r:ak K H O vs ds)(e:L2.atI ds i=some d):∃v,L2.atI vs i=some v/\Dt K H O v d:=by
 unfold L2.atI at e⊢;rw [r.length];cases q:iU ds.length i with
 | none=>rw [q] at e;cases e
 | some j=>rw [q] at e;exact r.getD e
theorem bb:cN K (vO K) mB:=λH O x y dx dy Qd R _ hx hy uu27 k=>by
 obtain⟨ds,i,d,e1,e2,e3,q⟩:=uu27;subst e1 e2;obtain⟨a,vs,rfl,hs,r⟩:=hx.lst;cases hy.int;obtain⟨v,hv,rv⟩:=r.atI e3;exact⟨a,vs,i,v,rfl,rfl,hs,hv,k d v H q (aw.refl _) rv⟩
theorem aJ:cN K (tW K) gU:=λH O x y dx dy Qd R _ hx hy uu28 k=>by
 obtain⟨ds,i,d,e1,e2,e3,q⟩:=uu28;subst e1 e2;obtain⟨a,vs,rfl,hs,r⟩:=hx.tup;cases hy.int;obtain⟨v,hv,rv⟩:=r.atI e3;exact⟨a,vs,i,v,rfl,rfl,hs,hv,k d v H q (aw.refl _) rv⟩
end
section
variable {X:Cx} {H0:Hp} {O0:Ex}
def Hu:R2:=λx y H Q=>∃l b xs zs,x= .ref l/\y= .ref b/\Rd H l (.lst xs)/\Rd H b (.lst zs)/\xs.length+zs.length<=VV/\∀p,H p=none->Q (.ref p) (ai H p (.lst (xs++zs)))
theorem Hv:bU X (Wn .Add) Hu:=by
 intro Xl s σ H x y v u Q I rx ry h;obtain⟨l,b,xs,zs,rfl,rfl,hH,hB,hz,q⟩:=h;cases rx;cases ry;obtain⟨z,its,n,r,e⟩:=hH.ok I.hok;obtain⟨z2,its2,n2,r2,e2⟩:=hB.ok I.hok;have l1:=r.length;have l2:=r2.length;refine PySem.P.add_list e e2 ?_ (by rw [OH,OH];omega);have ea:its.toArray++its2.toArray=(its++its2).toArray:=VH
 rw [ea];exact⟨.ref _,_,I.lnew (t':=s.toks) (r.append r2) (by rw [OG];omega),rfl,q _ I.fresh⟩
def mC(ta tb:DT):DA:=λδ Q=>ta δ λx=>tb δ λy=>∃xs ys,x= .list xs/\y= .list ys/\xs.length+ys.length<=VV/\Q (xs++ys)
theorem j7{a b:VT}{ta tb:DT}{pos:Pos}(ha:DF X H0 O0 a ta)(hb:DF X H0 O0 b tb):FE X H0 O0 (.BinOp a .Add b pos) (mC ta tb):=
 (bM Hv ha hb).imp λσ H Q uu29=>by obtain⟨O,δ,Qd,w,q,k⟩:=uu29;exact⟨O,δ,_,w,q,λx v H1 q1 s1 r1=>⟨O,δ,_,w.mono s1,q1,λy u H2 uu30 s2 r2=>by
  obtain⟨xs,ys,e1,e2,hz,q2⟩:=uu30;subst e1 e2;obtain⟨a,vs,rfl,h1,d1⟩:=(r1.mono s2).lstR;obtain⟨b,us,rfl,h2,d2⟩:=r2.lstR;exact⟨a,b,vs,us,rfl,rfl,h1,h2,by rw [d1.length,d2.length];exact hz,λp hp=>k _ _ _ _ q2 (s1.trans s2) hp (d1.append d2)⟩⟩⟩
def d6(xs:List VI)(lo hi:Option Int):List VI:=(xs.drop (HT.sIx xs.length 0 lo)).take (HT.sIx xs.length xs.length hi - HT.sIx xs.length 0 lo)
theorem ak.cut{K:Og}{H:Hp}{O:Ex}{vs:List V}{ds:List VI}(r:ak K H O vs ds)(lo hi:Option Int):ak K H O (jX vs lo hi) (d6 ds lo hi):=by
 unfold jX d6;rw [r.length];exact(r.drop _).take _
abbrev DO:=Dl->(Option Int->Prop)->Prop
def mD(K:Og)(H0:Hp)(O0:Ex)(t:DO):TO:=λσ H R=>∃O δ Qd,Wd K H0 O0 H O σ δ/\t δ Qd/\∀d H',Qd d->aw H H'->R d H'
def mE:DO:=λ_ Q=>Q none
def mF(t:DT):DO:=λδ Q=>t δ λd=>∃i,d= .int i/\Q (some i)
theorem PO.imp{X:Cx}{e:Option VT}{t u:TO}(h:PO X e t)(i:∀σ H Q,u σ H Q->t σ H Q):PO X e u:=λXl s σ H Q I z=>h Xl s σ H Q I (i σ H Q z)
theorem i7:PO X none (mD X.K H0 O0 mE):=Gr.imp λσ H Q uu31=>by obtain⟨O,δ,Qd,w,q,k⟩:=uu31;exact k none H q (aw.refl _)
theorem cK{e:VT}{t:DT}(h:DE X H0 O0 e t):PO X (some e) (mD X.K H0 O0 (mF t)):=(Gs h).imp λσ H Q uu32=>by obtain⟨O,δ,Qd,w,q,k⟩:=uu32;exact⟨O,δ,_,w,q,λd v H1 uu33 s1 r1=>by obtain⟨i,e,q1⟩:=uu33;subst e;cases r1;exact⟨i,rfl,k _ H1 q1 s1⟩⟩
def mG(t:DT)(tl th:DO):DA:=λδ Q=>t δ λd=>tl δ λl=>th δ λu=>∃xs,d= .list xs/\Q (d6 xs l u)
theorem gW{e:VT}{lo hi:Option VT}{t:DT}{tl th:DO}{pos p2:Pos}(h:DF X H0 O0 e t)(hl:PO X lo (mD X.K H0 O0 tl))(hu:PO X hi (mD X.K H0 O0 th)):FE X H0 O0 (.Subscript e (.Slice lo hi none p2) pos) (mG t tl th):=
 (vM zT h hl hu).imp λσ H Q uu34=>by obtain⟨O,δ,Qd,w,q,k⟩:=uu34;exact⟨O,δ,_,w,q,λd v H1 q1 s1 r1=>⟨O,δ,_,w.mono s1,q1,λl H2 q2 s2=>⟨O,δ,_,w.mono (s1.trans s2),q2,λu H3 uu35 s3=>by
  obtain⟨xs,e,q3⟩:=uu35;subst e;obtain⟨a,vs,rfl,h1,d1⟩:=(r1.mono (s2.trans s3)).lst;exact⟨a,vs,rfl,h1,λp hp=>k _ _ _ _ q3 (s1.trans (s2.trans s3)) hp (d1.cut l u)⟩⟩⟩⟩
theorem aj{a b:VT}{ta tb:DT}{r:R2}{rd:VI->VI->(VI->Prop)->Prop}{pos:Pos}(ho:sL X r)(hd:cN X.K r rd)(ha:DF X H0 O0 a ta)(hb:DF X H0 O0 b tb)(hs:∀v u,Xc b false v u=operate [v,u] (WL v u):=by intro _ _;rfl):DE X H0 O0 (.Subscript a b pos) (cV rd ta tb):=(jY ho ha hb hs).imp (t9 hd)
def mH:List VI->(VI->Prop)->Prop:=λds Q=>∃xs,(ds=[.list xs]\/ds=[.tuple xs])/\Q (.int xs.length)
def mI:List VI->(VI->Prop)->Prop:=λds Q=>∃xs,ds=[fN xs]/\Q (.int xs.length)
theorem dH{K:Og}:j1 K (λxs H Q=>∃p ys,xs=[.ref p]/\(bu K H p ys\/bC K H p ys)/\Q (.int ys.length) H) mH:=λH O xs ds Qd R _ hs uu36 k=>by
 obtain⟨ys,e,q⟩:=uu36;rcases e with e | e <;> subst e
 ·cases hs with
  | cons h r=>
   cases r;obtain⟨a,vs,rfl,h1,d1⟩:=h.lst;exact⟨a,vs,rfl,.inl h1,by rw [d1.length];exact k _ _ H q (aw.refl _) (.int _)⟩
 ·cases hs with
  | cons h r=>
   cases r;obtain⟨a,vs,rfl,h1,d1⟩:=h.tup;exact⟨a,vs,rfl,.inr h1,by rw [d1.length];exact k _ _ H q (aw.refl _) (.int _)⟩
theorem Hw{K:Og}:j1 K (λxs H Q=>∃p ys,xs=[.ref p]/\(bu K H p ys\/bC K H p ys)/\Q (.int ys.length) H) mI:=λH O xs ds Qd R _ hs uu37 k=>by
 obtain⟨ys,e,q⟩:=uu37;subst e;cases hs with
 | cons h r=>
  cases r;obtain⟨a,vs,rfl,h1,d1⟩:=h.scr;exact⟨a,vs,rfl,.inl h1,by rw [d1.length];exact k _ _ H q (aw.refl _) (.int _)⟩
def mJ:List VI->(VI->Prop)->Prop:=λds Q=>∃xs,ds=[.list xs]/\Q (.tuple xs)
theorem gC{K:Og}:j1 K (λxs H Q=>∃p ys,xs=[.ref p]/\((bu K H p ys/\∀l,H l=none->Q (.ref l) (ai H l (.tup ys)))\/(bC K H p ys/\Q (.ref p) H))) mJ:=λH O xs ds Qd R tr hs uu38 k=>by
 obtain⟨ys,e,q⟩:=uu38;subst e;cases hs with
 | cons h r=>
  cases r;obtain⟨a,vs,rfl,h1,d1⟩:=h.lst;exact⟨a,vs,rfl,.inl ⟨h1,λl hl=>k _ _ _ q (aw.new hl) (.tup (.inl bA) (λz=>tr l z hl) (d1.mono (aw.new hl)))⟩⟩
theorem ak.bools{K:Og}{H:Hp}{O:Ex}:∀{bs:List Bool}{vs:List V},ak K H O vs (bs.map Rh)->vs=bs.map V.bl
 | [],_,r=>by rw [Pw] at r;cases r;rfl
 | b::bs,_,r=>by
  rw [Ol] at r;cases r with
  | cons h r=>cases h;rw [Ol,ak.bools r]
def mK(g:List Bool->Bool):List VI->(VI->Prop)->Prop:=λds Q=>∃bs:List Bool,ds=[.list (bs.map .bool)]/\Q (.bool (g bs))
theorem uf{K:Og}{g:List Bool->Bool}:j1 K (λxs H Q=>∃(a:VM)(bs:List Bool),xs=[.ref a]/\bu K H a (bs.map V.bl)/\Q (.bl (g bs)) H) (mK g):=λH O xs ds Qd R tr hs uu39 k=>by
 obtain⟨bs,e,q⟩:=uu39;subst e;cases hs with
 | cons h r=>
  cases r;obtain⟨a,vs,rfl,h1,d1⟩:=h.lst;cases d1.bools;exact⟨a,bs,rfl,h1,k _ _ H q (aw.refl _) (.bl _)⟩
def mL(g:Int->Int->Int):List VI->(VI->Prop)->Prop:=λds Q=>∃i j,ds=[.int i,.int j]/\Q (.int (g i j))
theorem Al{K:Og}{g:Int->Int->Int}:j1 K (λxs H Q=>∃i j,xs=[.int i,.int j]/\Q (.int (g i j)) H) (mL g):=λH O xs ds Qd R tr hs uu40 k=>by
 obtain⟨i,j,e,q⟩:=uu40;subst e;cases hs with
 | cons h r=>
  cases r with
  | cons h2 r=>
   cases r;cases h.int;cases h2.int;exact⟨i,j,rfl,k _ _ H q (aw.refl _) (.int _)⟩
def qT:VI->String
 | .none=> "NoneType" | .bool _=> "bool" | .int _=> "int" | .str _=> "str" | .list _=> "list" | .tuple _=> "tuple" | .dict _=> "dict"
end
section
variable {P:VW} {w:VX} {K:Og} {mg:Str->Option VJ} {base:VY}
def fh(N:List Str)(ds:List VI):Dl:=ds.map (λd=>some (.v d))++OL (N.length - ds.length) none
theorem Am{H:Hp}{O:Ex}{N:List Str}{vs:List V}{ds:List VI}(tr:∀l,O l->H l≠none)(r:ak K H O vs ds):Wd K H O H O (start N vs) (fh N ds):=by
 have hl:=r.length;have at1:∀(i:Nat) y,(fh N ds)[i]?=some y->(∃d,ds[i]?=some d/\y=some (.v d))\/y=none:=λi y e=>by
  unfold fh at e;by_cases h:i < ds.length
  ·rw [PH (by simpa using h),OD] at e;cases q:ds[i]? with
   | none=>rw [q] at e;cases e
   | some d=>rw [q] at e;exact .inl ⟨d,rfl,(Ph e).symm⟩
  ·rw [Qf (by simpa using QN h),Q4] at e;split at e
   ·exact .inr (Ph e).symm
   ·cases e
 refine⟨aw.refl _,λ_ z=>z,λ_ z=>.inl z,tr,by simp [start,fh,hl],λi y e=>?_,λi j ds' es l e1=>?_⟩
 ·rcases at1 i y e with⟨d,hd,rfl⟩ | rfl
  ·obtain⟨v,hv,rv⟩:=r.getD hd;refine⟨v,?_,rv⟩;unfold start;rw [PH (by simpa using(OB.mp hv).1),OD,hv];rfl
  ·exact Qi
 ·rcases at1 i _ e1 with⟨d,_,z⟩ | z
  ·cases z;intro h;exact h.elim
  ·cases z
theorem aQ.okD{x qual:Str}{st:VZ}{f:VM}{fd:VU}{N ps:List Str}{k:Nat}{F:List VI->(VI->Prop)->Prop}(Fu:aQ K x qual st f fd)(S:aV N ps (ag st))(len:∀ds Q,F ds Q->ds.length=ps.length)
 (hbody:∀(cdv:VJ) (A:V0) (outer:List Env) (s:VN) (H:Hp) (O:Ex) (ds:List VI) (Q:VI->Prop) (E:XK),bw k (A.deeper (WI qual (ag st) s.heap.objs.size f cdv))->F ds Q->
  ∃t,bX (ie CX0 P w K mg base N qual (ag st) f cdv A outer s H E).nox (ar st) (bz K H O t)/\t {nx:=λ_=>Q .none,rt:=Q} (fh N ds)):aD P w K mg base CX0 (k+1) f fd ps (aW K F):=by
 refine Fu.ok S (λvs H Q E h=>?_) (λcdv A outer s H vs Q E hr h=>?_)
 ·obtain⟨O,ds,Qd,_,r,q,_⟩:=h;rw [r.length];exact len _ _ q
 ·obtain⟨O,ds,Qd,tr,r,q,k⟩:=h;obtain⟨t,ht,q'⟩:=hbody cdv A outer s H O ds Qd E hr q;refine⟨_,ht,O,_,_,Am tr r,q',λO' δ' σ' H' z w' S'=>?_,λd v H' z s' r'=>k d v H' z s' r',λ_ _ _ _ z=>z.elim,λ_ _ _ _ z=>z.elim⟩;exact k _ _ _ z w'.same .non
end
section
variable {X:Cx} {H0:Hp} {O0:Ex}
theorem dA:fx X [] (b5 X.K H0 O0 gT):=λXl s σ H Q I h=>by
 obtain⟨O,δ,Qd,w,q,k⟩:=h;exact z3 Xl s σ H Q I (k true H q (aw.refl _))
theorem Hx:dZ X (.builtin "isinstance") (λxs H Q=>∃O d T b x,xs=[x,.ty T]/\Dt X.K H O x d/\(∀x,d≠ .dict [(.none,x)])/\kitOne X.K (.type (qT d)) (.type T)=some b/\Q (.bl b) H):=by
 intro Xl s σ H xs us Q I r h;obtain⟨O,d,T,b,x,rfl,hd,hp,hk,q⟩:=h;obtain⟨u,w',rfl,rx,rt⟩:=vH r;cases (show w'=RS T from rt);have fin:∀tk,EP X Xl σ Q (.bool b) {s with toks:=tk}:=λtk=>⟨.bl b,H,I.tok tk,rfl,q⟩;cases hd with
 | non=>cases (show u=QI from rx);exact W2 kitx_none I.kIn Qi hk (λz=>nomatch z) fin
 | bl y=>cases (show u=Rf y from rx);exact W2 kitx_bool I.kIn Qi hk (λz=>nomatch z) fin
 | int i=>obtain⟨t,e⟩:=(show ∃t,u=QF i t from rx);cases e;exact W2 kitx_int I.kIn Qi hk (λz=>nomatch z) fin
 | str y=>obtain⟨t,e⟩:=(show ∃t,u=RG y t from rx);cases e;exact W2 kitx_str I.kIn Qi hk (λz=>nomatch z) fin
 | @tup a xs ds h n rr=>
  cases (show u=O9 a from rx);obtain⟨its,rv,⟨o,e,c,_⟩,_⟩:=I.tuple (.inl h);exact W2 kitx_tuple I.kIn ⟨o,e,c⟩ hk (λz=>nomatch z) fin
 | @tupK a xs ds h rr=>
  cases (show u=O9 a from rx);obtain⟨its,rv,⟨o,e,c,_⟩,_⟩:=I.tuple h.of0;exact W2 kitx_tuple I.kIn ⟨o,e,c⟩ hk (λz=>nomatch z) fin
 | @lst a xs ds h n rr=>
  cases (show u=O9 a from rx);obtain⟨its,rv,⟨o,_,e,c,_⟩,_⟩:=I.list (.inl h);exact W2 kitx_list I.kIn ⟨o,e,c⟩ hk (λz=>nomatch z) fin
 | pack h n=>exact absurd rfl (hp _)
 | purse h n=>exact absurd rfl (hp _)
 | scr h r=>exact absurd rfl (hp _)
 | obj h e n r=>exact absurd rfl (hp _)
 | @dct0 a h n=>
  cases (show u=O9 a from rx);obtain⟨_,_,_,_,o,_,_,e,c,_⟩:=(show cg X.prog X.w H s.heap a (.dK []) from I.hok a _ h);exact W2 kitx_dict I.kIn ⟨o,e,c.1⟩ hk (λz=>nomatch z) fin
 | @dic a ob kv ks kp ds h e1 e2 n rr=>
  cases (show u=O9 a from rx);obtain⟨_,_,_,_,o,_,_,e,c,_⟩:=(show cg X.prog X.w H s.heap a (.dK kv) from(I.hok a _ h).2);exact W2 kitx_dict I.kIn ⟨o,e,c.1⟩ hk (λz=>nomatch z) fin
def j8(K:Og)(T:String)(t:DT):DT:=λδ Q=>t δ λd=>∃b,kitOne K (.type (qT d)) (.type T)=some b/\(∀x,d≠ .dict [(.none,x)])/\Q (.bool b)
theorem Hy{T:String}{a c:VT}{t:DT}{np p:Pos}(hg:Gl X "isinstance")(hm:X.mg "isinstance"=none)(hv:V1 "isinstance"=some (.builtin "isinstance"))(ha:DF X H0 O0 a t)(hc:PE X c (tC (.ty T)))
 (hs:VQ [a,c] X.env=(false,eval a X.env)::VQ [c] X.env:=by rfl)(hs2:VQ [c] X.env=[(false,eval c X.env)]:=by rfl)(hb:(V4 p (VQ [c] X.env)).any (·.1)=false:=by rfl):DE X H0 O0 (.Call (.Name "isinstance" np) [a,c] [] p) (j8 X.K T t):=
 (bV Hx hg hm hv (bF ha (bF hc ck hs2) hs) (he:=hs) (hpl:=hb)).imp λσ H Q uu41=>by obtain⟨O,δ,Qd,w,q,k⟩:=uu41;exact⟨O,δ,_,w,q,λd v H1 uu42 s1 r1=>by obtain⟨b,e,hp,q1⟩:=uu42;exact⟨λ_=>False,d,T,b,v,rfl,r1.all,hp,e,k _ _ H1 q1 s1 (.bl b)⟩⟩
def mM:VI->VI->(VI->Prop)->Prop:=λx y Q=>∃i j,x= .str i/\y= .str j/\i.length+j.length<=VV/\Q (.str (i++j))
theorem An{K:Og}:cN K (λx y H Q=>∃i j,x= .str i/\y= .str j/\i.length+j.length<=VV/\Q (.str (i++j)) H) mM:=λH O x y dx dy Qd R tr hx hy uu43 k=>by
 obtain⟨i,j,e1,e2,hz,q⟩:=uu43;subst e1 e2;cases hx.str;cases hy.str;exact⟨i,j,rfl,rfl,hz,k _ _ H q (aw.refl _) (.str _)⟩
def mN:VI->VI->(VI->Prop)->Prop:=λx y Q=>∃z i c,x= .str z/\y= .int i/\z.length<=VV/\atI z.cps.toList i=some c/\Q (.str ⟨#[c]⟩)
theorem Ao{K:Og}:cN K zR mN:=λH O x y dx dy Qd R tr hx hy uu44 k=>by
 obtain⟨z,i,c,e1,e2,hz,e3,q⟩:=uu44;subst e1 e2;cases hx.str;cases hy.int;exact⟨z,i,c,rfl,rfl,hz,e3,k _ _ H q (aw.refl _) (.str _)⟩
theorem Hz{K:Og}{F:List VI->(VI->Prop)->Prop}{E:XK}:∀σ H Q,up K H0 O0 (gP F gO) σ H Q->sH (aW K F) [] E qL σ H Q:=
 λσ H Q uu45=>by obtain⟨O,δ,Qd,w,q,k⟩:=uu45;exact⟨O,[],Qd,w.trk,.nil,q,λd v H2 q2 s2 r2=>k d v H2 q2 s2 r2⟩
def mO:List VI->(VI->Prop)->Prop:=λds Q=>(∃i,ds=[.int i]/\Q (.int i))\/∃b,ds=[.bool b]/\Q (.int (if b then 1 else 0))
theorem sO{K:Og}:j1 K (λxs H Q=>(∃i,xs=[.int i]/\Q (.int i) H)\/∃k,xs=[.bl k]/\Q (.int (if k then 1 else 0)) H) mO:=λH O xs ds Qd R tr hs h k=>by
 rcases h with⟨i,e,q⟩ | ⟨b,e,q⟩ <;> subst e
 ·cases hs with
  | cons h r=>cases r;cases h.int;exact .inl ⟨i,rfl,k _ _ H q (aw.refl _) (.int _)⟩
 ·cases hs with
  | cons h r=>cases r;cases h.bl;exact .inr ⟨b,rfl,k _ _ H q (aw.refl _) (.int _)⟩
def mP(t:DA):DA:=λδ Q=>t δ λds=>∃xs,(ds=[.list xs]\/ds=[.tuple xs])/\Q xs
theorem HA{a:VT}{t:DA}{np p:Pos}(hg:Gl X "list")(hm:X.mg "list"=none)(hv:V1 "list"=some (.type "list"))(ha:PA X [a] (iq X.K H0 O0 t))(he:VQ [a] X.env=(false,eval a X.env)::VQ [] X.env:=by rfl)(hpl:(V4 p (VQ [] X.env)).any (·.1)=false:=by rfl):FE X H0 O0 (.Call (.Name "list" np) [a] [] p) (mP t):=
 (dF GF hg hm hv ha (he:=he) (hpl:=hpl)).imp λσ H Q uu46=>by obtain⟨O,δ,Qd,w,q,k⟩:=uu46;exact⟨O,δ,_,w,q,λds vs H1 uu47 s1 r1=>by
  obtain⟨xs,e,q1⟩:=uu47;rcases e with e | e <;> subst e
  ·cases r1 with
   | cons h r=>
    cases r;obtain⟨a,us,rfl,h1,d1⟩:=h.lst;exact⟨a,us,rfl,.inl h1,λl hl=>k _ _ _ _ q1 s1 hl d1⟩
  ·cases r1 with
   | cons h r=>
    cases r;obtain⟨a,us,rfl,h1,d1⟩:=h.tup;exact⟨a,us,rfl,.inr h1,λl hl=>k _ _ _ _ q1 s1 hl d1⟩⟩
end
theorem d7{α:Type}{a:α}{l:List α}:atI (a::l) 0=some a:=fM (j:=0) rfl
theorem eQ{α:Type}{a b:α}{l:List α}:atI (a::b::l) 1=some b:=fM (j:=1) rfl
theorem ix{α:Type}{a b c:α}{l:List α}:atI (a::b::c::l) 2=some c:=fM (j:=2) rfl
theorem fQ{α:Type}{a b c d:α}{l:List α}:atI (a::b::c::d::l) 3=some d:=fM (j:=3) rfl
theorem mQ{α:Type}{a b c d e:α}{l:List α}:atI (a::b::c::d::e::l) 4=some e:=fM (j:=4) rfl
theorem oN{i:Int}:cM (.int i):=rfl
theorem oO{i:Bool}:cM (.bool i):=rfl
theorem oP:cM .none:=rfl
theorem d8{x y:Str}:OP (.str x) (.str y)=(x==y):=by simp [OP]
theorem oQ{x y:Int}:OP (.int x) (.int y)=(x==y):=by simp [OP]
theorem cJ{x:Str}:cM (.str x)↔Om x=true:=by
 unfold cM QZ;simp [Pr,SU]
theorem vL{n d:Nat}:HT.sIx n d none=d:=rfl
theorem uh{n d:Nat}{i:Int}(h0:0<=i)(h1:i<=n):HT.sIx n d (some i)=i.toNat:=by
 obtain⟨j,rfl⟩:=QD h0;rw [HT.sIx_nat,Ql];omega
theorem v5{xs:List VI}{i:Int}(h0:0<=i)(h1:i<=xs.length):d6 xs none (some i)=xs.take i.toNat:=by
 unfold d6;rw [vL,uh h0 h1];simp
theorem v7{xs:List VI}{i:Int}(h0:0<=i)(h1:i<=xs.length):d6 xs (some i) none=xs.drop i.toNat:=by
 unfold d6;rw [vL,uh h0 h1,OZ (by rw [Q8];exact Oi _)]
theorem qU{lo:Int}{n i:Nat}{x:VI}(h:(oK lo n)[i]?=some x):i < n/\x= .int (lo+i):=by
 unfold oK at h;rw [OD] at h;by_cases hi:i < n
 ·rw [List.getElem?_range hi] at h;exact⟨hi,(Ph h).symm⟩
 ·rw [Qo (by simpa using hi)] at h;cases h
theorem ui{lo:Int}{n:Nat}:(oK lo n).length=n:=by unfold oK;simp
section
variable {κ:Type} [DecidableEq κ]
def dW(kvs:List (κ×V))(k:κ):Option V:=(kvs.find? λkv=>decide (kv.1=k)).map (·.2)
def putK(kvs:List (κ×V))(k:κ)(v:V):List (κ×V):=
 if (kvs.any λkv=>decide (kv.1=k))=true then kvs.map (λkv=>if kv.1=k then(kv.1,v) else kv) else kvs++[(k,v)]
theorem sP{p:κ×V}{r:List (κ×V)}{k:κ}(e:p.1=k):dW (p::r) k=some p.2:=by simp [dW,PJ,e]
theorem qV{p:κ×V}{r:List (κ×V)}{k:κ}(e:¬p.1=k):dW (p::r) k=dW r k:=by simp [dW,PJ,e]
theorem Ap(k:κ):∀kvs:List (κ×V),(kvs.any λkv=>decide (kv.1=k))=(dW kvs k).isSome
 | []=>rfl
 | p::r=>by
  rw [PQ];by_cases e:p.1=k
  ·simp only [sP e,decide_eq_true e,Bool.true_or,Option.isSome_some]
  ·rw [qV e,decide_eq_false e,QB];exact Ap k r
theorem Aq(kvs:List (κ×V))(k:κ)(v:V):(putK kvs k v).length<=kvs.length+1:=by
 unfold putK;split
 ·rw [Oe];omega
 ·rw [OG,OC,Px];omega
theorem dY.isSome_eq{o:Option V}{u:Option VJ}(r:dY o u):o.isSome=u.isSome:=by
 cases o with
 | none=>cases u with
  | none=>rfl
  | some _=>exact(show False from r).elim
 | some _=>cases u with
  | none=>exact(show False from r).elim
  | some _=>rfl
theorem dY.getD{o:Option V}{u:Option VJ}{d:V}{d':VJ}(r:dY o u)(rd:aO d d'):aO (o.getD d) (u.getD d'):=by
 cases o with
 | none=>cases u with
  | none=>exact rd
  | some _=>exact(show False from r).elim
 | some _=>cases u with
  | none=>exact(show False from r).elim
  | some _=>exact r
theorem KV.val{kvs:List (κ×V)}{vs:List (κ×VJ)}(r:KV kvs vs)(k:κ):dY (dW kvs k) (valueAt vs k):=by
 unfold KV at r
 induction r with
 | nil=>exact Qi
 | @cons p q ps qs h t ih=>
  obtain⟨h1,h2⟩:=h;by_cases e:p.1=k
  ·have e':q.1=k:=h1.symm.trans e;have b:valueAt (q::qs) k=some q.2:=by simp [valueAt,PJ,e']
   rw [sP e,b];exact h2
  ·have e':¬q.1=k:=λz=>e (h1.trans z);have b:valueAt (q::qs) k=valueAt qs k:=by simp [valueAt,PJ,e']
   rw [qV e,b];exact ih
theorem KV.any{kvs:List (κ×V)}{vs:List (κ×VJ)}(r:KV kvs vs)(k:κ):(kvs.any λkv=>decide (kv.1=k))=vs.any λkv=>decide (kv.1=k):=by
 unfold KV at r
 induction r with
 | nil=>rfl
 | cons h t ih=>rw [PQ,PQ,ih,h.1]
theorem KV.repl{kvs:List (κ×V)}{vs:List (κ×VJ)}(r:KV kvs vs)(k:κ){y:V}{u:VJ}(ry:aO y u):
 KV (kvs.map λkv=>if kv.1=k then(kv.1,y) else kv) (vs.map λkv=>if kv.1=k then(kv.1,u) else kv):=by
 unfold KV at r⊢
 induction r with
 | nil=>exact .nil
 | @cons p q ps qs h t ih=>
  rw [Ol,Ol];refine .cons ?_ ih;obtain⟨h1,h2⟩:=h;by_cases e:p.1=k
  ·rw [VF e,VF (h1.symm.trans e)];exact⟨h1,ry⟩
  ·rw [VE e,VE (λz=>e (h1.trans z))];exact⟨h1,h2⟩
theorem KV.put{kvs:List (κ×V)}{vs:List (κ×VJ)}(r:KV kvs vs)(k:κ){y:V}{u:VJ}(ry:aO y u):KV (putK kvs k y) (stored vs k u):=by
 unfold putK stored;rw [r.any k];by_cases e:(vs.any λkv=>decide (kv.1=k))=true
 ·rw [VF e,VF e];exact r.repl k ry
 ·rw [VE e,VE e];exact Vu r ⟨rfl,ry⟩
theorem KV.keys{kvs:List (κ×V)}{vs:List (κ×VJ)}(r:KV kvs vs):kvs.map (·.1)=vs.map (·.1):=by
 unfold KV at r
 induction r with
 | nil=>rfl
 | cons h t ih=>rw [Ol,Ol,ih,h.1]
theorem KV.length{kvs:List (κ×V)}{vs:List (κ×VJ)}(r:KV kvs vs):kvs.length=vs.length:=Td r
end
theorem oR{P:VW}{w:VX}{k:au}{u:VJ}(r:aO (kV k) u):(dQ P w).is k u=true:=by
 cases k with
 | inl i=>obtain⟨t,e⟩:=(show ∃t,u=QF i t from r);subst e;exact E3 P w i t
 | inr x=>obtain⟨t,e⟩:=(show ∃t,u=RG x t from r);subst e;exact E4 P w x t
theorem Ar{P:VW}{w:VX}:∀{ks:List au}{us:List VJ},aP (ks.map kV) us->ItemsAre (dQ P w) ks us
 | [],_,r=>by rw [Pw] at r;cases r;exact .nil
 | k::ks,_,r=>by
  rw [Ol] at r;cases r with
  | cons h t=>exact .cons (oR h) (Ar t)
abbrev KT(H:Hp):List (List au×V)->List (List au×VM×VJ)->Prop:=Paired λp q=>p.1=q.1/\H q.2.1=some (.tup (p.1.map kV))/\aO p.2 q.2.2
theorem KT.val{H:Hp}{kvs:List (List au×V)}{xs:List (List au×VM×VJ)}(r:KT H kvs xs)(k:List au):dY (dW kvs k) ((atKey xs k).map (·.2)):=by
 induction r with
 | nil=>exact Qi
 | @cons p q ps qs h t ih=>
  obtain⟨h1,_,h2⟩:=h;by_cases e:p.1=k
  ·have e':q.1=k:=h1.symm.trans e;have b:atKey (q::qs) k=some q.2:=by simp [atKey,PJ,e']
   rw [sP e,b];exact h2
  ·have e':¬q.1=k:=λz=>e (h1.trans z);have b:atKey (q::qs) k=atKey qs k:=by simp [atKey,PJ,e']
   rw [qV e,b];exact ih
theorem KT.repl{H:Hp}{kvs:List (List au×V)}{xs:List (List au×VM×VJ)}(r:KT H kvs xs)(k:List au){y:V}{u:VJ}(ry:aO y u):
 KT H (kvs.map λkv=>if kv.1=k then(kv.1,y) else kv) (xs.map (putAt k u)):=by
 induction r with
 | nil=>exact .nil
 | @cons p q ps qs h t ih=>
  rw [Ol,Ol];refine .cons ?_ ih;obtain⟨h1,h2,h3⟩:=h;unfold putAt;by_cases e:p.1=k
  ·rw [VF e,VF (h1.symm.trans e)];exact⟨h1,h2,ry⟩
  ·rw [VE e,VE (λz=>e (h1.trans z))];exact⟨h1,h2,h3⟩
theorem KT.put{H:Hp}{kvs:List (List au×V)}{xs:List (List au×VM×VJ)}(r:KT H kvs xs)(k:List au){b:VM}{y:V}{u:VJ}(hb:H b=some (.tup (k.map kV)))(ry:aO y u):
 KT H (putK kvs k y) (storedH xs k b u):=by
 have e:(kvs.any λkv=>decide (kv.1=k))=(atKey xs k).isSome:=by
  rw [Ap,(r.val k).isSome_eq,SI]
 unfold putK storedH;rw [e];by_cases q:(atKey xs k).isSome=true
 ·rw [VF q,VF q];exact r.repl k ry
 ·rw [VE q,VE q];exact Vu r ⟨rfl,hb,ry⟩
theorem KT.keeps{H H':Hp}{kvs:List (List au×V)}{xs:List (List au×VM×VJ)}(r:KT H kvs xs)(ht:∀b ys,H b=some (.tup ys)->H' b=some (.tup ys)):KT H' kvs xs:=
 Paired.mapP r λ_ _ z=>⟨z.1,ht _ _ z.2.1,z.2.2⟩
section
variable {P:VW} {w:VX} {H:Hp} {h:VY} {a:VM}
theorem As{u:HO}(ok:bQ P w H h)(e:Rd H a u):cg P w H h a u:=e.ok ok
theorem j9{kvs:List (au×V)}(ok:bQ P w H h)(e:Rd H a (.dK kvs)):kvs.length<=VV/\(a==Wo)=false/\∃vs,KV kvs vs/\h.DictOf (dQ P w) a vs:=
 show cg P w H h a (.dK kvs) from As ok e
theorem HB{kvs:List (au×V)}(ok:bQ P w H h)(e:H a=some (.dK kvs)):kvs.length<=VV/\(a==Wo)=false/\∃vs,KV kvs vs/\h.DictOf (dQ P w) a vs:=j9 ok (.inl e)
theorem oT{ks:List au}(ok:bQ P w H h)(e:H a=some (.tup (ks.map kV))):(WX (dQ P w)).is h ks a:=by
 obtain⟨_,its,r,o,h1,h2,n,h3⟩:=(show cg P w H h a (.tup (ks.map kV)) from ok a _ e);exact⟨o,its.toArray,n,h1,h2,h3,by simpa using Ar r⟩
theorem mR{kvs:List (List au×V)}(ok:bQ P w H h)(e:Rd H a (.dT kvs)):kvs.length<=VV/\(a==Wo)=false/\
 ∃xs,KT H kvs xs/\h.DictOfH (WX (dQ P w)) a xs:=by
 obtain⟨z,y,xs,r,o,es,ep,h1,h2,h3,h4,h5⟩:=(show cg P w H h a (.dT kvs) from As ok e);refine⟨z,y,xs,r,o,es,ep,h1,h2,h3,h4,λx hx=>?_,h5⟩;have all:∀{l:List (List au×V)}{m:List (List au×VM×VJ)},KT H l m->∀x∈m,(WX (dQ P w)).is h x.1 x.2.1:=by
  intro l m q
  induction q with
  | nil=>intro x hx;exact nomatch hx
  | @cons p q ps qs hq t ih=>
   intro x hx;rcases Ox.mp hx with e | hx
   ·subst e;exact oT ok (by rw [<-hq.1];exact hq.2.1)
   ·exact ih x hx
 exact all r x hx
theorem HC{kvs:List (List au×V)}(ok:bQ P w H h)(e:H a=some (.dT kvs)):kvs.length<=VV/\(a==Wo)=false/\
 ∃xs,KT H kvs xs/\h.DictOfH (WX (dQ P w)) a xs:=mR ok (.inl e)
end
def cQ(H:Hp)(a:VM)(y:V)(r:Option V):Prop:=
 (∃kvs k,Rd H a (.dK kvs)/\y=kV k/\r=dW kvs k)\/∃kvs k b,Rd H a (.dT kvs)/\y= .ref b/\H b=some (.tup (k.map kV))/\r=dW kvs k
def oU(H:Hp)(a:VM)(y v:V)(H':Hp):Prop:=
 (∃kvs k,H a=some (.dK kvs)/\y=kV k/\kvs.length < VV/\H'=ai H a (.dK (putK kvs k v)))\/
 ∃kvs k b,H a=some (.dT kvs)/\y= .ref b/\H b=some (.tup (k.map kV))/\kvs.length < VV/\H'=ai H a (.dT (putK kvs k v))
theorem cQ.k{H:Hp}{a:VM}{kvs:List (au×V)}{k:au}(e:H a=some (.dK kvs)):cQ H a (kV k) (dW kvs k):= .inl ⟨kvs,k,.inl e,rfl,rfl⟩
theorem oU.k{H:Hp}{a:VM}{kvs:List (au×V)}{k:au}{v:V}(e:H a=some (.dK kvs))(hl:kvs.length < VV):oU H a (kV k) v (ai H a (.dK (putK kvs k v))):= .inl ⟨kvs,k,e,rfl,hl,rfl⟩
section
variable {X:Cx} {Xl:List (VM×Obj)} {σ:St} {H:Hp} {s:VN} {a:VM} {y v:V} {u r:VJ} {o:Option V} {A:V0} {E:VJ->VN->Prop}
theorem ah.big(I:ah X Xl σ H s):Wo < s.heap.objs.size:=by
 have h:VP < s.heap.objs.size:=(I.mod.glob.keeps I.bk).lt;exact Vm VC h
theorem HD{Q:VJ->VN->Prop}(hu:A.units+1 < Wa)(I:ah X Xl σ H s)(g:cQ H a y (some v))(ry:aO y u)(h:∀w' s',ah X Xl σ H s'->aO v w'->Q w' s'):
 VR (VS X.prog X.w) A (WL (.ref a) u) Q E s:=by
 rcases g with⟨kvs,k,e,ey,l⟩ | ⟨kvs,k,b,e,ey,eb,l⟩
 ·subst ey;obtain⟨z,hd,vs,rel,dd⟩:=j9 I.hok e;obtain⟨w',hw,rw'⟩:=dY.some_of (v:=v) (o:=valueAt vs k) (by rw [l];exact rel.val k);exact wpAny_getItem_of (oR ry) dd.mapOf hw (h w' _ (I.tok _) rw')
 ·subst ey;cases (show u=O9 b from ry);obtain⟨z,hd,xs,rel,dd⟩:=mR I.hok e;obtain⟨w',hw,rw'⟩:=dY.some_of (v:=v) (o:=(atKey xs k).map (·.2)) (by rw [l];exact rel.val k);obtain⟨p,hp,hp2⟩:=Ri.mp hw;refine wpAny_getItem_heap (Wr hu) (oT I.hok eb) dd hp ?_;rw [hp2];exact h w' _ (I.tok _) rw'
theorem HE{Q:VJ->VN->Prop}(hu:A.units+1 < Wa)(I:ah X Xl σ H s)(g:cQ H a y o)(ry:aO y u)(h:∀s',ah X Xl σ H s'->Q (.bool o.isSome) s'):
 VR (VS X.prog X.w) A (V6 .In u (.ref a)) Q E s:=by
 rcases g with⟨kvs,k,e,ey,l⟩ | ⟨kvs,k,b,e,ey,eb,l⟩
 ·subst ey;obtain⟨z,hd,vs,rel,dd⟩:=j9 I.hok e;refine wpAny_in_of (oR ry) hd dd.mapOf ?_;rw [<-(rel.val k).isSome_eq,<-l];exact h _ (I.tok _)
 ·subst ey;cases (show u=O9 b from ry);obtain⟨z,hd,xs,rel,dd⟩:=mR I.hok e;refine wpAny_in_heap (Wr hu) (oT I.hok eb) hd dd ?_;have q:=(rel.val k).isSome_eq;rw [SI] at q;rw [<-q,<-l];exact h _ (I.tok _)
theorem HF{Q:VJ->VN->Prop}(hu:A.units+1 < Wa)(I:ah X Xl σ H s)(g:cQ H a y o)(ry:aO y u)(h:∀s',ah X Xl σ H s'->Q (.bool (!o.isSome)) s'):
 VR (VS X.prog X.w) A (V6 .NotIn u (.ref a)) Q E s:=by
 rcases g with⟨kvs,k,e,ey,l⟩ | ⟨kvs,k,b,e,ey,eb,l⟩
 ·subst ey;obtain⟨z,hd,vs,rel,dd⟩:=j9 I.hok e;refine wpAny_notIn_of (oR ry) hd dd.mapOf ?_;rw [<-(rel.val k).isSome_eq,<-l];exact h _ (I.tok _)
 ·subst ey;cases (show u=O9 b from ry);obtain⟨z,hd,xs,rel,dd⟩:=mR I.hok e;refine wpAny_notIn_heap (Wr hu) (oT I.hok eb) hd dd ?_;have q:=(rel.val k).isSome_eq;rw [SI] at q;rw [<-q,<-l];exact h _ (I.tok _)
theorem Au{h':VY}{t':Nat}{ob:HO}(I:ah X Xl σ H s)(mu:se (H a))(hs:QX a s.heap h')(he:∃q,h'.get? a=some q)(new:cg X.prog X.w (ai H a ob) h' a ob):
 ah X Xl σ (ai H a ob) {s with heap:=h',toks:=t'}:=
 I.write (x:=a) (e:=a) mu (.inl rfl) (λb q hb z=>(hs.2 b hb).trans z) he new
theorem HG{P:VW}{w:VX}{H':Hp}{h':VY}{kvs:List (au×V)}{vs:List (au×VJ)}(z:kvs.length<=VV)(hd:(a==Wo)=false)(rel:KV kvs vs)(dd:h'.DictOf (dQ P w) a vs):
 cg P w H' h' a (.dK kvs):=⟨z,hd,vs,rel,dd⟩
theorem HH{H':Hp}{Q:Unit->VN->Prop}(hu:A.units+1 < Wa)(I:ah X Xl σ H s)(g:oU H a y v H')(ry:aO y u)(rv:aO v r)(h:∀s',ah X Xl σ H' s'->Q () s'):
 VR (VS X.prog X.w) A (setItem (.ref a) u r) Q E s:=by
 rcases g with⟨kvs,k,e,ey,l,eH⟩ | ⟨kvs,k,b,e,ey,eb,l,eH⟩
 ·subst ey eH;obtain⟨z,hd,vs,rel,dd⟩:=HB I.hok e;have hz:vs.length<=VV:=by rw [<-rel.length];exact z
  have hl:(putK kvs k v).length<=VV:=by have:=Aq kvs k v;omega
  refine wpAny_setItem_pairs (hsz:=hz) (oR ry) dd λh' dd' hs=>h _ ?_;have he:∃q,h'.get? a=some q:=let ⟨q,_,_,hq,_⟩:=dd';⟨q,hq⟩
  exact Au I (by rw [e];exact Qi) hs he (HG hl hd (rel.put k rv) dd')
 ·subst ey eH;cases (show u=O9 b from ry);obtain⟨z,hd,xs,rel,dd⟩:=HC I.hok e;have hz:xs.length<=VV:=by rw [<-Td rel];exact z
  have hl:(putK kvs k v).length<=VV:=by have:=Aq kvs k v;omega
  refine wpAny_setItem_heap (hsz:=hz) (Wr hu) (oT I.hok eb) dd λh' dd' hs=>h _ ?_;obtain⟨q,es,ep,hq,h2,h3,h4,_,h5⟩:=dd';refine Au I (by rw [e];exact Qi) hs ⟨q,hq⟩ ⟨hl,hd,_,(rel.put k eb rv).keeps λc ys ec=>?_,q,es,ep,hq,h2,h3,h4,h5⟩;rw [aC (E6 ec e (λz=>nomatch z))];exact ec
end
def uj(i:VT):Prop:=∀ov iv,Xc i false ov iv=operate [ov,iv] (WL ov iv)
theorem HI{prog:VW}{w:VX}{A:V0}{E:VJ->VN->Prop}{s:VN}{env:Env}{value slice:VT}{pos:Pos}{T id:String}{Q:VJ->VN->Prop}
 (hl:typeLookup (.type T) "__getitem__"=pure (some (.builtin id)))(hs:uj slice)
 (h:VR (VS prog w) A (eval value env) (λo s₁=>VR (VS prog w) A (eval slice env) (λi s₂=>s₂.TypeIs o T/\VR (VS prog w) A (WL o i) Q E s₂) E s₁) E s):
 VR (VS prog w) A (eval (.Subscript value slice pos) env) Q E s:=by
 refine Subscript_ (V8 h (λo s₁ h₁=>V8 h₁ (λi s₂ h₂=>?_) λ_ _ x=>x) λ_ _ x=>x);obtain⟨hT,h₂⟩:=h₂;unfold subscriptTail;refine VL ?_;rw [getitemInPython_of_ne hT.not_modules];refine VL (wpAny_specialOf hT hl ?_);have fin:VR (VS prog w) A (Xc slice false o i) (λr s₃=>VR (VS prog w) A (letTemporaryGo value o r >>=λ_=>pure r) Q E s₃) E s₂:=by
  rw [hs o i];exact wpAny_operating (V8 h₂ (λr s₃ h₃=>VL (wpAny_letTemporaryGo (VO h₃))) λ_ _ x=>x)
 first
  | exact VO (VL fin)
  | exact VL (VO (VL fin))
  | exact VL fin
theorem HJ{X:Cx}{Xl:List (VM×Obj)}{σ:St}{H:Hp}{s:VN}{a:VM}{y:V}{o:Option V}(I:ah X Xl σ H s)(g:cQ H a y o):s.TypeIs (.ref a) "dict":=by
 rcases g with⟨kvs,k,e,_,_⟩ | ⟨kvs,k,b,e,_,_,_⟩
 ·obtain⟨_,_,vs,_,dd⟩:=j9 I.hok e;exact dd.typeIs
 ·obtain⟨_,_,xs,_,dd⟩:=mR I.hok e;exact dd.typeIs
def HK(td ty:TE):TE:=λσ H Q=>td σ H λx H1=>ty σ H1 λy H2=>∃a v,x= .ref a/\cQ H2 a y (some v)/\Q v H2
def HL(ty td:TE):TE:=λσ H Q=>ty σ H λy H1=>td σ H1 λx H2=>∃a o,x= .ref a/\cQ H2 a y o/\Q (.bl o.isSome) H2
def HM(ty td:TE):TE:=λσ H Q=>ty σ H λy H1=>td σ H1 λx H2=>∃a o,x= .ref a/\cQ H2 a y o/\Q (.bl (!o.isSome)) H2
def Av(td ty tv:TE):TS:=λD σ H=>tv σ H λv H1=>td σ H1 λx H2=>ty σ H2 λy H3=>∃a H4,x= .ref a/\oU H3 a y v H4/\D.nx σ H4
section
variable {X:Cx} {o i e value:VT} {pos pos' tpos:Pos} {td ty tv:TE}
theorem Aw(hu:X.A.units+1 < Wa)(ho:PE X o td)(hi:PE X i ty)(hs:uj i):PE X (.Subscript o i pos) (HK td ty):=by
 intro Xl s σ H Q I h;refine HI PySem.F.slot_dict_getitem.lookup hs (aG (ho Xl s σ H _ I h) λu s1 ⟨x,H1,I1,rx,q1⟩=>aG (hi Xl s1 σ H1 _ I1 q1) λiv s2 ⟨y,H2,I2,ry,a,v,ex,g,q2⟩=>?_);subst ex;obtain rfl:u=O9 a:=rx;exact⟨HJ I2 g,HD hu I2 g ry λw' s3 I3 rw'=>⟨v,H2,I3,rw',q2⟩⟩
theorem HN(hu:X.A.units+1 < Wa)(hi:PE X i ty)(ho:PE X o td):PC X .In i o (HL ty td):=by
 intro Xl s σ H Q I h;refine aG (hi Xl s σ H _ I h) λiv s1 ⟨y,H1,I1,ry,q1⟩=>aG (ho Xl s1 σ H1 _ I1 q1) λu s2 ⟨x,H2,I2,rx,a,ov,ex,g,q2⟩=>?_;subst ex;obtain rfl:u=O9 a:=rx;exact HE hu I2 g ry λs3 I3=>⟨.bl ov.isSome,H2,I3,rfl,q2⟩
theorem Ax(hu:X.A.units+1 < Wa)(hi:PE X i ty)(ho:PE X o td):PC X .NotIn i o (HM ty td):=by
 intro Xl s σ H Q I h;refine aG (hi Xl s σ H _ I h) λiv s1 ⟨y,H1,I1,ry,q1⟩=>aG (ho Xl s1 σ H1 _ I1 q1) λu s2 ⟨x,H2,I2,rx,a,ov,ex,g,q2⟩=>?_;subst ex;obtain rfl:u=O9 a:=rx;exact HF hu I2 g ry λs3 I3=>⟨.bl (!ov.isSome),H2,I3,rfl,q2⟩
theorem v8(hu:X.A.units+1 < Wa)(ho:PE X o td)(hi:PE X i ty)(hv:PE X value tv)(hs:V5 value (some (.Subscript o i pos')) pos.line X.env=pure false):
 PS X (.Assign [.Subscript o i pos'] value pos) (Av td ty tv):=by
 intro Xl s σ H D I h;refine wpAny_Assign_Subscript (aG (hv Xl s σ H _ I h) λr s1 ⟨v,H1,I1,rv,q1⟩=>aG (ho Xl s1 σ H1 _ I1 q1) λu s2 ⟨x,H2,I2,rx,q2⟩=>aG (hi Xl s2 σ H2 _ I2 q2) λiv s3 ⟨y,H3,I3,ry,a,H4,ex,g,q3⟩=>?_) hs;subst ex;obtain rfl:u=O9 a:=rx;exact HH hu I3 g ry rv λs4 I4=>⟨σ,H4,I4,q3⟩
end
theorem Ay{P:VW}{w:VX}{H:Hp}(h:VY)(hb:Wo < h.objs.size):cg P w H (h.push {cls:= .type "dict",data:= .dict #[]}) h.objs.size (.dK []):=
 ⟨Pc _,beq_eq_false_iff_ne.mpr (Ne.symm (O6 hb)),[],.nil,Heap.DictOf.new h⟩
def HP:TE:=λ_ H Q=>∀p,H p=none->Q (.ref p) (ai H p (.dK []))
section
variable {X:Cx} {pos:Pos}
theorem HQ:PE X (.Dict [] [] pos) HP:=λXl s σ H Q I h=>
 wpAny_Dict_empty ⟨.ref s.heap.objs.size,_,I.laid (a:=s.heap.objs.size) (o:= .dK []) (t':=s.toks) (λ_ _ q=>Ou _ q) (Oi _) (Ay s.heap I.big),rfl,h _ (I.hok.fresh (Oi _))⟩
end
structure M1 (X:Cx) (o:VT) (m:Str) (apos:Pos) (e:VT) (cpos:Pos):Prop where
 base:Wh o m X.env (eval o X.env)=eval o X.env
 few:((V4 cpos (VQ [e] X.env)).all (λx=>!x.1) && (Wu cpos (Wj [] X.env)).all (λx=>x.1.isSome)
  && decide (([e]:List VT).length+([]:List WA).length+(if ([]:List WA).isEmpty then 0 else 1) < 30))=true
 line:(apos.endLine==cpos.line)=true
 trees:V4 cpos (VQ [e] X.env)=[(false,eval e X.env)]
structure M2 (X:Cx) (o:VT) (m:Str) (apos:Pos) (e f:VT) (cpos:Pos):Prop where
 base:Wh o m X.env (eval o X.env)=eval o X.env
 few:((V4 cpos (VQ [e,f] X.env)).all (λx=>!x.1) && (Wu cpos (Wj [] X.env)).all (λx=>x.1.isSome)
  && decide (([e,f]:List VT).length+([]:List WA).length+(if ([]:List WA).isEmpty then 0 else 1) < 30))=true
 line:(apos.endLine==cpos.line)=true
 trees:V4 cpos (VQ [e,f] X.env)=[(false,eval e X.env),(false,eval f X.env)]
def v9(H:Hp)(a:VM):Prop:=(∃kvs,Rd H a (.dK kvs))\/∃kvs,Rd H a (.dT kvs)
theorem Az{X:Cx}{Xl:List (VM×Obj)}{σ:St}{H:Hp}{s:VN}{a:VM}(I:ah X Xl σ H s)(d:v9 H a):
 s.TypeIs (.ref a) "dict"/\(∀b,O9 a= .ref b->∃ob,s.heap.get? b=some ob/\ob.dict=none)/\(a==Wo)=false:=by
 rcases d with⟨kvs,e⟩ | ⟨kvs,e⟩
 ·obtain⟨_,hd,vs,_,dd⟩:=j9 I.hok e;refine⟨dd.typeIs,λb q=>?_,hd⟩;cases q;obtain⟨ob,_,_,h1,h2,_⟩:=dd;exact⟨ob,h1,h2.2.1⟩
 ·obtain⟨_,hd,xs,_,dd⟩:=mR I.hok e;refine⟨dd.typeIs,λb q=>?_,hd⟩;cases q;obtain⟨ob,_,_,h1,h2,_⟩:=dd;exact⟨ob,h1,h2.2.1⟩
section
variable {X:Cx} {Xl:List (VM×Obj)} {σ:St} {H:Hp} {s:VN} {a:VM} {y d:V} {u r:VJ} {o:Option V} {A:V0} {E:VJ->VN->Prop}
theorem HR{Q:VJ->VN->Prop}(hu:A.units+1 < Wa)(I:ah X Xl σ H s)(g:cQ H a y o)(ry:aO y u)(h:∀w' s',ah X Xl σ H s'->aO (o.getD .non) w'->Q w' s'):
 VR (VS X.prog X.w) A (call (.builtin "dict.get") [.ref a,u]) Q E s:=by
 rcases g with⟨kvs,k,e,ey,l⟩ | ⟨kvs,k,b,e,ey,eb,l⟩
 ·subst ey;obtain⟨z,hd,vs,rel,dd⟩:=j9 I.hok e;refine call_meetsIn QR dd.typeIs RW (TM _ _) (meets_dict_get (dQ X.prog X.w) a (oR ry) hd) ⟨_,dd.mapOf,h _ _ (I.tok _) ?_⟩;rw [l];exact(rel.val k).getD rfl
 ·subst ey;cases (show u=O9 b from ry);obtain⟨z,hd,xs,rel,dd⟩:=mR I.hok e;refine call_meetsIn QR dd.typeIs RW (TM _ _) (meetsH_dict_get (WX (dQ X.prog X.w)) a b hd) ⟨Wr hu,k,xs,oT I.hok eb,dd,h _ _ (I.tok _) ?_⟩;rw [l];exact(rel.val k).getD rfl
theorem HS{Q:VJ->VN->Prop}(hu:A.units+1 < Wa)(I:ah X Xl σ H s)(g:cQ H a y o)(ry:aO y u)(rd:aO d r)(h:∀w' s',ah X Xl σ H s'->aO (o.getD d) w'->Q w' s'):
 VR (VS X.prog X.w) A (call (.builtin "dict.get") [.ref a,u,r]) Q E s:=by
 rcases g with⟨kvs,k,e,ey,l⟩ | ⟨kvs,k,b,e,ey,eb,l⟩
 ·subst ey;obtain⟨z,hd,vs,rel,dd⟩:=j9 I.hok e;refine call_meetsIn QR dd.typeIs RW (TN _ _ _) (meets_dict_get_default (dQ X.prog X.w) a (oR ry) hd r) ⟨_,dd.mapOf,h _ _ (I.tok _) ?_⟩;rw [l];exact(rel.val k).getD rd
 ·subst ey;cases (show u=O9 b from ry);obtain⟨z,hd,xs,rel,dd⟩:=mR I.hok e;refine call_meetsIn QR dd.typeIs RW (TN _ _ _) (meetsH_dict_get_default (WX (dQ X.prog X.w)) a b hd r) ⟨Wr hu,k,xs,oT I.hok eb,dd,h _ _ (I.tok _) ?_⟩;rw [l];exact(rel.val k).getD rd
end
def HU(td ty:TE):TE:=λσ H Q=>td σ H λx H1=>∃a,x= .ref a/\v9 H1 a/\ty σ H1 λy H2=>∃o,cQ H2 a y o/\Q (o.getD .non) H2
def HV(td ty tx:TE):TE:=λσ H Q=>td σ H λx H1=>∃a,x= .ref a/\v9 H1 a/\ty σ H1 λy H2=>tx σ H2 λz H3=>∃o,cQ H3 a y o/\Q (o.getD z) H3
section
variable {X:Cx} {o e f:VT} {apos cpos:Pos} {td ty tx:TE}
theorem AA(hu:X.A.units+1 < Wa)(ho:PE X o td)(he:PE X e ty)(m:M1 X o "get" apos e cpos):PE X (.Call (.Attribute o "get" apos) [e] [] cpos) (HU td ty):=by
 intro Xl s σ H Q I h;refine wpAny_Call_method m.base m.few m.line TQ QR T8 (aG (ho Xl s σ H _ I h) λu s1 ⟨x,H1,I1,rx,a,ex,d,q1⟩=>?_);subst ex;obtain rfl:u=O9 a:=rx;obtain⟨t1,t2,_⟩:=Az I1 d;refine⟨t1,t2,?_⟩;rw [m.trees];refine SJ rfl (SR (Sw (aG (he Xl s1 σ H1 _ I1 q1) λiv s2 ⟨y,H2,I2,ry,ov,g,q2⟩=>Tq ?_)));exact HR hu I2 g ry λw' s3 I3 rw'=>⟨_,H2,I3,rw',q2⟩
theorem HW(hu:X.A.units+1 < Wa)(ho:PE X o td)(he:PE X e ty)(hf:PE X f tx)(m:M2 X o "get" apos e f cpos):PE X (.Call (.Attribute o "get" apos) [e,f] [] cpos) (HV td ty tx):=by
 intro Xl s σ H Q I h;refine wpAny_Call_method m.base m.few m.line TQ QR T8 (aG (ho Xl s σ H _ I h) λu s1 ⟨x,H1,I1,rx,a,ex,d,q1⟩=>?_);subst ex;obtain rfl:u=O9 a:=rx;obtain⟨t1,t2,_⟩:=Az I1 d;refine⟨t1,t2,?_⟩;rw [m.trees];refine SJ rfl (SR (Sw (aG (he Xl s1 σ H1 _ I1 q1) λiv s2 ⟨y,H2,I2,ry,q2⟩=>
  Sw (aG (hf Xl s2 σ H2 _ I2 q2) λfv s3 ⟨z,H3,I3,rz,ov,g,q3⟩=>Tq ?_))))
 exact HS hu I3 g ry rz λw' s4 I4 rw'=>⟨_,H3,I4,rw',q3⟩
end
section
variable {X:Cx} {H0:Hp} {O0:Ex}
def litsOf:List VT->Option (List VI)
 | []=>some []
 | .Constant (.int i) _ _::r=>(litsOf r).map (.int i::·)
 | .Constant (.str x) _ _::r=>(litsOf r).map (.str x::·)
 | _::_=>none
def kc(ds:List VI):DA:=λ_ Q=>Q ds
theorem oV:∀{es:List VT}{ds:List VI},litsOf es=some ds->PA X es (gN X.K H0 O0 (kc ds))
 | [],ds,h=>by cases h;exact ao
 | e::r,ds,h=>by
  cases e with
  | Constant c j p=>
   cases c with
   | int i=>
    have h':(litsOf r).map (.int i::·)=some ds:=h;cases q:litsOf r with
    | none=>rw [q] at h';cases h'
    | some ms=>rw [q] at h';cases h';exact aa af (oV q)
   | str x=>
    have h':(litsOf r).map (.str x::·)=some ds:=h;cases q:litsOf r with
    | none=>rw [q] at h';cases h'
    | some ms=>rw [q] at h';cases h';exact aa bg (oV q)
   | _=>cases h
  | _=>cases h
def litsE:VT->Option (List VI)
 | .List es _=>litsOf es
 | _=>none
theorem wa{e:VT}{ds:List VI}(h:litsE e=some ds):FE X H0 O0 e (j3 (kc ds)):=by
 cases e with
 | List es p=>exact cn (oV h)
 | _=>cases h
theorem HX{e:VT}{ds:List VI}{x:Option VT}{n:Nat}{env:Env}(h:litsE e=some ds):V5 e x n env=pure false:=by
 cases e with
 | List es p=>rfl
 | _=>cases h
end
structure mS (n:Nat) (x:Str):Prop where
 ok:Om x=true
 le:x.length<=n
theorem sQ{x:Str}:Om x=true↔∀c∈x.cps.toList,c < 0x110000:=by
 unfold Om;rw [<-Array.all_toList,Q9];simp
theorem HY(x y:Str):(x++y).cps=x.cps++y.cps:=rfl
theorem AB(x y:Str):(x++y).length=x.length+y.length:=by
 show(x.cps++y.cps).size=_;rw [Array.size_append];rfl
theorem mS.append{a b:Nat}{x y:Str}(h:mS a x)(h':mS b y):mS (a+b) (x++y):=by
 refine⟨sQ.mpr λc hc=>?_,by rw [AB];have:=h.le;have:=h'.le;omega⟩;rw [HY,Array.toList_append] at hc;rcases ON.mp hc with z | z
 ·exact sQ.mp h.ok c z
 ·exact sQ.mp h'.ok c z
theorem mS.chr{c:Nat}(h:c < 0x110000):mS 1 ⟨#[c]⟩:=⟨sQ.mpr λd hd=>by
 have:d=c:=by simpa using hd
 rw [this];exact h,Oi _⟩
def qW:Str:="abcdefghijklmnopqrstuvwxyz"
theorem HZ:qW.cps.toList.length=26:=VB
theorem Ia:∀c∈qW.cps.toList,c < 0x110000:=VB
theorem AD{j:Int}(h0:0<=j)(h1:j < 26):∃c,atI qW.cps.toList j=some c/\qW.cps.toList[j.toNat]?=some c/\c < 0x110000:=by
 obtain⟨k,rfl⟩:=QD h0;have hk:k < qW.cps.toList.length:=by rw [HZ];omega
 refine⟨qW.cps.toList[k],fM (by simp [hk]),by simp [hk],Ia _ (Qr hk)⟩
structure cw (n:Nat) (d:VI):Prop where
 can:d.canLay0=true
 dep:d.depth<=n
theorem cw.shp{n:Nat}{d:VI}(h:cw n d)(hn:n<=64):QZ d=true:=by
 unfold QZ;rw [h.can,decide_eq_true (O7 h.dep hn)];rfl
theorem cw.mono{n m:Nat}{d:VI}(h:cw n d)(hn:n<=m):cw m d:=⟨h.can,O7 h.dep hn⟩
theorem ke{x:Str}(h:Om x=true):cw 1 (.str x):=⟨by simpa [Pr] using h,by simp [SU]⟩
theorem wb{i:Int}:cw 1 (.int i):=⟨by simp [Pr],by simp [SU]⟩
theorem Ib{i:Bool}:cw 1 (.bool i):=⟨by simp [Pr],by simp [SU]⟩
theorem uk{n:Nat}:∀{ds:List VI},(∀d∈ds,cw n d)->Qb ds=true/\Sq ds<=n
 | [],_=>⟨by simp [Qb],by simp [Sq]⟩
 | d::r,h=>by
  obtain⟨a,b⟩:=uk (ds:=r) λe he=>h e (by simp [he]);have c:=h d VH;refine⟨by rw [Qb,c.can,a];rfl,?_⟩;rw [Sq];exact Nat.max_le.mpr ⟨c.dep,b⟩
theorem gX{n:Nat}{ds:List VI}(h:∀d∈ds,cw n d):cw (n+1) (.tuple ds):=by
 obtain⟨a,b⟩:=uk h;refine⟨by simpa [Pr] using a,?_⟩;rw [SU];omega
def PU(X:Cx)(e:VT)(te:TE):Prop:=∀(i:Nat)(x:Str)(pos' spos:Pos)(hN:X.N.Nodup)(hxi:X.N[i]?=some x)(hx:gK X.env.scope x)(hsw:V5 e (some (.Name x pos')) spos.line X.env=pure true)
 (hfn:X.fn x=true\/X.env.scope.names.lookup x=some .local),PS X (.Assign [.Name x pos'] e spos) (sj te (iQ i))
theorem PU.imp{X:Cx}{e:VT}{t u:TE}(h:PU X e t)(i:∀σ H Q,u σ H Q->t σ H Q):PU X e u:=λi' x p1 p2 hN hxi hx hsw hfn=>(h i' x p1 p2 hN hxi hx hsw hfn).imp λD σ H z=>i σ H _ z
section
variable {X:Cx} {H0:Hp} {O0:Ex}
section
variable {tg iter elt:VT} {ifs:List VT} {scope:Wm} {N':List Str} {k:Nat} {fr:List Nat} {g:TG} {dg:DG} {t:DT} {ta:DA} {tc:DB} {te:DT} {pos p ps:Pos}
theorem wc{wi:TI}{tc:TT}{te:TE}(hc:X.calm=true)(S:bq X.env.scope X.N N' k fr scope)(hi:PI X tg iter wi)
 (hg:∀fp C s H,PG (bL X scope N' fp C s H) tg g)(hf:∀fp C s H,fx (bL X scope N' fp C s H) ifs tc)(he:∀fp C s H,PE (bL X scope N' fp C s H) elt te)
 (hs:∀x,V2 iter X.env x=pure x:=by intro _;rfl):PU X (.ListComp elt [⟨tg,iter,ifs,0⟩] scope pos) (lL wi g tc te k fr):=
 λ_ _ _ _ hN hxi hx hsw hfn=>GZ hN hxi hx hc S hi hg hf he hsw hs hfn
theorem we(hc:X.calm=true)(S:bq X.env.scope X.N N' k fr scope)(hi:DF X H0 O0 iter t)(gd:GD X.K g dg)(hk:j5 g k)(hfr:fr.Nodup)
 (hg:∀fp C s H,PG (bL X scope N' fp C s H) tg g)(hf:∀fp C s H,fx (bL X scope N' fp C s H) ifs (b5 X.K H0 O0 tc))(he:∀fp C s H,PE (bL X scope N' fp C s H) elt (up X.K H0 O0 te))
 (hs:∀x,V2 iter X.env x=pure x:=by intro _;rfl):PU X (.ListComp elt [⟨tg,iter,ifs,0⟩] scope pos) (qQ X.K H0 O0 (i4 t dg tc te k fr)):=
 (wc hc S (tK hi) hg hf he hs).imp λσ H Q uu62=>by obtain⟨O,δ,Qd,w,q,kk⟩:=uu62;exact⟨O,δ,_,w,q,λd v H1 uu63 s1 r1=>by
  obtain⟨xs,e,hz,q1⟩:=uu63;subst e;obtain⟨a,vs,rfl,hq,rr⟩:=r1.lst;refine⟨a,rfl,⟨_,hq⟩,λD hD=>qS (dn.list hq) gd hfr (λv _ H' R h=>hk fr σ v H' R h) (λ_ _ _ z=>z) (λ_ _ _ z=>z) (λD H' hD s' o e=>s' _ _ e (eG e hD)) rr (w.mono s1) (by rw [rr.length];exact hz) q1 (λds us p H' z s' hp r'=>kk ds us p H' z (s1.trans s') hp r') D hD⟩⟩
theorem AE(hc:X.calm=true){a:VT}(S:bq X.env.scope X.N N' k fr scope)(hgl:Gl X "range")(hm:X.mg "range"=none)(ha:PA X [a] (iq X.K H0 O0 ta))(gd:GD X.K g dg)(hk:j5 g k)(hfr:fr.Nodup)
 (hg:∀fp C s H,PG (bL X scope N' fp C s H) tg g)(hf:∀fp C s H,fx (bL X scope N' fp C s H) ifs (b5 X.K H0 O0 tc))(he:∀fp C s H,PE (bL X scope N' fp C s H) elt (up X.K H0 O0 te))
 (hst:VQ [a] X.env=[(false,eval a X.env)]:=by rfl)(hs:∀x,V2 (.Call (.Name "range" p) [a] [] ps) X.env x=pure x:=by intro _;rfl):
 PU X (.ListComp elt [⟨tg,(.Call (.Name "range" p) [a] [] ps),ifs,0⟩] scope pos) (qQ X.K H0 O0 (j6 ta dg tc te k fr)):=
 (wc hc S (vC hgl hm ha hst) hg hf he hs).imp λσ H Q uu64=>by obtain⟨O,δ,Qd,w,q,kk⟩:=uu64;exact⟨O,δ,_,w,q,λds vs H1 uu65 s1 r1=>by
  obtain⟨j,e,b1,b2,q1⟩:=uu65;subst e;cases r1 with
  | cons r1 r2=>
   cases r2;cases r1.int;have hb:(VV:Int) < 2 ^ 62:=VC
   exact⟨j,rfl,b1,VD,λD hD=>qS (P:=λ_=>True) dn.rng gd hfr (λv _ H' R h=>hk fr σ v H' R h) (λ_ _ _ z=>z) (λ_ _ _ z=>z) (λ_ _ _ _=>trivial) (ak.rng _) (w.mono s1) (by rw [Oe,RZ];omega) q1 (λds us p H' z s' hp r'=>kk ds us p H' z (s1.trans s') hp r') D hD⟩⟩
end
theorem i9{i:Nat}{x:Str}{e:VT}{t:DA}{pos pos':Pos}(hN:X.N.Nodup)(hi:X.N[i]?=some x)(hx:gK X.env.scope x)(he:PU X e (qQ X.K H0 O0 t))(hs:V5 e (some (.Name x pos')) pos.line X.env=pure true:=by rfl)(hf:X.fn x=true\/X.env.scope.names.lookup x=some .local:=by first | exact .inl rfl | exact .inr rfl | assumption):
 PS X (.Assign [.Name x pos'] e pos) (bz X.K H0 O0 (iW i (dL t))):=
 (he _ _ _ _ hN hi hx hs hf).imp λD σ H ⟨O,δ,E,w,q,k1,k2,k3,k4⟩=>⟨O,δ,_,w,q,λds vs p H1 q1 s1 hp r1=>
  k1 O _ _ _ q1 ((w.mono (s1.trans (aw.new hp))).set (.lst (.inl bA) (t8 w s1 hp) (r1.mono (aw.new hp)))) (.same (s1.trans (aw.new hp)))⟩
def wg(K:Og)(neg:Bool):R2:=λx y H Q=>∃O dx ds dy,Sh K H O x dx/\Sh K H O y dy/\(dy= .list ds\/dy= .tuple ds)/\cM dx/\Qb ds=true/\Q (.bl (if neg then !(ds.any λd=>OP d dx) else ds.any λd=>OP d dx)) H
theorem um{A:V0}{k:Nat}{xs:List VI}{d:VI}(hd:cM d)(hr:bw k A):A.units+1+min (Sq xs) d.depth < Wa:=by
 have:=SeqAt.depth_of_shaped hd;have h1:min (Sq xs) d.depth<=d.depth:=TC _ _;have:=hr.un;omega
theorem AF{k:Nat}(hr:bw k X.A):bU X (V6 .In) (wg X.K false):=by
 intro Xl s σ H x y v u Q I rx ry h;obtain⟨O,dx,ds,dy,hx,hy,e,sx,sy,q⟩:=h;obtain⟨as,ra⟩:=ig I hx.all (PV sx) rx;rcases e with e | e <;> subst e
 ·obtain⟨bs,rb⟩:=ig I hy.all (by simpa [Pr] using sy) ry;exact SeqAt.in_list_reads rb ra sy (PV sx) (um sx hr) (bK I q rfl)
 ·obtain⟨bs,rb⟩:=ig I hy.all (by simpa [Pr] using sy) ry;exact SeqAt.in_tuple_reads rb ra sy (PV sx) (um sx hr) (bK I q rfl)
theorem Ic{k:Nat}(hr:bw k X.A):bU X (V6 .NotIn) (wg X.K true):=by
 intro Xl s σ H x y v u Q I rx ry h;obtain⟨O,dx,ds,dy,hx,hy,e,sx,sy,q⟩:=h;obtain⟨as,ra⟩:=ig I hx.all (PV sx) rx;rcases e with e | e <;> subst e
 ·obtain⟨bs,rb⟩:=ig I hy.all (by simpa [Pr] using sy) ry;exact SeqAt.notIn_list_reads rb ra sy (PV sx) (um sx hr) (bK I q rfl)
 ·obtain⟨bs,rb⟩:=ig I hy.all (by simpa [Pr] using sy) ry;exact SeqAt.notIn_tuple_reads rb ra sy (PV sx) (um sx hr) (bK I q rfl)
def mT(neg:Bool):VI->VI->(VI->Prop)->Prop:=λx y Q=>∃ds,(y= .list ds\/y= .tuple ds)/\cM x/\Qb ds=true/\Q (.bool (if neg then !(ds.any λd=>OP d x) else ds.any λd=>OP d x))
theorem wj{K:Og}{neg:Bool}:cN K (wg K neg) (mT neg):=λH O x y dx dy Qd R _ hx hy uu67 k=>by obtain⟨ds,e,a,b,q⟩:=uu67;exact⟨O,dx,ds,dy,hx,hy,e,a,b,k _ _ H q (aw.refl _) (.bl _)⟩
theorem Ie{prog:VW}{w:VX}{A:V0}{E:VJ->VN->Prop}{s:VN}{t sl:VM}{items:Array VJ}{vl vu:VJ}{lo hi:Option Int}{Q:VJ->VN->Prop}(ht:IsTup s.heap t items)(hs:s.heap.IsSliceOf sl vl vu .none)(pl:IsPart vl lo)(pu:IsPart vu hi)
 (hw:HT.sIx items.size 0 lo=0/\HT.sIx items.size items.size hi=items.size)(h:Q (.ref t) s):VR (VS prog w) A (WL (.ref t) (.ref sl)) Q E s:=by
 obtain⟨os,hos,hcs,hds⟩:=id hs;have hTs:s.TypeIs (.ref sl) "slice":=⟨os,hos,hcs⟩;unfold WL
 try with_reducible refine We ?_
 first | refine VL (VO ?_) | skip
 refine VL (wpAny_sequenceKey ht.typeIs VC ?_);refine VL (Wi (name:=Od "__getitem__") ht.typeIs QU
  (Wb QU ht.typeIs PyProof.Rows.entry_tuple_getitem ?_ (PyProof.Rows.args_tuple_getitem _ _)))
 show VR _ _ (Tg (.ref t) >>=_) _ _ s;refine VL (tupleItemsOf_ ht ?_);refine VL (W5 hTs ?_);rw [VF VC];refine VL (HT.sliceApplied_gen hs pl pu ?_);show VR _ _ (if (((HT.sIx items.size 0 lo:Nat):Int)==0 && (1:Int)==1 && (HT.sIx items.size items.size hi - HT.sIx items.size 0 lo)==items.size)=true then _ else _) _ _ s;rw [VF (by rw [hw.1,hw.2];simp)];unfold Builtin.Tuple.tupleIsExact;refine VL (VL (W5 ht.typeIs (VO ?_)));rw [VF VC];exact VL (wpAny_rule (VO ⟨_,rfl,VO h⟩))
def Ig(K:Og):V->Option Int->Option Int->Hp->VK->Prop:=λx lo hi H Q=>∃a xs,x= .ref a/\bC K H a xs/\
 ((HT.sIx xs.length 0 lo=0/\HT.sIx xs.length xs.length hi=xs.length)->Q x H)/\(¬(HT.sIx xs.length 0 lo=0/\HT.sIx xs.length xs.length hi=xs.length)->∀p,H p=none->Q (.ref p) (ai H p (.tup (jX xs lo hi))))
theorem Ih:tV X (Ig X.K):=by
 intro Xl s σ H x v vl vu lo hi sl Q I rx hs pl pu h;obtain⟨a,xs,rfl,hx,q1,q2⟩:=h;by_cases hw:HT.sIx xs.length 0 lo=0/\HT.sIx xs.length xs.length hi=xs.length
 ·cases rx;obtain⟨its,r,ht,hz⟩:=I.tuple hx;have hlen:its.toArray.size=xs.length:=by rw [OH];exact r.length.symm
  refine⟨"tuple",_,QU.lookup,ht.typeIs,?_⟩;exact Ie ht hs pl pu (by rw [hlen];exact hw) ⟨.ref a,H,I,rfl,q1 hw⟩
 ·exact Gw Xl s σ H _ v vl vu lo hi sl Q I rx hs pl pu ⟨a,xs,rfl,hx,hw,q2 hw⟩
theorem Ii{xs:List VI}{l u:Option Int}(h:HT.sIx xs.length 0 l=0/\HT.sIx xs.length xs.length u=xs.length):d6 xs l u=xs:=by
 unfold d6;rw [h.1,h.2];simp
def mU(t:DT)(tl th:DO):DT:=λδ Q=>t δ λd=>tl δ λl=>th δ λu=>∃xs,d= .tuple xs/\Q (.tuple (d6 xs l u))
theorem uo{e:VT}{lo hi:Option VT}{t:DT}{tl th:DO}{pos p2:Pos}(h:DF X H0 O0 e t)(hl:PO X lo (mD X.K H0 O0 tl))(hu:PO X hi (mD X.K H0 O0 th)):DE X H0 O0 (.Subscript e (.Slice lo hi none p2) pos) (mU t tl th):=
 (vM Ih h hl hu).imp λσ H Q ⟨O,δ,Qd,w,q,k⟩=>⟨O,δ,_,w,q,λd v H1 q1 s1 r1=>⟨O,δ,_,w.mono s1,q1,λl H2 q2 s2=>⟨O,δ,_,w.mono (s1.trans s2),q2,λu H3 uu69 s3=>by
  obtain⟨xs,e,q3⟩:=uu69;subst e;have r3:=r1.mono (s2.trans s3);have r4:=r3;obtain⟨a,vs,rfl,h1,d1⟩:=r4.tup;refine⟨a,vs,rfl,h1,λhw=>?_,λ_ p hp=>k _ _ _ q3 (s1.trans (s2.trans (s3.trans (aw.new hp)))) (.tup (.inl bA) (t8 w (s1.trans (s2.trans s3)) hp) ((d1.cut l u).mono (aw.new hp)))⟩;rw [d1.length] at hw;rw [Ii hw] at q3;cases r3 with
  | dt r3=>exact k _ _ _ q3 (s1.trans (s2.trans s3)) r3⟩⟩⟩
def dJ(a b:Str):Bool:=decide (a.cps.toList<=b.cps.toList)
def fi(l:List Str):List Str:=l.mergeSort dJ
theorem AG(a b c:Str)(h:dJ a b=true)(h':dJ b c=true):dJ a c=true:=
 decide_eq_true (List.le_trans (of_decide_eq_true h) (of_decide_eq_true h'))
theorem Ij(a b:Str):(dJ a b || dJ b a)=true:=by
 rcases List.le_total a.cps.toList b.cps.toList with h | h
 ·unfold dJ;rw [decide_eq_true h];rfl
 ·unfold dJ;rw [decide_eq_true h,Bool.or_true]
theorem AH{a b:Str}(h:a.cps.toList=b.cps.toList):a=b:=by
 cases a;cases b;congr 1;exact Array.ext' h
theorem wk{a b:Str}(h:dJ a b=true)(h':dJ b a=true):a=b:=AH (UW (of_decide_eq_true h) (of_decide_eq_true h'))
theorem kg(l:List Str):(fi l).Perm l:=List.mergeSort_perm l dJ
theorem AI(l:List Str):(fi l).Pairwise λa b=>dJ a b=true:=List.pairwise_mergeSort AG Ij l
theorem AJ{l m:List Str}(h:m.Perm l)(p:m.Pairwise λa b=>dJ a b=true):m=fi l:=
 List.Perm.eq_of_pairwise (λa b _ _ x y=>wk x y) p (AI l) (h.trans (kg l).symm)
theorem AK:∀(p:Str)(l:List Str),risingS p l=true->(p::l).Pairwise λa b=>dJ a b=true
 | p,[],_=>by simp
 | p,x::r,h=>by
  rw [risingS,Pz,Qc,ltCps_eq,decide_eq_false_iff_not] at h;have h1:dJ p x=true:=decide_eq_true (US.mp h.1);have h2:=AK x r h.2;rw [P5];refine⟨λy hy=>?_,h2⟩;rcases Ox.mp hy with z | z
  ·rw [z];exact h1
  ·exact AG p x y h1 ((P5.mp h2).1 y z)
theorem AL:∀(l:List Str),sortedS l=true->l.Pairwise λa b=>dJ a b=true
 | [],_=>.nil
 | x::r,h=>AK x r h
theorem AM:∀{ys:List Str}{us:List VJ},aP (ys.map V.str) us->StrsAre us ys:=by
 intro ys
 induction ys with
 | nil=>intro us rv;cases rv;exact .nil
 | cons y ys ih=>
  intro us rv;rw [Ol] at rv;cases rv with
  | cons r1 r2=>obtain⟨t,rfl⟩:=r1;exact .cons y t (ih r2)
theorem wm:∀{ys:List Str}{us:List VJ},StrsAre us ys->aP (ys.map V.str) us
 | _,_,.nil=>.nil
 | _,_,.cons y t r=>.cons ⟨t,rfl⟩ (wm r)
theorem Ik:dZ X (.builtin "sorted") (λxs H Q=>∃p ss,xs=[.ref p]/\bu X.K H p (ss.map V.str)/\ss.length < 64/\∀l,H l=none->Q (.ref l) (ai H l (.lst ((fi ss).map V.str)))):=by
 intro Xl s σ H xs us Q I r h;obtain⟨p,ss,rfl,hq,h64,q⟩:=h;obtain⟨u,rfl,rx⟩:=fu r;cases rx;obtain⟨its,rv,pl,hz⟩:=I.list hq;have hlen:=rv.length;rw [Oe] at hlen;refine sorted_strs pl.isList (AM rv) VD λout ss' a1 a2 a3=>?_;obtain⟨e,he⟩:=sortedAll_at s.heap its out;have es:ss'=fi ss:=AJ a2 (AL _ a3);subst es;have hl2:(fi ss).length=ss.length:=a2.length_eq;refine⟨.ref _,_,I.laid (t':=s.toks) (o:= .lst ((fi ss).map V.str)) (λb ob q=>sortedAll_old q) (Qj _) ?_,rfl,q _ (I.hok.fresh (Qj _))⟩;refine⟨by rw [Oe,hl2];exact O7 (Rj h64) VC,out.toList,e,wm a1,?_⟩;rw [he]
theorem ak.strs{K:Og}{H:Hp}{O:Ex}:∀{ss:List Str}{vs:List V},ak K H O vs (ss.map Oj)->vs=ss.map V.str
 | [],_,r=>by rw [Pw] at r;cases r;rfl
 | b::bs,_,r=>by
  rw [Ol] at r;cases r with
  | cons h r=>cases h;rw [Ol,ak.strs r]
theorem ak.ofStrs{K:Og}{H:Hp}{O:Ex}:∀(ss:List Str),ak K H O (ss.map V.str) (ss.map Oj)
 | []=>.nil
 | s::r=>.cons (.str s) (ak.ofStrs r)
def mV(t:DA):DA:=λδ Q=>t δ λds=>∃ss:List Str,ds=[.list (ss.map .str)]/\ss.length < 64/\Q ((fi ss).map .str)
theorem Il{a:VT}{t:DA}{np p:Pos}(hg:Gl X "sorted")(hm:X.mg "sorted"=none)(hv:V1 "sorted"=some (.builtin "sorted"))(ha:PA X [a] (iq X.K H0 O0 t))(he:VQ [a] X.env=(false,eval a X.env)::VQ [] X.env:=by rfl)(hpl:(V4 p (VQ [] X.env)).any (·.1)=false:=by rfl):FE X H0 O0 (.Call (.Name "sorted" np) [a] [] p) (mV t):=
 (bV Ik hg hm hv ha (he:=he) (hpl:=hpl)).imp λσ H Q uu70=>by obtain⟨O,δ,Qd,w,q,k⟩:=uu70;exact⟨O,δ,_,w,q,λds vs H1 uu71 s1 r1=>by
  obtain⟨ss,e,h64,q1⟩:=uu71;subst e;cases r1 with
  | cons h r=>
   cases r;obtain⟨a,us,rfl,h1,d1⟩:=h.lst;cases d1.strs;exact⟨a,ss,rfl,h1,h64,λl hl=>k _ _ _ _ q1 s1 hl (ak.ofStrs _)⟩⟩
end
end L2
namespace PySem.SeqAt
open AutoSeq1 (wpAny_loadPart')
open MeetsSeq
theorem AN(l:VM)(es:Array Xe)(n:Nat)(dd:Option VM)(sl:Array (Option VJ))(b:Str)(u:Tok):
 Meets (Builtin.«dict.__eq__» ⟨[.ref l,.str b u],[]⟩) (λ_ R s=>s.heap.get? l=some {cls:= .type "dict",dict:=dd,data:= .dict es n,slots:=sl}/\R (.ok (.ret .notImplemented)) s):=
 .of_wp λprog w A R s h=>by obtain⟨hp,g,d,tk,os⟩:=s;obtain⟨hl,h⟩:=h;have f1:=F.sub_str_dict;wp_walk using Wk hl;exact⟨_,rfl,h⟩
theorem AO(b:Str)(u:Tok)(l:VM)(c:VJ)(es:Array Xe)(n:Nat)(dd:Option VM)(sl:Array (Option VJ)):
 Meets (Builtin.«str.__eq__» ⟨[.str b u,.ref l],[]⟩) (λ_ R s=>s.heap.get? l=some {cls:=c,dict:=dd,data:= .dict es n,slots:=sl}/\R (.ok (.ret .notImplemented)) s):=
 .of_wp λprog w A R s h=>by obtain⟨hp,g,d,tk,os⟩:=s;obtain⟨hl,h⟩:=h;wp_walk using Wk hl,wpAny_load hl;exact⟨_,rfl,h⟩
section
variable {A:V0} {s:VN}
theorem RcAt.dict_str{l:VM}{es:Array Xe}{n:Nat}{o:Obj}(b:Str)(u:Tok)(ho:s.heap.get? l=some o)(hc:o.cls= .type "dict")(hd:o.data= .dict es n)(hu:A.units < Wa):RcAt A s (.ref l) (.str b u) false:=λprog w E Q h=>by
 obtain⟨cls,dd,data,sl⟩:=o;simp only at hc hd;subst hc hd;exact rc_eq_decline_or (k:=false) ⟨_,ho,rfl⟩ (W6 s b u) VC F.sub_str_dict F.slot_dict_eq F.slot_str_eq_refl
  (λ_ hq=>WB F.slot_dict_eq ⟨_,ho,rfl⟩ F.entry_dict_eq (F.args_dict_eq_2 _ _) (AN l es n dd sl b u) ⟨ho,hq⟩)
  (λ_ hq=>WB F.slot_str_eq_refl (W6 s b u) F.entry_str_eq (F.args_str_eq_2 _ _) (AO b u l (.type "dict") es n dd sl) ⟨ho,hq⟩)
  (λ_ hq=>Xd (rfl:isSame (.ref l) (.str b u)=pure false) hq) (.inr hu) h
theorem RcAt.str_dict{l:VM}{es:Array Xe}{n:Nat}{o:Obj}(b:Str)(u:Tok)(ho:s.heap.get? l=some o)(hc:o.cls= .type "dict")(hd:o.data= .dict es n)(hu:A.units < Wa):RcAt A s (.str b u) (.ref l) false:=λprog w E Q h=>by
 obtain⟨cls,dd,data,sl⟩:=o;simp only at hc hd;subst hc hd;exact rc_eq_decline_or (k:=false) (W6 s b u) ⟨_,ho,rfl⟩ VC F.sub_dict_str F.slot_str_eq F.slot_dict_eq_refl
  (λ_ hq=>WB F.slot_str_eq (W6 s b u) F.entry_str_eq (F.args_str_eq_2 _ _) (AO b u l (.type "dict") es n dd sl) ⟨ho,hq⟩)
  (λ_ hq=>WB F.slot_dict_eq_refl ⟨_,ho,rfl⟩ F.entry_dict_eq (F.args_dict_eq_2 _ _) (AN l es n dd sl b u) ⟨ho,hq⟩)
  (λ_ hq=>Xd (rfl:isSame (.str b u) (.ref l)=pure false) hq) (.inr hu) h
theorem EqAt.str_dict{l:VM}{es:Array Xe}{n:Nat}{o:Obj}(b:Str)(u:Tok)(ho:s.heap.get? l=some o)(hc:o.cls= .type "dict")(hd:o.data= .dict es n)(hu:A.units < Wa):EqAt A s (.str b u) (.ref l) false:=λprog w E Q h=>by
 unfold eqBool;refine We ?_;refine W7 (λhab=>absurd (eq_of_beq hab) nofun) (λ_=>?_);exact VL (RcAt.str_dict b u ho hc hd hu prog w E _ (Wc h))
end
end PySem.SeqAt
namespace L2
open PySem PySem.Spec PyProof.Rows PySem.W
section
variable {X:Cx} {Xl:List (VM×Obj)} {σ:St} {H:Hp} {s:VN}
def dM:VI->Bool
 | .dict [(.none,_)]=>false
 | _=>true
theorem Im(I:ah X Xl σ H s){O:Ex}{v:V}{d:VI}{u:VJ}(h:Dt X.K H O v d)(ht:dM d=true)(r:aO v u)(y:Str)(t:Tok)(hu:X.A.units < Wa):SeqAt.RcAt X.A s u (.str y t) (OP d (.str y)):=by
 cases h with
 | non=>cases (show u=QI from r);simpa [OP] using SeqAt.RcAt.none_str y t
 | bl b=>cases (show u=Rf b from r);simpa [OP] using SeqAt.RcAt.bool_str b y t
 | int i=>obtain⟨k,e⟩:=(show ∃t,u=QF i t from r);cases e;simpa [OP] using SeqAt.RcAt.int_str i k y t
 | str x=>obtain⟨k,e⟩:=(show ∃t,u=RG x t from r);cases e;simpa [OP] using SeqAt.RcAt.str_str x k y t
 | @tup a xs ds h n rr=>
  cases (show u=O9 a from r);obtain⟨its,rv,p,_⟩:=I.tuple (.inl h);simpa [OP] using Ue y t (show s.heap.IsTuple a its.toArray from p) hu
 | @tupK a xs ds h rr=>
  cases (show u=O9 a from r);obtain⟨its,rv,p,_⟩:=I.tuple h.of0;simpa [OP] using Ue y t (show s.heap.IsTuple a its.toArray from p) hu
 | @lst a xs ds h n rr=>
  cases (show u=O9 a from r);obtain⟨its,rv,p,_⟩:=I.list (.inl h);simpa [OP] using SeqAt.RcAt.list_str y t p.isList hu
 | pack h n=>exact absurd ht (by simp [dM])
 | purse h n=>exact absurd ht (by simp [dM])
 | scr h r=>exact absurd ht (by simp [dM])
 | obj h e n r=>exact absurd ht (by simp [dM])
 | @dct0 a h n=>
  cases (show u=O9 a from r);obtain⟨_,_,_,_,o,es,ep,e,c,dd,_⟩:=(show cg X.prog X.w H s.heap a (.dK []) from I.hok a _ h);simpa [OP] using SeqAt.RcAt.dict_str y t e c.1 dd hu
 | @dic a ob kv ks kp ds h e1 e2 n rr=>
  cases (show u=O9 a from r);obtain⟨_,_,_,_,o,es,ep,e,c,dd,_⟩:=(show cg X.prog X.w H s.heap a (.dK kv) from(I.hok a _ h).2);simpa [OP] using SeqAt.RcAt.dict_str y t e c.1 dd hu
theorem Io(I:ah X Xl σ H s){A:V0}{O:Ex}{v:V}{d:VI}{u:VJ}(h:Dt X.K H O v d)(ht:dM d=true)(r:aO v u)(y:Str)(t:Tok)(hu:A.units < Wa):SeqAt.EqAt A s (.str y t) u (OP (.str y) d):=by
 cases h with
 | non=>cases (show u=QI from r);simpa [OP] using SeqAt.EqAt.str_none y t
 | bl b=>cases (show u=Rf b from r);simpa [OP] using SeqAt.EqAt.str_bool y t b
 | int i=>obtain⟨k,e⟩:=(show ∃t,u=QF i t from r);cases e;simpa [OP] using Ur y t i k
 | str x=>obtain⟨k,e⟩:=(show ∃t,u=RG x t from r);cases e;simpa [OP] using SeqAt.EqAt.str_str y t x k
 | @tup a xs ds h n rr=>
  cases (show u=O9 a from r);obtain⟨its,rv,p,_⟩:=I.tuple (.inl h);simpa [OP] using Ug y t (show s.heap.IsTuple a its.toArray from p) hu
 | @tupK a xs ds h rr=>
  cases (show u=O9 a from r);obtain⟨its,rv,p,_⟩:=I.tuple h.of0;simpa [OP] using Ug y t (show s.heap.IsTuple a its.toArray from p) hu
 | @lst a xs ds h n rr=>
  cases (show u=O9 a from r);obtain⟨its,rv,p,_⟩:=I.list (.inl h);simpa [OP] using SeqAt.EqAt.str_list y t p.isList hu
 | pack h n=>exact absurd ht (by simp [dM])
 | purse h n=>exact absurd ht (by simp [dM])
 | scr h r=>exact absurd ht (by simp [dM])
 | obj h e n r=>exact absurd ht (by simp [dM])
 | @dct0 a h n=>
  cases (show u=O9 a from r);obtain⟨_,_,_,_,o,es,ep,e,c,dd,_⟩:=(show cg X.prog X.w H s.heap a (.dK []) from I.hok a _ h);simpa [OP] using SeqAt.EqAt.str_dict y t e c.1 dd hu
 | @dic a ob kv ks kp ds h e1 e2 n rr=>
  cases (show u=O9 a from r);obtain⟨_,_,_,_,o,es,ep,e,c,dd,_⟩:=(show cg X.prog X.w H s.heap a (.dK kv) from(I.hok a _ h).2);simpa [OP] using SeqAt.EqAt.str_dict y t e c.1 dd hu
end
section
variable {X:Cx} {H0:Hp} {O0:Ex}
def AQ(K:Og):R2:=λx y H Q=>∃O dx z,Dt K H O x dx/\dM dx=true/\y= .str z/\Q (.bl (OP dx (.str z))) H
theorem cD{k:Nat}(hr:bw k X.A):bU X (V6 .Eq) (AQ X.K):=by
 intro Xl s σ H x y v u Q I rx ry h;obtain⟨O,dx,z,hx,ht,rfl,q⟩:=h;obtain⟨t,rfl⟩:=ry;have hc:V6 .Eq v (.str z t)=richCompare .Eq v (.str z t):=rfl;rw [hc];exact Im I hx ht rx z t hr.units0 X.prog X.w X.xe _ (bK I q rfl)
def gY:VI->VI->(VI->Prop)->Prop:=λx y Q=>∃z,y= .str z/\dM x=true/\Q (.bool (OP x (.str z)))
theorem cE{K:Og}:cN K (AQ K) gY:=λH O x y dx dy Qd R _ hx hy uu72 k=>by
 obtain⟨z,e,ht,q⟩:=uu72;subst e;cases hy.str;exact⟨_,dx,z,hx.all,ht,rfl,k _ _ H q (aw.refl _) (.bl _)⟩
theorem Ip(dx:VI){its:List VJ}{zs:List Str}(hS:StrsAre its zs):its.any (λy=>OP (.str (strOf y)) dx)=zs.any λz=>OP (.str z) dx:=by
 induction hS with
 | nil=>rfl
 | cons y t r ih=>rw [PQ,PQ,ih];rfl
def AR(K:Og):R2:=λx y H Q=>∃(O:Ex)(dx:VI)(zs:List Str)(a:VM),Dt K H O x dx/\dM dx=true/\y= .ref a/\bC K H a (zs.map V.str)/\Q (.bl (zs.any λz=>OP (.str z) dx)) H
theorem qX{k:Nat}(hr:bw k X.A):bU X (V6 .In) (AR X.K):=by
 intro Xl s σ H x y v u Q I rx ry h;obtain⟨O,dx,zs,a,hx,ht,rfl,ha,q⟩:=h;cases ry;obtain⟨its,rv,p,_⟩:=I.tuple ha;have hS:=AM rv;have hl:=Ip dx hS;refine SeqAt.in_tupleAt (λy=>OP (.str (strOf y)) dx) (show s.heap.IsTuple a its.toArray from p) (λy hy=>?_) (by rw [List.any_toArray,hl];exact bK I q rfl);obtain⟨z,t,rfl⟩:=hS.all y (by simpa using hy);exact Io I hx ht rx z t (by show X.A.units+1 < Wa;have:=hr.un;omega)
def mW:VI->VI->(VI->Prop)->Prop:=λx y Q=>∃zs:List Str,y= .tuple (zs.map .str)/\dM x=true/\Q (.bool (zs.any λz=>OP (.str z) x))
theorem qY{K:Og}:cN K (AR K) mW:=λH O x y dx dy Qd R _ hx hy uu73 k=>by
 obtain⟨zs,e,ht,q⟩:=uu73;subst e;obtain⟨a,vs,rfl,hs,r⟩:=hy.tup;cases r.strs;exact⟨_,dx,zs,a,hx.all,ht,rfl,hs,k _ _ H q (aw.refl _) (.bl _)⟩
end
def AS:VI->Bool | .str _=>true | _=>false
def AU:VI->Bool | .int _=>true | .bool _=>true | _=>false
def AV:VI->Bool | .bool _=>true | _=>false
def wq:VI->Bool | .tuple _=>true | _=>false
theorem Iq{K:Og}(d:VI):kitOne K (.type (qT d)) (.type "str")=some (AS d):=by cases d <;> rfl
theorem Ir{K:Og}(d:VI):kitOne K (.type (qT d)) (.type "int")=some (AU d):=by cases d <;> rfl
theorem Iu{K:Og}(d:VI):kitOne K (.type (qT d)) (.type "bool")=some (AV d):=by cases d <;> rfl
theorem Iw{K:Og}(d:VI):kitOne K (.type (qT d)) (.type "tuple")=some (wq d):=by cases d <;> rfl
theorem AW{g:DG}{te:DT}{δ0:Dl}{xs:List VI}{Q:List VI->Prop}(f:VI->VI)
 (h:∀x∈xs,∀R:VI->Prop,R (f x)->g x δ0 λδ2=>te δ2 R)(q:Q (xs.map f)):iw g gT te δ0 xs Q:=by
 refine⟨λi acc=>acc=(xs.take i).map f,rfl,?_,?_⟩
 ·rintro i x acc hx rfl;have:=h x (O4 hx) (λy=>(xs.take i).map f++[y]=(xs.take (i+1)).map f) (by rw [Pd,hx];simp);simpa [gT] using this
 ·rintro acc rfl;rw [OZ (Oi _)];exact q
theorem Iy{g:DG}{tc:DB}{te:DT}{δ0:Dl}{xs:List VI}{Q:List VI->Prop}(f:VI->Option VI)
 (h:∀x∈xs,∀(R:VI->Prop) (S:Prop),(match f x with | some y=>R y | none=>S)->g x δ0 λδ2=>tc δ2 λok=>if ok=true then te δ2 R else S)(q:Q (xs.filterMap f)):iw g tc te δ0 xs Q:=by
 refine⟨λi acc=>acc=(xs.take i).filterMap f,rfl,?_,?_⟩
 ·rintro i x acc hx rfl;refine h x (O4 hx) (λy=>(xs.take i).filterMap f++[y]=(xs.take (i+1)).filterMap f) ((xs.take i).filterMap f=(xs.take (i+1)).filterMap f) ?_;rw [Pd,hx];cases e:f x with
  | none=>simp [e]
  | some y=>simp [e]
 ·rintro acc rfl;rw [OZ (Oi _)];exact q
theorem AX{g:DG}{te:DT}{δ0:Dl}{xs:List VI}{p:Bool->Prop}{gg:List Bool->Bool}(f:VI->Bool)
 (h:∀x∈xs,∀R:VI->Prop,R (.bool (f x))->g x δ0 λδ2=>te δ2 R)(q:p (gg (xs.map f))):iw g gT te δ0 xs λds=>∃bs:List Bool,ds=bs.map Rh/\p (gg bs):=
 AW (λx=>.bool (f x)) h ⟨xs.map f,by rw [OI];rfl,q⟩
theorem oW{a b:Str}{P:List Str->Prop}:(∃zs,[Oj a,Oj b]=Pn Oj zs/\P zs)↔P [a,b]:=by
 refine⟨λ⟨zs,e,h⟩=>?_,λh=>⟨_,rfl,h⟩⟩
 match zs,e with
 | [x,y],e=>simp at e;rw [e.1,e.2];exact h
theorem oX{x:Str}:dM (.str x)=true:=rfl
theorem oY{x:Int}:dM (.int x)=true:=rfl
theorem oZ{x:Bool}:dM (.bool x)=true:=rfl
theorem pb{x:List VI}:dM (.tuple x)=true:=rfl
theorem pd{x:List VI}:dM (.list x)=true:=rfl
def units:List Str:=["days","months","years"]
theorem fR{n:Nat}:∀d∈([]:List VI),cw n d:=λd hd=>by simp at hd
theorem cb{n:Nat}{d:VI}{r:List VI}(h:cw n d)(hr:∀e∈r,cw n e):∀e∈d::r,cw n e:=λe he=>by
 rcases Ox.mp he with z | z
 ·rw [z];exact h
 ·exact hr e z
theorem fC{n:Nat}{x:Str}(h:Om x=true)(hn:1<=n:=by decide):cw n (.str x):=(ke h).mono hn
theorem AY{n:Nat}{x:Int}(hn:1<=n:=by decide):cw n (.int x):=wb.mono hn
theorem wt{n:Nat}{ms:List Str}(h:∀m∈ms,Om m=true)(hn:1<=n:=by decide):∀d∈ms.map Oj,cw n d:=λd hd=>by
 obtain⟨m,hm,rfl⟩:=OE.mp hd;exact(ke (h m hm)).mono hn
theorem pe{a b c:VI}{l:List VI}:d6 (a::b::c::l) (some 3) none=l:=by
 rw [v7 VC (by simp only [OC];omega)];rfl
theorem pf{a b c:VI}{l:List VI}:d6 (a::b::c::l) (some 1) (some 3)=[b,c]:=by
 unfold d6;rw [uh VC (by simp only [OC];omega),uh VC (by simp only [OC];omega)];rfl
end L2
namespace PySem
open Builtin
open AutoSeq1 (wpAny_loadPart')
end PySem
namespace L2
open PySem PySem.Spec PyProof.Rows PySem.W
section
variable {X:Cx} {H0:Hp} {O0:Ex}
def mX(t:DT):DT:=λδ Q=>t δ λd=>∃i,d= .int i/\Q (.int (-i))
theorem Iz{e:VT}{t:DT}{pos:Pos}(h:DE X H0 O0 e t):DE X H0 O0 (.UnaryOp .USub e pos) (mX t):=
 (Fy FC h).imp λσ H Q uu75=>by obtain⟨O,δ,Qd,w,q,k⟩:=uu75;exact⟨O,δ,_,w,q,λd v H1 uu76 s1 r1=>by obtain⟨i,e,q1⟩:=uu76;subst e;cases r1;exact⟨i,rfl,k _ _ H1 q1 s1 (.int _)⟩⟩
end
section
variable {x:Option VT} {n:Nat} {env:Env}
theorem kh{a b c d}:V5 (.BinOp a b c d) x n env=pure false:=rfl
theorem qZ{a b c d}:V5 (.Call a b c d) x n env=pure false:=rfl
theorem ph{a b c}:V5 (.Subscript a b c) x n env=pure false:=rfl
theorem IA{a b c}:V5 (.BoolOp a b c) x n env=pure false:=rfl
theorem IB{a b c d}:V5 (.IfExp a b c d) x n env=pure false:=rfl
end
theorem pj:(Od "paper"==Od "happens")=false:=VB
theorem pk:(Od "paper"==Od "rule")=false:=VB
theorem pq:(Od "paper"==Od "leave")=false:=VB
section
variable {X:Cx} {H0:Hp} {O0:Ex}
def mY:DS:=λ_ _=>False
theorem IC{st:VZ}:PS X st (bz X.K H0 O0 mY):=Fn.imp λD σ H uu77=>by obtain⟨O,δ,E,w,q,_⟩:=uu77;exact q.elim
end
section
variable {α:Type} {P:α->Prop}
theorem mZ{a:VI}{r:Dl}{P:VI->Prop}:cf 0 (some (Sl.v a)::r) P=P a:=rfl
theorem px{x:Option Sl}{r:Dl}{i:Nat}{P:VI->Prop}:cf (i+1) (x::r) P=cf i r P:=rfl
theorem Ob{a:VI}{l:Dl}{i:Nat}{P:VI->Prop}:cf i (l.set i (some (Sl.v a))) P=(i < l.length/\P a):=by
 apply propext;show vX P _↔_;rw [Ah,TR];constructor
 ·rintro⟨d,e,p⟩;by_cases h:i < l.length
  ·rw [OW h] at e;cases e;exact⟨h,p⟩
  ·rw [Qo VD] at e;cases e
 ·rintro⟨h,p⟩;exact⟨a,by rw [OW h];rfl,p⟩
theorem pz{a:List VI}{r:Dl}{P:List VI->Prop}:(∃d,(some (Sl.o a)::r)[0]?=some (some (Sl.o d))/\P d)=P a:=VH
theorem pA{x:Option Sl}{r:Dl}{i:Nat}{P:List VI->Prop}:(∃d,(x::r)[i+1]?=some (some (Sl.o d))/\P d)=(∃d,r[i]?=some (some (Sl.o d))/\P d):=VH
theorem pB{a:List VI}{l:Dl}{i:Nat}{P:List VI->Prop}:(∃d,(l.set i (some (Sl.o a)))[i]?=some (some (Sl.o d))/\P d)=(i < l.length/\P a):=by
 apply propext;rw [TR];constructor
 ·rintro⟨d,e,p⟩;by_cases h:i < l.length
  ·rw [OW h] at e;cases e;exact⟨h,p⟩
  ·rw [Qo VD] at e;cases e
 ·rintro⟨h,p⟩;exact⟨a,by rw [OW h];rfl,p⟩
theorem pC{x:Option Sl}{l:Dl}{i j:Nat}{P:List VI->Prop}(h:i≠j):(∃d,(l.set i x)[j]?=some (some (Sl.o d))/\P d)=(∃d,l[j]?=some (some (Sl.o d))/\P d):=by rw [OF h]
theorem pE{a:Bool}{P:Bool->Prop}:(∃b,Rh a= .bool b/\P b)=P a:=VH
theorem pF{a:Int}{P:Int->Prop}:(∃b,OJ a= .int b/\P b)=P a:=VH
theorem pG{a:Str}{P:Str->Prop}:(∃b,Oj a= .str b/\P b)=P a:=VH
theorem pH{a:List VI}{P:List VI->Prop}:(∃b,O5 a= .tuple b/\P b)=P a:=VH
theorem pI{a:List VI}{P:List VI->Prop}:(∃b,PX a= .list b/\P b)=P a:=VH
theorem pJ{a b:Int}{P:Int->Int->Prop}:(∃i j,OJ a= .int i/\OJ b= .int j/\P i j)=P a b:=VH
theorem pK{a b:Str}{P:Str->Str->Prop}:(∃i j,Oj a= .str i/\Oj b= .str j/\P i j)=P a b:=VH
theorem pL{a b:List VI}{P:List VI->List VI->Prop}:(∃i j,PX a= .list i/\PX b= .list j/\P i j)=P a b:=VH
theorem pM{a:VI}{r:List VI}{P:VI->List VI->Prop}:(∃x y,a::r=x::y/\P x y)=P a r:=propext ⟨λuu78=>by obtain⟨_,_,e,p⟩:=uu78;cases e;exact p,λp=>⟨_,_,rfl,p⟩⟩
theorem pN{a:VI}{r:List VI}{P:VI->Prop}:(∃ds i d,O5 (a::r)= .tuple ds/\OJ 0= .int i/\atI ds i=some d/\P d)=P a:=by simp [d7]
theorem pO{a b:VI}{r:List VI}{P:VI->Prop}:(∃ds i d,O5 (a::b::r)= .tuple ds/\OJ 1= .int i/\atI ds i=some d/\P d)=P b:=by simp [eQ]
theorem pP{a b c:VI}{r:List VI}{P:VI->Prop}:(∃ds i d,O5 (a::b::c::r)= .tuple ds/\OJ 2= .int i/\atI ds i=some d/\P d)=P c:=by simp [ix]
theorem pQ{a b c e:VI}{r:List VI}{P:VI->Prop}:(∃ds i d,O5 (a::b::c::e::r)= .tuple ds/\OJ 3= .int i/\atI ds i=some d/\P d)=P e:=by simp [fQ]
theorem pR{a b:VI}{r:List VI}{P:VI->Prop}:(∃ds i d,PX (a::b::r)= .list ds/\OJ 1= .int i/\atI ds i=some d/\P d)=P b:=by simp [eQ]
theorem pT{a b c:VI}{r:List VI}{P:VI->Prop}:(∃ds i d,PX (a::b::c::r)= .list ds/\OJ 2= .int i/\atI ds i=some d/\P d)=P c:=by simp [ix]
theorem pU{xs:List VI}{k:Int}{P:VI->Prop}:(∃ds i d,O5 xs= .tuple ds/\OJ k= .int i/\atI ds i=some d/\P d)=(∃d,atI xs k=some d/\P d):=VH
theorem pV{xs:List VI}{k:Int}{P:VI->Prop}:(∃ds i d,PX xs= .list ds/\OJ k= .int i/\atI ds i=some d/\P d)=(∃d,atI xs k=some d/\P d):=VH
end
theorem pW{w v:Str}{r:List VI}{l:Dl}{Q:Bool->Prop}:dR (cV gY (cV gU (cf 0) (dC (.int 0))) (dC (.str v))) (some (.v (.tuple (.str w::r)))::l) Q=Q (w==v):=by
 simp [dR,cV,gY,gU,mZ,dC,d7,dM,d8]
theorem pX{v:Str}{x:Option Sl}{l:Dl}{k:Nat}{Q:Bool->Prop}:dR (cV gY (cV gU (cf 0) (dC (.int 0))) (dC (.str v))) (l.set (k+1) x) Q=dR (cV gY (cV gU (cf 0) (dC (.int 0))) (dC (.str v))) l Q:=by
 simp only [dR,cV,cf,dC,OF (show k+1≠0 by omega)]
def sR:au->VI
 | .inl i=>.int i
 | .inr x=>.str x
def fD(kd:List (au×VI))(k:au):Option VI:=(kd.find? λp=>decide (p.1=k)).map (·.2)
def fS(kd:List (au×VI))(k:au)(d:VI):List (au×VI):=if (kd.any λp=>decide (p.1=k))=true then kd.map (λp=>if p.1=k then(p.1,d) else p) else kd++[(k,d)]
section
variable {K:Og} {H:Hp} {O:Ex}
theorem Dt.key{v:V}{k:au}(h:Dt K H O v (sR k)):v=kV k:=by
 cases k with
 | inl i=>cases h;rfl
 | inr x=>cases h;rfl
theorem bJ.val{kv:List (au×V)}{kd:List (au×VI)}(h:bJ K H O kv kd)(k:au):(dW kv k=none/\fD kd k=none)\/∃v d,dW kv k=some v/\fD kd k=some d/\Dt K H O v d:=by
 induction h with
 | nil=>exact .inl ⟨rfl,rfl⟩
 | @cons j v d r s a _ ih=>
  by_cases e:j=k
  ·exact .inr ⟨v,d,sP e,by simp [fD,PJ,e],a⟩
  ·rw [qV e,show fD ((j,d)::s) k=fD s k by simp [fD,PJ,e]];exact ih
theorem bJ.any{kv:List (au×V)}{kd:List (au×VI)}(h:bJ K H O kv kd)(k:au):(kv.any λp=>decide (p.1=k))=(kd.any λp=>decide (p.1=k)):=by
 induction h with
 | nil=>rfl
 | cons a _ ih=>simp only [PQ,ih]
theorem bJ.length{kv:List (au×V)}{kd:List (au×VI)}(h:bJ K H O kv kd):kv.length=kd.length:=by
 induction h with
 | nil=>rfl
 | cons a _ ih=>simp only [OC,ih]
theorem bJ.append{kv kv':List (au×V)}{kd kd':List (au×VI)}(h:bJ K H O kv kd)(h':bJ K H O kv' kd'):bJ K H O (kv++kv') (kd++kd'):=by
 induction h with
 | nil=>exact h'
 | cons a _ ih=>exact .cons a ih
theorem bJ.repl{kv:List (au×V)}{kd:List (au×VI)}(h:bJ K H O kv kd)(k:au){v:V}{d:VI}(hv:Dt K H O v d):bJ K H O (kv.map λp=>if p.1=k then(p.1,v) else p) (kd.map λp=>if p.1=k then(p.1,d) else p):=by
 induction h with
 | nil=>exact .nil
 | @cons j u e r s a _ ih=>
  simp only [Ol];by_cases z:j=k
  ·rw [VF z,VF z];exact .cons hv ih
  ·rw [VE z,VE z];exact .cons a ih
theorem bJ.put{kv:List (au×V)}{kd:List (au×VI)}(h:bJ K H O kv kd)(k:au){v:V}{d:VI}(hv:Dt K H O v d):bJ K H O (putK kv k v) (fS kd k d):=by
 unfold putK fS;rw [h.any k];split
 ·exact h.repl k hv
 ·exact h.append (.cons hv .nil)
end
section
variable {X:Cx} {H0:Hp} {O0:Ex}
abbrev sS:=Dl->(List (au×VI)->Prop)->Prop
def ID(K:Og)(H0:Hp)(O0:Ex)(t:sS):TE:=λσ H R=>∃O δ Qd,Wd K H0 O0 H O σ δ/\t δ Qd/\∀kd kv p H',Qd kd->aw H H'->H' p=none->bJ K H' O kv kd->R (.ref p) (ai H' p (.dK kv))
abbrev KE(X:Cx)(H0:Hp)(O0:Ex)(e:VT)(t:sS):Prop:=PE X e (ID X.K H0 O0 t)
def nc:sS:=λ_ Q=>Q []
theorem ur{pos:Pos}:KE X H0 O0 (.Dict [] [] pos) nc:=HQ.imp λσ H Q uu79=>by obtain⟨O,δ,Qd,w,q,k⟩:=uu79;exact λp hp=>k [] [] p H q (aw.refl _) hp .nil
def ni(i:Nat)(t:sS):DS:=λE δ=>t δ λkd=>E.nx (δ.set i (some (.k kd)))
theorem uu{i:Nat}{x:Str}{e:VT}{t:sS}{pos pos':Pos}(hN:X.N.Nodup)(hi:X.N[i]?=some x)(hx:gK X.env.scope x)(he:KE X H0 O0 e t)(hs:V5 e (some (.Name x pos')) pos.line X.env=pure false:=by rfl)(hf:X.fn x=true\/X.env.scope.names.lookup x=some .local:=by first | exact .inl rfl | exact .inr rfl | assumption):
 PS X (.Assign [.Name x pos'] e pos) (bz X.K H0 O0 (ni i t)):=
 (eJ hN hi hx he hs hf).imp λD σ H ⟨O,δ,E,w,q,k1,k2,k3,k4⟩=>⟨O,δ,_,w,q,λds vs p H1 q1 s1 hp r1=>k1 _ _ _ _ q1 ((w.mono s1).setK hp r1)
  ⟨λb o e _=>(s1.trans (aw.new hp)) b o e,λb e n z=>z.elim n λy=>by
   cases q:H b with
   | none=>exact e q
   | some o=>have:=s1 _ _ q;rw [y,hp] at this;cases this⟩⟩
def nk(i:Nat)(tk tv:DT):DS:=λE δ=>tv δ λd=>∃kd,δ[i]?=some (some (.k kd))/\tk δ λy=>∃k,y=sR k/\kd.length < VV/\E.nx (δ.set i (some (.k (fS kd k d))))
theorem uw{i:Nat}{o e v:VT}{tk tv:DT}{pos pos':Pos}(hu:X.A.units+64 < Wa)(ho:PE X o (dh i))(he:DE X H0 O0 e tk)(hv:DE X H0 O0 v tv)(hs:V5 v (some (.Subscript o e pos')) pos.line X.env=pure false:=by rfl):
 PS X (.Assign [.Subscript o e pos'] v pos) (bz X.K H0 O0 (nk i tk tv)):=
 (v8 VD ho he hv hs).imp λD σ H ⟨O,δ,E,w,q,k1,k2,k3,k4⟩=>⟨O,δ,_,w,q,λd u H1 uu82 s1 r1=>by
  obtain⟨kd,e,qk⟩:=uu82;have w1:=w.mono s1;obtain⟨l,kv,h,a,b,c,r⟩:=w1.ownK e;refine⟨.ref l,h,O,δ,_,w1,qk,λy uy H2 ⟨k,ek,hl,q2⟩ s2 r2=>?_⟩;subst ek;obtain rfl:=r2.key;refine⟨l,_,rfl,oU.k (s2 _ _ c) (by rw [r.length];exact hl),k1 _ _ _ _ q2 ((w1.mono s2).putK e h ((r.mono s2).put k (r1.mono s2))) ⟨λb' o' z n=>?_,λ_ _ n=>n⟩⟩;rw [aC (λy=>n (by rw [y];exact a))];exact(s1.trans s2) _ _ z⟩
def nq(i:Nat)(tk:DT):DT:=λδ Q=>∃kd,δ[i]?=some (some (.k kd))/\tk δ λy=>∃k d,y=sR k/\fD kd k=some d/\Q d
theorem bJ.got{K:Og}{H:Hp}{O:Ex}{kv:List (au×V)}{kd:List (au×VI)}(h:bJ K H O kv kd){k:au}{d:VI}(e:fD kd k=some d):∃v,dW kv k=some v/\Dt K H O v d:=by
 rcases h.val k with⟨_,z⟩ | ⟨v,d',a,b,c⟩
 ·rw [e] at z;cases z
 ·rw [e] at b;cases b;exact⟨v,a,c⟩
theorem bJ.none{K:Og}{H:Hp}{O:Ex}{kv:List (au×V)}{kd:List (au×VI)}(h:bJ K H O kv kd){k:au}:(dW kv k).isSome=(fD kd k).isSome:=by
 rcases h.val k with⟨y,z⟩ | ⟨v,d',a,b,c⟩
 ·rw [y,z];rfl
 ·rw [a,b];rfl
theorem IE{i:Nat}{o e:VT}{tk:DT}{pos:Pos}(hu:X.A.units+64 < Wa)(ho:PE X o (dh i))(he:DE X H0 O0 e tk)(hs:uj e):DE X H0 O0 (.Subscript o e pos) (nq i tk):=
 (Aw VD ho he hs).imp λσ H Q uu84=>by
  obtain⟨O,δ,Qd,w,⟨kd,e,q⟩,k⟩:=uu84;obtain⟨l,kv,h,a,b,c,r⟩:=w.ownK e;refine⟨.ref l,h,O,δ,_,w,q,λy uy H2 ⟨ky,d,ek,ev,q2⟩ s2 r2=>?_⟩;subst ek;obtain rfl:=r2.key;obtain⟨v,hv,dv⟩:=r.got ev;exact⟨l,v,rfl,by rw [<-hv];exact cQ.k (s2 _ _ c),k _ _ _ q2 s2 (dv.mono s2)⟩
def nt(i:Nat)(tk:DT):DT:=λδ Q=>∃kd,δ[i]?=some (some (.k kd))/\tk δ λy=>∃k,y=sR k/\Q ((fD kd k).getD .none)
theorem IF{i:Nat}{o e:VT}{tk:DT}{apos cpos:Pos}(hu:X.A.units+64 < Wa)(ho:PE X o (dh i))(he:DE X H0 O0 e tk)(m:M1 X o "get" apos e cpos):DE X H0 O0 (.Call (.Attribute o "get" apos) [e] [] cpos) (nt i tk):=
 (AA VD ho he m).imp λσ H Q uu86=>by
  obtain⟨O,δ,Qd,w,⟨kd,e,q⟩,k⟩:=uu86;obtain⟨l,kv,h,a,b,c,r⟩:=w.ownK e;refine⟨.ref l,h,l,rfl,.inl ⟨kv,.inl c⟩,O,δ,_,w,q,λy uy H2 ⟨ky,ek,q2⟩ s2 r2=>?_⟩;subst ek;obtain rfl:=r2.key;refine⟨_,cQ.k (s2 _ _ c),k _ _ _ q2 s2 ?_⟩;rcases r.val ky with⟨y,z⟩ | ⟨v,d',a',b',c'⟩
  ·rw [y,z];exact .non
  ·rw [a',b'];exact c'.mono s2
end
open PySem PySem.Spec PyProof.Rows PySem.W PySem.Calls
theorem IG{prog:VW}{w:VX}{A:V0}{E:VJ->VN->Prop}{s:VN}{T:String}{r d:VM}{n:Nat}{P:Nat->VJ->Prop}{OK:VY->Prop}{ss:List Str}{Q:VJ->VN->Prop}
 (K:KdlSrc prog w T r d n P OK)(hh:A.handled=none)(hok:OK s.heap)(hn:n < 64)(hP:∀vs:List VJ,vs.length=n->(∀j v,vs[j]?=some v->P j v)->StrsAre vs ss)
 (h:∀(h' h2:VY) (tk:Nat) (out:Array VJ) (e:Nat) (ss':List Str),(∀b o,s.heap.get? b=some o->h'.get? b=some o)->(∀b o,h'.get? b=some o->h2.get? b=some o)->h2.get? h'.objs.size=some (V3 "list" out e)->StrsAre out.toList ss'->ss'.Perm ss->sortedS ss'=true->Q (.ref h'.objs.size) {s with heap:=h2,toks:=tk}):
 VR (VS prog w) A (call (.builtin "sorted") [.ref r]) Q E s:=by
 refine Sr kind_sorted plain_sorted entry_sorted (args_sorted1 _) ?_;unfold Builtin.«sorted»;refine VL (m:=checkCount "sorted" 1 1 _) (VO ?_);refine VL (kdu_collect (A:=A.in1) K hh hok (O7 (Rj hn) VC) λh' tk acc hk hacc=>?_);have hl:acc.toList.length=n:=by rw [O3];exact hacc.1
 refine VL (WJ ?_);have hS:=hP acc.toList hl (λj v e=>hacc.2 j v (by rw [<-SQ];exact e));have hoL:(h'.push (V3 "list" acc.toList.toArray 0)).get? h'.objs.size=some (V3 "list" acc.toList.toArray 0):=OX _ rfl;refine VL (We (Wb W9 ⟨_,hoL,rfl⟩ W8 (list_sort_treeK (s:={s with heap:=h'.push (V3 "list" acc.toList.toArray 0),toks:=tk}) strKind_oneLt hoL hS.keysOf (λv₁ v₂ rest e=>keyKind_strs (by rw [<-e];exact hS)) (by rw [hl];exact hn) λst' a1 a2=>⟨_,rfl,?_⟩) (args_list_sort _)));obtain⟨ss',h1,h2,h3⟩:=sorted_out_str hS a1 a2;obtain⟨e,he⟩:=sortedHeap_at (n:=0) (vs:=acc.toList) (out:=(arrOf st').map (·.2)) hoL;refine VO ⟨_,rfl,h h' _ tk _ e ss' hk (λb o q=>?_) he h1 h2 h3⟩;have hlt:b < h'.objs.size:=OM q;rw [sortedHeap_old (O6 hlt) (by rw [size_push'];exact Qu hlt),UJ _ _ _ (O6 hlt)];exact q
theorem AZ{P:VW}{w:VX}:∀{ss:List Str}{vs:List VJ},vs.length=ss.length->(∀(j:Nat)(v:VJ),vs[j]?=some v->∃x:Str,ss[j]?=some x/\(dQ P w).is (.inr x) v=true)->StrsAre vs ss
 | [],[],_,_=>.nil
 | x::ss,v::vs,hl,h=>by
  obtain⟨y,e,k⟩:=h 0 v rfl;cases e;rcases iO (k:= .inr x) (v:=v) k with⟨i,t,e,_⟩ | ⟨z,t,e,ev⟩
  ·cases e
  ·cases e;subst ev;exact .cons x t (AZ (by simpa using hl) λj v e=>h (j+1) v e)
theorem IH{X:Cx}:dZ X (.builtin "sorted") (λxs H Q=>X.calm=true/\∃a kv ss,xs=[.ref a]/\Rd H a (.dK kv)/\kv.map (·.1)=ss.map P4/\ss.length < 64/\∀l,H l=none->Q (.ref l) (ai H l (.lst ((fi ss).map V.str)))):=by
 intro Xl s σ H xs us Q I r h;obtain⟨hc,a,kv,ss,rfl,ha,hk,h64,q⟩:=h;obtain⟨u,rfl,rx⟩:=fu r;cases rx;obtain⟨hz,lo,vs,rel,dd⟩:=j9 I.hok ha;obtain⟨ep,da⟩:=dd.dictAt;have hlen:vs.length=ss.length:=by rw [<-rel.length,<-Oe (f:=(·.1)),hk,Oe]
 refine IG (ss:=ss) (kdl_dict (kvs:=vs) (ep:=ep) lo) (I.ok.hd hc) da VD (λus hl hp=>AZ (P:=X.prog) (w:=X.w) VD λj v e=>?_) λh' h2 tk out e ss' k1 k2 at2 s1 s2 s3=>?_
 ·obtain⟨k,x,ek,kk⟩:=hp j v e;have e1:(vs.map (·.1))[j]?=some k:=by rw [OD,ek];rfl
  rw [<-rel.keys,hk,OD] at e1;cases es:ss[j]? with
  | none=>rw [es] at e1;cases e1
  | some y=>rw [es] at e1;cases e1;exact⟨y,rfl,kk⟩
 ·have es:ss'=fi ss:=AJ s2 (AL _ s3);subst es;have hl2:(fi ss).length=ss.length:=s2.length_eq;have I1:ah X Xl σ H {s with heap:=h',toks:=tk}:=I.kept (t':=tk) k1;refine⟨.ref _,_,I1.laid (t':=tk) (o:= .lst ((fi ss).map V.str)) k2 (Oi _) ?_,rfl,q _ (I1.hok.fresh (Oi _))⟩;refine⟨by rw [Oe,hl2];exact O7 (Rj h64) VC,out.toList,e,wm s1,?_⟩;rw [at2]
theorem bJ.keys{K:Og}{H:Hp}{O:Ex}{kv:List (au×V)}{kd:List (au×VI)}(h:bJ K H O kv kd):kv.map (·.1)=kd.map (·.1):=by
 induction h with
 | nil=>rfl
 | cons a _ ih=>simp only [Ol,ih]
section
variable {X:Cx} {H0:Hp} {O0:Ex}
def nv(i:Nat):DA:=λδ Q=>∃kd,δ[i]?=some (some (.k kd))/\∃ss:List Str,kd.map (·.1)=ss.map P4/\ss.length < 64/\Q ((fi ss).map .str)
theorem II{i:Nat}{o:VT}{np p:Pos}(hc:X.calm=true)(hg:Gl X "sorted")(hm:X.mg "sorted"=none)(hv:V1 "sorted"=some (.builtin "sorted"))(ho:PE X o (dh i))(he:VQ [o] X.env=(false,eval o X.env)::VQ [] X.env:=by rfl)(hpl:(V4 p (VQ [] X.env)).any (·.1)=false:=by rfl):
 FE X H0 O0 (.Call (.Name "sorted" np) [o] [] p) (nv i):=
 (bV IH hg hm hv (bF ho ck he) (he:=he) (hpl:=hpl)).imp λσ H Q uu88=>by
  obtain⟨O,δ,Qd,w,⟨kd,e,ss,ek,h64,q⟩,k⟩:=uu88;obtain⟨l,kv,h,a,b,c,r⟩:=w.ownK e;exact⟨.ref l,h,hc,l,kv,ss,rfl,.inl c,by rw [r.keys];exact ek,h64,λp hp=>k _ _ _ _ q (aw.refl _) hp (ak.ofStrs _)⟩
end
section
theorem pY{a:List (au×VI)}{r:Dl}{P:List (au×VI)->Prop}:(∃d,(some (Sl.k a)::r)[0]?=some (some (Sl.k d))/\P d)=P a:=VH
theorem pZ{x:Option Sl}{r:Dl}{i:Nat}{P:List (au×VI)->Prop}:(∃d,(x::r)[i+1]?=some (some (Sl.k d))/\P d)=(∃d,r[i]?=some (some (Sl.k d))/\P d):=VH
theorem p5{x:Option Sl}{l:Dl}{i j:Nat}{P:List (au×VI)->Prop}(h:i≠j):(∃d,(l.set i x)[j]?=some (some (Sl.k d))/\P d)=(∃d,l[j]?=some (some (Sl.k d))/\P d):=by rw [OF h]
theorem p6{x:Str}{P:au->Prop}:(∃k,Oj x=sR k/\P k)=P (.inr x):=propext ⟨λuu89=>by obtain⟨k,e,p⟩:=uu89;cases k with | inl i=>cases e | inr y=>cases e;exact p,λp=>⟨_,rfl,p⟩⟩
end
def dN:VI->Bool
 | .none=>true
 | _=>false
def ki:VI->VI->(VI->Prop)->Prop:=λx y Q=>y= .none/\Q (.bool (dN x))
def ny:VI->VI->(VI->Prop)->Prop:=λx y Q=>y= .none/\Q (.bool (!dN x))
theorem Sh.isN{K:Og}{H:Hp}{O:Ex}{x:V}{d:VI}(h:Sh K H O x d):decide (x= .non)=dN d:=by
 cases h with
 | dt h=>cases h <;> simp [dN]
 | _=>simp [dN]
theorem nz{K:Og}:cN K (λx y H Q=>y= .non/\Q (.bl (decide (x= .non))) H) ki:=λH O x y dx dy Qd R _ hx hy uu90 k=>by
 obtain⟨e,q⟩:=uu90;subst e;refine⟨hy.non,?_⟩;rw [hx.isN];exact k _ _ H q (aw.refl _) (.bl _)
theorem wu{K:Og}:cN K (λx y H Q=>y= .non/\Q (.bl (!decide (x= .non))) H) ny:=λH O x y dx dy Qd R _ hx hy uu91 k=>by
 obtain⟨e,q⟩:=uu91;subst e;refine⟨hy.non,?_⟩;rw [hx.isN];exact k _ _ H q (aw.refl _) (.bl _)
def nA:List VI->(VI->Prop)->Prop:=λds Q=>∃i:Int,ds=[.int i]/\Q (.int (if i < 0 then -i else i))
theorem IJ{K:Og}:j1 K (λxs H Q=>∃i,xs=[.int i]/\Q (.int (if i < 0 then -i else i)) H) nA:=λH O xs ds Qd R _ hs uu92 k=>by
 obtain⟨i,e,q⟩:=uu92;subst e;cases hs with
 | cons h r=>cases r;cases h.int;exact⟨i,rfl,k _ _ H q (aw.refl _) (.int _)⟩
def nB:VI->VI->(VI->Prop)->Prop:=λx y Q=>∃ds i d,x=fN ds/\y= .int i/\atI ds i=some d/\Q d
theorem IK{K:Og}:cN K (vO K) nB:=λH O x y dx dy Qd R _ hx hy uu93 k=>by
 obtain⟨ds,i,d,e1,e2,e3,q⟩:=uu93;subst e1 e2;obtain⟨a,vs,rfl,hs,r⟩:=hx.scr;cases hy.int;obtain⟨v,hv,rv⟩:=r.atI e3;exact⟨a,vs,i,v,rfl,rfl,hs,hv,k d v H q (aw.refl _) rv⟩
section
variable {X:Cx} {H0:Hp} {O0:Ex}
def nE(t:DT)(tl th:DO):DA:=λδ Q=>t δ λd=>tl δ λl=>th δ λu=>∃xs,d=fN xs/\Q (d6 xs l u)
theorem IL{e:VT}{lo hi:Option VT}{t:DT}{tl th:DO}{pos p2:Pos}(h:DF X H0 O0 e t)(hl:PO X lo (mD X.K H0 O0 tl))(hu:PO X hi (mD X.K H0 O0 th)):FE X H0 O0 (.Subscript e (.Slice lo hi none p2) pos) (nE t tl th):=
 (vM zT h hl hu).imp λσ H Q uu94=>by obtain⟨O,δ,Qd,w,q,k⟩:=uu94;exact⟨O,δ,_,w,q,λd v H1 q1 s1 r1=>⟨O,δ,_,w.mono s1,q1,λl H2 q2 s2=>⟨O,δ,_,w.mono (s1.trans s2),q2,λu H3 uu95 s3=>by
  obtain⟨xs,e,q3⟩:=uu95;subst e;obtain⟨a,vs,rfl,h1,d1⟩:=(r1.mono (s2.trans s3)).scr;exact⟨a,vs,rfl,h1,λp hp=>k _ _ _ _ q3 (s1.trans (s2.trans s3)) hp (d1.cut l u)⟩⟩⟩⟩
end
theorem A1{X:Cx}:bU X (Wn .Mult) (λx y H Q=>∃(z:Str)(n:Int),x= .str z/\y= .int n/\MulOk z n/\Q (.str (Txt.mul z n)) H):=by
 intro Xl s σ H x y v u Q I rx ry h;obtain⟨z,n,rfl,rfl,hok,q⟩:=h;obtain⟨t,rfl⟩:=rx;obtain⟨t',rfl⟩:=ry;exact SB.mul hok λt' k=>⟨.str _,H,I.tok _,⟨_,rfl⟩,q⟩
def nF:VI->VI->(VI->Prop)->Prop:=λx y Q=>∃(z:Str)(n:Int),x= .str z/\y= .int n/\MulOk z n/\Q (.str (Txt.mul z n))
theorem A2{K:Og}:cN K (λx y H Q=>∃(z:Str)(n:Int),x= .str z/\y= .int n/\MulOk z n/\Q (.str (Txt.mul z n)) H) nF:=λH O x y dx dy Qd R _ hx hy uu96 k=>by
 obtain⟨z,n,e1,e2,c,q⟩:=uu96;subst e1 e2;cases hx.str;cases hy.int;exact⟨z,n,rfl,rfl,c,k _ _ H q (aw.refl _) (.str _)⟩
structure Rw where
 w:Str
 n:Int
 nm:Str
 r:List VI
def Rw.enc(x:Rw):VI:= .tuple (.str x.w:: .int x.n:: .str x.nm::x.r)
def fT(ws:List Str)(day:Int)(x:Rw):Prop:=x.w∈ws/\x.n<=day
instance {ws:List Str} {day:Int} {x:Rw}:Decidable (fT ws day x):=by unfold fT;infer_instance
abbrev Ls:=List (Str×Rw)
def gZ(L:Ls):List (au×VI):=L.map λp=>(.inr p.1,p.2.enc)
def d9(L:Ls)(nm:Str):Option Rw:=(L.find? λp=>decide (p.1=nm)).map (·.2)
def uz(L:Ls)(nm:Str)(x:Rw):Ls:=if (L.any λp=>decide (p.1=nm))=true then L.map (λp=>if p.1=nm then(p.1,x) else p) else L++[(nm,x)]
theorem ja{a b:Str}:((P4 a:au)=P4 b)↔a=b:=⟨λh=>by cases h;rfl,λh=>by rw [h]⟩
theorem wx(nm:Str):∀L:Ls,fD (gZ L) (.inr nm)=(d9 L nm).map Rw.enc
 | []=>rfl
 | p::L=>by
  have ih:=wx nm L;unfold fD d9 gZ at*;by_cases h:p.1=nm
  ·simp [PJ,h]
  ·have h':¬((P4 p.1:au)=P4 nm):=λz=>h (ja.mp z);simp only [Ol,PJ,decide_eq_false h,decide_eq_false h'];exact ih
theorem A3(L:Ls)(nm:Str)(x:Rw):fS (gZ L) (.inr nm) x.enc=gZ (uz L nm x):=by
 have ha:(gZ L).any (λp=>decide (p.1=(P4 nm:au)))=L.any λp=>decide (p.1=nm):=by
  unfold gZ;rw [SV];congr 1;funext p;simp only [QC,ja]
 unfold fS uz;rw [ha];split
 ·unfold gZ;rw [OI,OI];apply Q6;intro p _;simp only [QC,ja];split <;> rfl
 ·unfold gZ;simp
structure fj (ws:List Str) (day:Int) (xs:List Rw) (L:Ls):Prop where
 nd:(L.map (·.1)).Nodup
 it:∀p∈L,p.1=p.2.nm/\p.2∈xs/\fT ws day p.2/\∀y∈xs,fT ws day y->y.nm=p.1->y.n<=p.2.n
 al:∀y∈xs,fT ws day y->∃p∈L,p.1=y.nm
 le:L.length<=xs.length
theorem fj.nil(ws:List Str)(day:Int):fj ws day [] []:=⟨List.nodup_nil,(λp h=>by cases h),(λp h=>by cases h),Oi _⟩
theorem uA{L:Ls}{nm:Str}{y:Rw}(h:d9 L nm=some y):∃p∈L,p.1=nm/\p.2=y:=by
 unfold d9 at h;cases e:L.find? (λp=>decide (p.1=nm)) with
 | none=>rw [e] at h;cases h
 | some p=>
  rw [e] at h;cases h;exact⟨p,List.mem_of_find?_eq_some e,by simpa using List.find?_some e,rfl⟩
theorem A4{L:Ls}{nm:Str}(h:d9 L nm=none):∀p∈L,p.1≠nm:=by
 intro p hp e;unfold d9 at h;rw [Option.map_eq_none_iff,Sz] at h;exact h p hp (by simpa using e)
section
variable {ws:List Str} {day:Int} {xs:List Rw} {L:Ls} {x:Rw}
theorem fj.skip(h:fj ws day xs L)(hx:¬fT ws day x):fj ws day (xs++[x]) L:=by
 refine⟨h.nd,λp hp=>?_,λy hy ho=>?_,by have:=h.le;simp;omega⟩
 ·obtain⟨a,b,c,d⟩:=h.it p hp;refine⟨a,by simp [b],c,λy hy ho e=>?_⟩;rcases ON.mp hy with z | z
  ·exact d y z ho e
  ·rw [OS] at z;subst z;exact absurd ho hx
 ·rcases ON.mp hy with z | z
  ·exact h.al y z ho
  ·rw [OS] at z;subst z;exact absurd ho hx
theorem fj.keep(h:fj ws day xs L){y0:Rw}(hl:d9 L x.nm=some y0)(hn:¬y0.n < x.n):fj ws day (xs++[x]) L:=by
 obtain⟨p0,hp0,e0,rfl⟩:=uA hl;have uq:∀p∈L,p.1=x.nm->p=p0:=λp hp e=>by
  have nd:=h.nd;clear h hl hn
  induction L with
  | nil=>cases hp
  | cons q L ih=>
   rw [Ol,P6] at nd;rcases Ox.mp hp with a | a <;> rcases Ox.mp hp0 with b | b
   ·rw [a,b]
   ·exact absurd (OE.mpr ⟨p0,b,by rw [e0,<-e,a]⟩) nd.1
   ·exact absurd (OE.mpr ⟨p,a,by rw [e,<-e0,b]⟩) nd.1
   ·exact ih b a nd.2
 refine⟨h.nd,λp hp=>?_,λy hy ho=>?_,by have:=h.le;simp;omega⟩
 ·obtain⟨a,b,c,d⟩:=h.it p hp;refine⟨a,by simp [b],c,λy hy ho e=>?_⟩;rcases ON.mp hy with z | z
  ·exact d y z ho e
  ·rw [OS] at z;subst z;rw [uq p hp e.symm];omega
 ·rcases ON.mp hy with z | z
  ·exact h.al y z ho
  ·rw [OS] at z;subst z;exact⟨p0,hp0,e0⟩
theorem fj.put(h:fj ws day xs L)(ho:fT ws day x)(hl:∀y,d9 L x.nm=some y->y.n < x.n):fj ws day (xs++[x]) (uz L x.nm x):=by
 unfold uz;split
 ·rename_i ha;obtain⟨p0,hp0,e0⟩:=Ra.mp ha;have e0:p0.1=x.nm:=of_decide_eq_true e0;have hmx:∀y∈xs,fT ws day y->y.nm=x.nm->y.n<=x.n:=λy hy ho' e=>by
   cases hk:d9 L x.nm with
   | none=>exact absurd e0 (A4 hk p0 hp0)
   | some z=>
    obtain⟨p,hp,ep,rfl⟩:=uA hk;have:=(h.it p hp).2.2.2 y hy ho' (by rw [ep];exact e);have:=hl _ hk;omega
  refine⟨?_,λp hp=>?_,λy hy ho'=>?_,by have:=h.le;simp;omega⟩
  ·rw [OI,show((λp:Str×Rw=>p.1)∘ λp=>if p.1=x.nm then(p.1,x) else p)=λp=>p.1 by funext p;simp only [QC];split <;> rfl];exact h.nd
  ·obtain⟨q,hq,rfl⟩:=OE.mp hp;by_cases z:q.1=x.nm
   ·rw [VF z];refine⟨z,VH,ho,λy hy ho' e=>?_⟩;rcases ON.mp hy with m | m
    ·exact hmx y m ho' (by rw [e];exact z)
    ·rw [OS] at m;subst m;exact Vv _
   ·rw [VE z];obtain⟨a,b,c,d⟩:=h.it q hq;refine⟨a,by simp [b],c,λy hy ho' e=>?_⟩;rcases ON.mp hy with m | m
    ·exact d y m ho' e
    ·rw [OS] at m;subst m;exact absurd e.symm z
  ·rcases ON.mp hy with m | m
   ·obtain⟨p,hp,e⟩:=h.al y m ho';refine⟨_,OE.mpr ⟨p,hp,rfl⟩,?_⟩;split <;> exact e
   ·rw [OS] at m;subst m;refine⟨_,OE.mpr ⟨p0,hp0,rfl⟩,?_⟩;rw [VF e0];exact e0
 ·rename_i ha;have hno:∀p∈L,p.1≠x.nm:=λp hp e=>ha (Ra.mpr ⟨p,hp,decide_eq_true e⟩);refine⟨?_,λp hp=>?_,λy hy ho'=>?_,by have:=h.le;simp;omega⟩
  ·rw [OO];refine Tr.mpr ⟨h.nd,VH,λa ha' b hb=>?_⟩;simp only [Ol,Pw,OS] at hb;obtain⟨p,hp,rfl⟩:=OE.mp ha';rw [hb];exact hno p hp
  ·rcases ON.mp hp with m | m
   ·obtain⟨a,b,c,d⟩:=h.it p m;refine⟨a,by simp [b],c,λy hy ho' e=>?_⟩;rcases ON.mp hy with z | z
    ·exact d y z ho' e
    ·rw [OS] at z;subst z;exact absurd e.symm (hno p m)
   ·rw [OS] at m;subst m;refine⟨rfl,VH,ho,λy hy ho' e=>?_⟩;rcases ON.mp hy with z | z
    ·obtain⟨p,hp,e'⟩:=h.al y z ho';exact absurd (e'.trans e) (hno p hp)
    ·rw [OS] at z;subst z;exact Vv _
  ·rcases ON.mp hy with m | m
   ·obtain⟨p,hp,e⟩:=h.al y m ho';exact⟨p,by simp [hp],e⟩
   ·rw [OS] at m;subst m;exact⟨(y.nm,y),VH,rfl⟩
end
structure g6 (ws:List Str) (day:Int) (xs res:List Rw):Prop where
 up:(res.map (·.nm)).Pairwise λa b=>dJ a b=true
 nd:(res.map (·.nm)).Nodup
 it:∀x∈res,x∈xs/\fT ws day x/\∀y∈xs,fT ws day y->y.nm=x.nm->y.n<=x.n
 al:∀y∈xs,fT ws day y->∃x∈res,x.nm=y.nm
 le:res.length<=xs.length
theorem wy{L:Ls}{nm:Str}(h:nm∈L.map (·.1)):∃x,d9 L nm=some x:=by
 cases e:d9 L nm with
 | some x=>exact⟨x,rfl⟩
 | none=>
  obtain⟨p,hp,e'⟩:=OE.mp h;exact absurd e' (A4 e p hp)
def uB(L:Ls):List Rw:=(fi (L.map (·.1))).filterMap (d9 L)
theorem IM{ws:List Str}{day:Int}{xs:List Rw}{L:Ls}(h:fj ws day xs L):(uB L).map (·.nm)=fi (L.map (·.1)):=by
 unfold uB;have key:∀l:List Str,(∀a∈l,a∈L.map (·.1))->(l.filterMap (d9 L)).map (·.nm)=l:=by
  intro l
  induction l with
  | nil=>intro _;rfl
  | cons a l ih=>
   intro hl;obtain⟨x,hx⟩:=wy (hl a VH);obtain⟨p,hp,e,rfl⟩:=uA hx;rw [P8,hx];show p.2.nm::_=_;rw [ih λb hb=>hl b (by simp [hb]),<-(h.it p hp).1,e]
 exact key _ λa ha=>(kg _).mem_iff.mp ha
theorem fj.res{ws:List Str}{day:Int}{xs:List Rw}{L:Ls}(h:fj ws day xs L):g6 ws day xs (uB L):=by
 have hn:=IM h;refine⟨by rw [hn];exact AI _,by rw [hn];exact(kg _).nodup_iff.mpr h.nd,λx hx=>?_,λy hy ho=>?_,by rw [<-Oe (f:=λx:Rw=>x.nm),hn,(kg _).length_eq,Oe];exact h.le⟩
 ·obtain⟨a,ha,e⟩:=RT.mp hx;obtain⟨p,hp,e1,rfl⟩:=uA e;obtain⟨b1,b2,b3,b4⟩:=h.it p hp;exact⟨b2,b3,λy hy ho e=>b4 y hy ho (by rw [b1];exact e)⟩
 ·obtain⟨p,hp,e⟩:=h.al y hy ho;have:p.1∈(uB L).map (·.nm):=by rw [hn];exact(kg _).mem_iff.mpr (OE.mpr ⟨p,hp,rfl⟩)
  obtain⟨x,hx,e'⟩:=OE.mp this;exact⟨x,hx,e'.trans e⟩
theorem IP(t:Wl)(n:Nat):(t.orStandIn n).led=t.led:=by unfold Uy;split <;> rfl
theorem IQ(t:Wl)(es:Array (Int×VJ))(h:Int)(x:VJ):(layNew t es h x).2.1.led=t.led:=by
 unfold layNew;split
 ·exact IP _ _
 ·rfl
theorem IS(t:Wl)(es:Array (Int×VJ))(n:Nat):(WW t es n).2.1.led=t.led:=by
 unfold WW U8 Vf;cases UK (Uz n - 1) (es.map (·.1)) with
 | none=>rfl
 | some ow=>simp only [bind,Vw,pure];split <;> rfl
abbrev fU(w:VX):Bool:=w.params.followText "set-order"
section
variable {P:VW} {w:VX} {A:V0} {E:VJ->VN->Prop} {s:VN}
theorem IT(a:VJ){Q₁:VJ->VN->Prop}
 (h:Q₁ (.ref s.heap.objs.size) {s with heap:=s.heap.push {cls:= .type "set",dict:=none,data:= .set #[] 0 (.fresh 0 0 (!fU w))}}):
 Wz (VS P w) A (.call (.builtin "set.__new__") ⟨[.type "set",a],[]⟩) (wants Q₁ E) s:=by
 refine codeAny_of_tree ?_;show VR _ A.in1 (checkBuiltinCall "set.__new__" ⟨[.type "set",a],[]⟩ >>=λ_=>again (.builtin "set.__new__" ⟨[.type "set",a],[]⟩)) _ _ s;refine VL (Xd (PySem.F.newCall_set_1 a) (VO ⟨WU T9 _,WC PySem.F.entry_set_new ?_⟩));rw [RC T9 _];unfold Builtin.«set.__new__» Builtin.Frozenset.newClass;have hsb:=sub_set_self;obtain⟨hp,g,d,tk,os⟩:=s;dsimp only
 wp_walk
 refine Wx (VO ?_);dsimp only;simp only [newObj];exact VL (wpAny_alloc (VO (VO h)))
end
theorem jb:Slot "set_iterator" "__next__" "set_iterator.__next__":=
 .of (owner:="set_iterator") (n:="__next__") (by rw [typeLookup_type,builtinLookup_eq_fast];kernel_rfl) VB VB VB
  (by first | exact .inl VB | exact .inr VB) (by rw [isSubtype_type];kernel_rfl)
theorem uC:entryFor table "set_iterator.__next__"=some Builtin.«set_iterator.__next__»:=entryFor_of_tree (by kernel_rfl)
theorem A5:Manifest.owners.lookup (String.ofList ['r','o','t','a','r','e','t','i','_','t','e','s'].reverse)=some Manifest.sig_set_iterator:=by kernel_rfl
theorem uD(a:VJ):argsOk "set_iterator.__next__" ⟨[a],[]⟩:=by
 unfold argsOk;rw [signature?_of (id:="set_iterator.__next__") (n:=['_','_','t','x','e','n','_','_']) (o:=['r','o','t','a','r','e','t','i','_','t','e','s']) (by kernel_rfl) A5];kernel_rfl
theorem IU:entryFor table "set.__iter__"=some Builtin.«frozenset.__iter__»:=entryFor_alias (id':="frozenset.__iter__") (by kernel_rfl) rfl VB (by kernel_rfl)
theorem wz{α:Type}:∀{l:List α}{i:Nat}(h:i < l.length),(l[i]::l.eraseIdx i).Perm l
 | a::l,0,h=>.refl _
 | a::l,i+1,h=>by
  have:=wz (l:=l) (i:=i) (by simpa using h);simp only [List.getElem_cons_succ,List.eraseIdx_cons_succ];exact(List.Perm.swap _ _ _).trans (this.cons a)
theorem A6{α:Type}(next:Nat->Nat):∀(f k:Nat)(left:List α)(out:Array α),f=left.length->(pickOrder.go next f k left out).toList.Perm (out.toList++left)
 | 0,k,left,out,e=>by
  rw [S0 e.symm];unfold pickOrder.go;simp
 | f+1,k,left,out,e=>by
  unfold pickOrder.go;have hlt:next k % left.length < left.length:=Nat.mod_lt _ VD;rw [OW hlt];refine(A6 next f (k+1) _ _ (by rw [Ti hlt];omega)).trans ?_;rw [UL,RY];exact List.Perm.append_left _ (wz hlt)
theorem IV{α:Type}(next:Nat->Nat)(xs:Array α):(Xf next xs).toList.Perm xs.toList:=by
 have:=A6 next xs.size 0 xs.toList #[] VH;simpa [Xf] using this
section
variable {P:VW} {w:VX} {A:V0} {E:VJ->VN->Prop}
theorem A7{α:Type}:∀(n:Nat)(xs:List α)(s:VN)(Q:List α->VN->Prop),n=xs.length->(∀ys d,ys.Perm xs->Q ys {s with drawn:=d})->VR (VS P w) A (drawOrder n xs) Q E s
 | 0,xs,s,Q,e,q=>by
  rw [S0 e.symm] at q⊢;unfold drawOrder;exact VO (q [] s.drawn (.refl _))
 | n+1,[],s,Q,e,q=>by cases e
 | n+1,x::xs,s,Q,e,q=>by
  unfold drawOrder;refine VL ?_;intro Γ p hΓ;refine⟨VH,?_⟩;generalize hi:(VS P w).w.draws .order (s.drawn.get .order)% (x::xs).length=i;have hlt:i < (x::xs).length:=by rw [<-hi];exact Nat.mod_lt _ VH
  have key:VR (VS P w) A (match (x::xs)[i]? with | some y=>(do return y::(<-drawOrder n ((x::xs).eraseIdx i))) | none=>unsupported "internal:drawOrder") Q E {s with drawn:=s.drawn.bump .order}:=by
   rw [OW hlt];refine VL (A7 n _ _ _ (by rw [Ti hlt];simp at e⊢;omega) λys d hp=>VO (q _ d ?_));exact(hp.cons _).trans (wz hlt)
  exact key
end
def fV(h:VY)(it:VM)(f:VJ)(i:Nat)(a:VM)(n ep:Nat):Prop:=∃o,h.get? it=some o/\o.cls= .type "set_iterator"/\o.data= .fields #[f,.int i 0,.ref a,.int n 0,.int ep 0]
theorem fV.typeIs{s:VN}{it f i a n ep}(x:fV s.heap it f i a n ep):s.TypeIs (.ref it) "set_iterator":=let ⟨o,h,c,_⟩:=x;⟨o,h,c⟩
section
variable {P:VW} {w:VX} {A:V0} {E:VJ->VN->Prop} {s:VN} {a:VM} {o:Obj} {es:Array (Int×VJ)} {ep:Nat} {t:Wl}
theorem A8{slot i:Nat}{Q:Option (VJ×Nat)->VN->Prop}(hb:fU w=true)(o1:s.heap.get? a=some o)(d1:o.data= .set es ep t)(f1:t.fits es.size=true)
 (h:Q (((Xf (w.params.setOrder a ep) es)[i]?).map λe=>(e.2,slot)) s):VR (VS P w) A (WT a slot i ep) Q E s:=by
 unfold WT setWalk setsByText;refine VL (Wt o1 d1 f1 (VL (VL (Wx (VO ?_)))));rw [VF (show(VS P w).w.params.followText "set-order"=true from hb)];rw [VE VH];refine VL (VL (Wt o1 d1 f1 (VL (VL (Wx (VO ?_))))));rw [VF (show(VS P w).w.params.followText "set-order"=true from hb)];exact VL (Wx (VO (VO h)))
theorem IW{it:VM}{slot slot' i:Nat}{x:VJ}{Q:Option VJ->VN->Prop}(hit:fV s.heap it (.int slot 0) i a es.size ep)(o1:s.heap.get? a=some o)(d1:o.data= .set es ep t)(f1:t.fits es.size=true)
 (nx:∀E' Q',Q' (some (x,slot')) s->VR (VS P w) A.in1 (WT a slot i ep) Q' E' s)
 (hQ:∀h',fV h' it (.int slot' 0) (i+1) a es.size ep->QX it s.heap h'->Q (some x) {s with heap:=h'}):VR (VS P w) A (WH (.ref it)) Q E s:=by
 obtain⟨u,u1,c1,e1⟩:=id hit;unfold WH;refine VL (WV (Wi (name:=Od "__next__") hit.typeIs jb (Wb jb hit.typeIs uC ?_ (uD _))));unfold Builtin.«set_iterator.__next__»;refine VL (m:=slotArgs _ _ _) (VO (VL (Xa u1 e1 ?_)));show VR _ _ (setEntries a >>=_) _ _ s;refine VL (Wy o1 d1 f1 ?_);rw [VE VH];show VR _ _ (WT a ((slot:Int)).toNat ((i:Int)).toNat ((ep:Int)).toNat >>=_) _ _ s;simp only [Ql];refine VL (nx _ _ ?_);show VR _ _ (setField (.ref it) 0 (WE (slot':Int)) >>=_) _ _ s;refine VL (WG u1 e1 VH ?_);have g1:=Qw (Vg (·.setIfInBounds 0 (WE (slot':Int)))) u1 (R5 (Qx e1 _));have k1:=Qx e1 (·.setIfInBounds 0 (WE (slot':Int)));refine VL (WG g1 k1 VH (VO ⟨x,rfl,VO (hQ _ ?_ ((PD ..).trans (PD ..)))⟩));refine⟨_,Qw _ g1 (R5 (Qx k1 _)),(Ts ..).trans ((Ts ..).trans c1),?_⟩;rw [Qx k1];simp [WE]
theorem IX{it pl:VM}{i k:Nat}{hk:Int}{x:VJ}{ol:Obj}{ps:Array VJ}{nl:Nat}{Q:Option VJ->VN->Prop}(hit:fV s.heap it (.ref pl) i a es.size ep)(o1:s.heap.get? a=some o)(d1:o.data= .set es ep t)(f1:t.fits es.size=true)
 (l1:s.heap.get? pl=some ol)(l2:ol.data= .seq ps nl)(p1:ps[i]?=some (.int (k:Int) 0))(x1:es[k]?=some (hk,x))
 (hQ:∀h',fV h' it (.ref pl) (i+1) a es.size ep->QX it s.heap h'->Q (some x) {s with heap:=h'}):VR (VS P w) A (WH (.ref it)) Q E s:=by
 obtain⟨u,u1,c1,e1⟩:=id hit;unfold WH;refine VL (WV (Wi (name:=Od "__next__") hit.typeIs jb (Wb jb hit.typeIs uC ?_ (uD _))));unfold Builtin.«set_iterator.__next__»;refine VL (m:=slotArgs _ _ _) (VO (VL (Xa u1 e1 ?_)));show VR _ _ (setEntries a >>=_) _ _ s;refine VL (Wy o1 d1 f1 ?_);rw [VE VH];show VR _ _ (seqItems? (.ref pl) >>=_) _ _ s;refine VL (wpAny_seqItems l1 l2 ?_);simp only [Ql,p1];refine VL ?_;unfold setNextDrawn;refine VL (Wt o1 d1 f1 ?_);simp only [Ql];rw [VE VH,x1];refine VO (VL (WG u1 e1 VH (VO ⟨x,rfl,VO (hQ _ ?_ (PD ..))⟩)));refine⟨_,Qw _ u1 (R5 (Qx e1 _)),(Ts ..).trans c1,?_⟩;rw [Qx e1];simp [WE]
theorem IY{it:VM}{slot i:Nat}{Q:Option VJ->VN->Prop}(hh:A.handled=none)(hit:fV s.heap it (.int slot 0) i a es.size ep)(o1:s.heap.get? a=some o)(d1:o.data= .set es ep t)(f1:t.fits es.size=true)
 (nx:∀E' Q',Q' none s->VR (VS P w) A.in1 (WT a slot i ep) Q' E' s)
 (hQ:∀h',Vx it s.heap h'->Q none {s with heap:=h'}):VR (VS P w) A (WH (.ref it)) Q E s:=by
 obtain⟨u,u1,c1,e1⟩:=id hit;unfold WH;refine VL (WV (Wi (name:=Od "__next__") hit.typeIs jb (Wb jb hit.typeIs uC ?_ (uD _))));unfold Builtin.«set_iterator.__next__»;refine VL (m:=slotArgs _ _ _) (VO (VL (Xa u1 e1 ?_)));show VR _ _ (setEntries a >>=_) _ _ s;refine VL (Wy o1 d1 f1 ?_);rw [VE VH];show VR _ _ (WT a ((slot:Int)).toNat ((i:Int)).toNat ((ep:Int)).toNat >>=_) _ _ s;simp only [Ql];refine VL (nx _ _ ?_);show VR _ _ (setField (.ref it) 2 .none >>=_) _ _ s;refine VL (WG u1 e1 VH ?_);refine VL (m:=newExc (.type "StopIteration") []) ?_;simp only [newExc,newTuple];refine VL (V7 ?_ (by size_fits));refine VL (m:=Xb _ _) (Xd (a:=QI) (by first | rfl | (simp only [Xb];rfl)) ?_);refine V7 ?_ (by size_fits);simp only [raiseNew];refine VL (wpAny_handled ?_);rw [show A.in1.handled=none from hh];refine VL (VO (wpAny_throw ?_));refine VL (Xi (T:="StopIteration") (b:=true) ⟨_,OX _ rfl,rfl⟩ isSubtype_stop ?_);exact VO (hQ _ (((PD ..).extBut.push _).push _))
theorem IZ{it pl:VM}{i:Nat}{ol:Obj}{ps:Array VJ}{nl:Nat}{Q:Option VJ->VN->Prop}(hh:A.handled=none)(hit:fV s.heap it (.ref pl) i a es.size ep)(o1:s.heap.get? a=some o)(d1:o.data= .set es ep t)(f1:t.fits es.size=true)
 (l1:s.heap.get? pl=some ol)(l2:ol.data= .seq ps nl)(p1:ps[i]?=none)
 (hQ:∀h',Vx it s.heap h'->Q none {s with heap:=h'}):VR (VS P w) A (WH (.ref it)) Q E s:=by
 obtain⟨u,u1,c1,e1⟩:=id hit;unfold WH;refine VL (WV (Wi (name:=Od "__next__") hit.typeIs jb (Wb jb hit.typeIs uC ?_ (uD _))));unfold Builtin.«set_iterator.__next__»;refine VL (m:=slotArgs _ _ _) (VO (VL (Xa u1 e1 ?_)));show VR _ _ (setEntries a >>=_) _ _ s;refine VL (Wy o1 d1 f1 ?_);rw [VE VH];show VR _ _ (seqItems? (.ref pl) >>=_) _ _ s;refine VL (wpAny_seqItems l1 l2 ?_);simp only [Ql,p1];show VR _ _ (setField (.ref it) 0 (WE 0) >>=_) _ _ s;refine VL (WG u1 e1 VH ?_);have g1:=Qw (Vg (·.setIfInBounds 0 (WE 0))) u1 (R5 (Qx e1 _));have k1:=Qx e1 (·.setIfInBounds 0 (WE 0));refine VL (WG g1 k1 VH ?_);refine VL (m:=newExc (.type "StopIteration") []) ?_;simp only [newExc,newTuple];refine VL (V7 ?_ (by size_fits));refine VL (m:=Xb _ _) (Xd (a:=QI) (by first | rfl | (simp only [Xb];rfl)) ?_);refine V7 ?_ (by size_fits);simp only [raiseNew];refine VL (wpAny_handled ?_);rw [show A.in1.handled=none from hh];refine VL (VO (wpAny_throw ?_));refine VL (Xi (T:="StopIteration") (b:=true) ⟨_,OX _ rfl,rfl⟩ isSubtype_stop ?_);exact VO (hQ _ ((((PD ..).trans (PD ..)).extBut.push _).push _))
end
theorem A9:Slot "set_iterator" "__iter__" "set_iterator.__iter__":=
 .of (owner:="set_iterator") (n:="__iter__") (by rw [typeLookup_type,builtinLookup_eq_fast];kernel_rfl) VB VB VB
  (by first | exact .inl VB | exact .inr VB) (by rw [isSubtype_type];kernel_rfl)
theorem I0:entryFor table "set_iterator.__iter__"=some Builtin.«dict_keyiterator.__iter__»:=entryFor_alias (id':="dict_keyiterator.__iter__") (by kernel_rfl) rfl VB (by kernel_rfl)
theorem Ja(a:VJ):argsOk "set_iterator.__iter__" ⟨[a],[]⟩:=by
 unfold argsOk;rw [signature?_of (id:="set_iterator.__iter__") (n:=['_','_','r','e','t','i','_','_']) (o:=['r','o','t','a','r','e','t','i','_','t','e','s']) (by kernel_rfl) A5];kernel_rfl
theorem fV.at{h h':VY}{it f i a n ep}(x:fV h it f i a n ep)(e:∀o,h.get? it=some o->h'.get? it=some o):fV h' it f i a n ep:=let ⟨o,ho,r⟩:=x;⟨o,e _ ho,r⟩
section
variable {P:VW} {w:VX} {A:V0} {E:VJ->VN->Prop} {s:VN} {a:VM} {o:Obj} {es:Array (Int×VJ)} {ep:Nat} {t:Wl}
theorem Ba{it:VM}{f:VJ}{i n:Nat}{Q:VJ->VN->Prop}(hit:fV s.heap it f i a n ep)(h:Q (.ref it) s):VR (VS P w) A (pyIter (.ref it)) Q E s:=by
 refine wpAny_pyIter_slot hit.typeIs A9 (Wb A9 hit.typeIs I0 ?_ (Ja _));exact VL (m:=slotArgs _ _ _) (VO (VO ⟨_,rfl,"set_iterator",_,hit.typeIs,jb.lookup,h⟩))
theorem Bb(hh:A.handled=none)(it:VM)(hne:a≠it)(d1:o.data= .set es ep t)(f1:t.fits es.size=true)(vs:List VJ)(hl:vs.length=es.size)(sl:Nat->Nat)
 (nx:∀(s:VN) (i:Nat) (h:i < vs.length) E' Q',s.heap.get? a=some o->Q' (some (vs[i],sl (i+1))) s->VR (VS P w) A.in1 (WT a (sl i) i ep) Q' E' s)
 (nd:∀(s:VN) E' Q',s.heap.get? a=some o->Q' none s->VR (VS P w) A.in1 (WT a (sl es.size) es.size ep) Q' E' s):
 Walks P w A it [it,a] [it] es.size (λi v=>vs[i]?=some v) (λi h=>fV h it (.int (sl i:Nat) 0) i a es.size ep/\h.get? a=some o) where
 sub:=λb hb=>by rw [OS] at hb;simp [hb]
 frame:=λ_ _ _ st hk=>⟨st.1.at λo e=>hk it VH o e,hk a VH o st.2⟩
 item:=λi s Q E hi st hQ=>by
  have hi':i < vs.length:=VD
  refine IW st.1 st.2 d1 f1 (λE' Q' q=>nx s i hi' E' Q' st.2 q) λh' it' sb=>?_;exact hQ _ h' s.toks (by simp [hi']) ⟨it',by rw [sb.2 a hne];exact st.2⟩ λb u hb e=>sb.extBut b u (λz=>hb (by simp [z])) e
 done:=λs Q E st hQ=>IY hh st.1 st.2 d1 f1 (λE' Q' q=>nd s E' Q' st.2 q) λh' he=>hQ h' s.toks λb u hb e=>he b u (λz=>hb (by simp [z])) e
 self:=λ_ _ _ _ st hQ=>Ba st.1 hQ
theorem Jb(hh:A.handled=none)(it pl:VM)(hne:a≠it)(hnp:pl≠it)(d1:o.data= .set es ep t)(f1:t.fits es.size=true)(vs:List VJ)(ks:List Nat){ol:Obj}{nl:Nat}(l2:ol.data= .seq (ks.map λ(k:Nat)=>QF (k:Int) 0).toArray nl)
 (hl:ks.length=es.size)(hv:∀i k:Nat,ks[i]?=some k->∃h x,es[k]?=some (h,x)/\vs[i]?=some x):
 Walks P w A it [it,a,pl] [it] es.size (λi v=>vs[i]?=some v) (λi h=>fV h it (.ref pl) i a es.size ep/\h.get? a=some o/\h.get? pl=some ol) where
 sub:=λb hb=>by rw [OS] at hb;simp [hb]
 frame:=λ_ _ _ st hk=>⟨st.1.at λo e=>hk it VH o e,hk a VH o st.2.1,hk pl VH ol st.2.2⟩
 item:=λi s Q E hi st hQ=>by
  have hi':i < ks.length:=VD
  obtain⟨h,x,e1,e2⟩:=hv i ks[i] (by simp [hi']);refine IX st.1 st.2.1 d1 f1 st.2.2 l2 (k:=ks[i]) (by simp [hi']) e1 λh' it' sb=>?_;exact hQ _ h' s.toks e2 ⟨it',by rw [sb.2 a hne];exact st.2.1,by rw [sb.2 pl hnp];exact st.2.2⟩ λb u hb e=>sb.extBut b u (λz=>hb (by simp [z])) e
 done:=λs Q E st hQ=>IZ hh st.1 st.2.1 d1 f1 st.2.2 l2 (by simp [hl]) λh' he=>hQ h' s.toks λb u hb e=>he b u (λz=>hb (by simp [z])) e
 self:=λ_ _ _ _ st hQ=>Ba st.1 hQ
end
section
variable {P:VW} {w:VX} {A:V0} {E:VJ->VN->Prop} {s:VN} {a:VM}
theorem Jc{Q:Bool->VN->Prop}(hT:s.TypeIs (.ref a) "set")(h:Q false s):VR (VS P w) A (Ta (.ref a)) Q E s:=by
 unfold Ta;refine VL (wpAny_specialOf hT PySem.F.slot_set_len.lookup ?_);generalize hid:("set.__len__":String)=id0
 wp_delta
 rw [show splitId id0=some ("set","__len__") from by subst hid;decide+kernel];subst hid;refine VL (Xi (T:="set") (b:=true) hT (by rw [isSubtype_type];kernel_rfl) ?_);refine W7 (λz=>absurd z VC) (λ_=>?_);refine W7 (λ_=>?_) (λz=>absurd VB z);exact VL (W5 hT (VO h))
end
theorem ah.drw{X:Cx}{Xl:List (VM×Obj)}{σ:List (Option V)}{H:Hp}{s:VN}{d:Drawn}(I:ah X Xl σ H s):ah X Xl σ H {s with drawn:=d}:=⟨I.ok,I.os,I.bare,I.base,I.loc,I.cell,I.free,I.freeC,I.pin,I.hok,I.len⟩
theorem Jd:V1 "set"=some (.type "set"):=VB
section
variable {X:Cx} {H0:Hp} {O0:Ex}
def nG(i:Nat)(t:DA):DS:=λE δ=>∃ds,δ[i]?=some (some (.o ds))/\t δ λes=>ds.length+es.length<=VV/\E.nx (δ.set i (some (.o (ds++es))))
theorem uE{i:Nat}{o e:VT}{t:DA}{apos cpos pos:Pos}(ho:PE X o (dh i))(he:FE X H0 O0 e t)(hbase:Wh o "extend" X.env (eval o X.env)=eval o X.env:=by rfl)
 (hfew:((V4 cpos (VQ [e] X.env)).all (λx=>!x.1) && (Wu cpos (Wj [] X.env)).all (λx=>x.1.isSome) && decide ([e].length+([]:List WA).length+(if ([]:List WA).isEmpty then 0 else 1) < 30))=true:=by rfl)
 (hline:(apos.endLine==cpos.line)=true:=by rfl)(hst:VQ [e] X.env=(false,eval e X.env)::VQ [] X.env:=by rfl)(hplain:(V4 cpos (VQ [] X.env)).any (·.1)=false:=by rfl)
 (hs:V5 (.Call (.Attribute o "extend" apos) [e] [] cpos) none pos.line X.env=pure false:=by rfl):PS X (.Expr (.Call (.Attribute o "extend" apos) [e] [] cpos) pos) (bz X.K H0 O0 (nG i t)):=
 (tG (vP SH SA TJ GK ho (bF he ck hst) hbase hfew hline hst hplain) hs).imp λD σ H uu0=>by
  obtain⟨O,δ,E,w,⟨ds,e,q⟩,k1,k2,k3,k4⟩:=uu0;obtain⟨l,vs,h,a,b,c,r⟩:=w.own e;refine⟨_,h,.inl ⟨rfl,_,bu.of c⟩,O,δ,_,w,q,λes ws p H1 q1 s1 hp r1=>?_⟩;have hl:H1 l=some (.lst vs):=s1 _ _ c;have np:l≠p:=λz=>by rw [z,hp] at hl;cases hl
  have S2:aw H1 (ai H1 p (.lst ws)):=aw.new hp;refine⟨l,p,vs,ws,rfl,rfl,by rw [aC np];exact hl,bA,by rw [r.length,r1.length];exact q1.1,?_⟩;exact k1 _ _ _ _ q1.2 (((w.mono s1).mono S2).putO (vs:=vs) e h (((r.mono s1).mono S2).append (r1.mono S2))) ⟨λb' o' z n=>by rw [aC (λy=>n (by rw [y];exact a))];exact S2 _ _ (s1 _ _ z),λ_ _ n=>n⟩
end
theorem Bc:∀{ns:List Int}{us:List VJ},aP (ns.map V.int) us->V9 us ns
 | [],_,r=>by rw [Pw] at r;cases r;exact .nil
 | n::ns,_,r=>by
  rw [Ol] at r;cases r with
  | cons r1 r2=>obtain⟨t,rfl⟩:=r1;exact .cons n t (Bc r2)
theorem ak.intsL{K:Og}{H:Hp}{O:Ex}:∀{ns:List Int}{vs:List V},ak K H O vs (ns.map OJ)->vs=ns.map V.int
 | [],_,r=>by rw [Pw] at r;cases r;rfl
 | b::bs,_,r=>by
  rw [Ol] at r;cases r with
  | cons h r=>cases h;rw [Ol,ak.intsL r]
theorem Wd.frzK{K:Og}{H0 H:Hp}{O0 O:Ex}{σ:St}{δ:Dl}(w:Wd K H0 O0 H O σ δ){i:Nat}{l:VM}{y0:Sl}(e:δ[i]?=some (some y0))(ho:y0.own)(h:σ[i]?=some (some (.ref l)))(u:HO):
 ∃O',Wd K H0 O0 (ai H l u) O' σ (δ.set i none)/\aS H (ai H l u) O O'/\¬O' l:=by
 obtain⟨l',x1,a,b⟩:=w.adr e ho;rw [h] at x1;cases x1;have l0:H0 l=none:=(w.new l a).resolve_left b;have S:aS H (ai H l u) O (λx=>O x/\x≠l):=⟨λc q z n=>by rw [aC (λy=>n (by rw [y];exact a))];exact z,λ_ _ n z=>n z.1⟩;have li:i < δ.length:=(OB.mp e).1;have ne:∀{j:Nat}{y:Sl},(δ.set i none)[j]?=some (some y)->j≠i:=λ{j y} q z=>by
  subst z;rw [OU li] at q;cases q
 refine⟨_,⟨λc q z=>?_,λx z=>⟨w.sub x z,λy=>b (by rw [<-y];exact z)⟩,λx z=>w.new x z.1,λx z=>by rw [aC z.2];exact w.trk x z.1,by simp [w.len],λj y q=>?_,λj k y z l' e1 y1 e2 z2 e3 e4=>?_⟩,S,λz=>z.2 rfl⟩
 ·have:c≠l:=λy=>by rw [y,l0] at z;cases z
  rw [aC this];exact w.same c q z
 ·by_cases hj:j=i
  ·subst hj;rw [OU li] at q;cases q;exact Qi
  ·rw [OF (Ne.symm hj)] at q;refine(w.sl j y q).go S (λb o ho' e' a1 a2 a3=>?_) (λb o u a1 a2 a3=>by have nb:b≠l:=λz=>w.nofrz e ho h o u (by rw [<-z];exact a3);exact⟨⟨a1,nb⟩,by rw [aC nb];exact a3⟩) λc o a1 a3=>by rw [aC (λz=>b (by rw [<-z];exact a1))];exact a3
   have nb:b≠l:=λz=>by
    subst z
    match y,ho',q with
    | some z,ho',q=>exact hj (w.dis j i z y0 _ q (by cases z <;> first | trivial | cases ho') e ho (fB e') h)
   exact⟨⟨a1,nb⟩,by rw [aC nb];exact a3⟩
 ·have n1:=ne e1;have n2:=ne e2;rw [OF (Ne.symm n1)] at e1;rw [OF (Ne.symm n2)] at e2;exact w.dis j k _ _ l' e1 y1 e2 z2 e3 e4
section
variable {X:Cx} {H0:Hp} {O0:Ex}
theorem p7{N':List Str}{k:Nat}{fr:List Nat}{scope:Wm}{iter elt tg:VT}{ifs:List VT}{t te:DT}{tc:DB}{g:TG}{dg:DG}{pos:Pos}(hc:X.calm=true)(S:bq X.env.scope X.N N' k fr scope)(hi:DF X H0 O0 iter t)(gd:GD X.K g dg)(hk:j5 g k)(hfr:fr.Nodup)
 (hg:∀fp C s H,PG (bL X scope N' fp C s H) tg g)(hf:∀fp C s H,fx (bL X scope N' fp C s H) ifs (b5 X.K H0 O0 tc))(he:∀fp C s H,PE (bL X scope N' fp C s H) elt (up X.K H0 O0 te))
 (hs:∀x,V2 iter X.env x=pure x:=by intro _;rfl):PU X (.ListComp elt [⟨tg,iter,ifs,0⟩] scope pos) (qQ X.K H0 O0 (i5 t dg tc te k fr)):=
 (wc hc S (vz hi) hg hf he hs).imp λσ H Q uu1=>by obtain⟨O,δ,Qd,w,q,kk⟩:=uu1;exact⟨O,δ,_,w,q,λd v H1 uu2 s1 r1=>by
  obtain⟨xs,e,hz,q1⟩:=uu2;subst e;obtain⟨a,vs,rfl,hq,rr⟩:=r1.tup;refine⟨a,rfl,⟨_,hq⟩,λD hD=>qS (dn.tup hq) gd hfr (λv _ H' R h=>hk fr σ v H' R h) (λ_ _ _ z=>z) (λ_ _ _ z=>z) (λD H' hD s' o e=>s' _ _ e (eG e hD)) rr (w.mono s1) (by rw [rr.length];exact hz) q1 (λds us p H' z s' hp r'=>kk ds us p H' z (s1.trans s') hp r') D hD⟩⟩
end
structure q5 (n:Nat) (lt:Nat->Nat->Bool) (I:VN->Prop) (cmp:Nat->Nat->(Bool->VN->Prop)->VN->Prop):Prop where
 as:∀i j C s,i < n->j < n->i≠j->I s->(∀s',I s'->C (lt i j) s')->cmp i j C s
structure jc (n:Nat) (lt:Nat->Nat->Bool):Prop where
 tot:∀i j,i < n->j < n->i≠j->lt i j=!lt j i
 tr:∀i j k,i < n->j < n->k < n->lt i j=true->lt j k=true->lt i k=true
structure bY (n:Nat) (p:Array Nat):Prop where
 perm:p.toList.Perm (P7 n)
theorem bY.size{n:Nat}{p:Array Nat}(h:bY n p):p.size=n:=by rw [<-O3,h.perm.length_eq,RZ]
theorem bY.lt{n:Nat}{p:Array Nat}(h:bY n p){k:Nat}(hk:k < n):p.getD k 0 < n:=by
 have hs:=h.size;have e:p.getD k 0=p[k]'VD:=by simp [RD,show k < p.size by omega]
 rw [e];have:=h.perm.mem_iff.mp (Ud.mpr (Array.getElem_mem (show k < p.size by omega)));simpa using this
theorem bY.ne{n:Nat}{p:Array Nat}(h:bY n p){i j:Nat}(hi:i < n)(hj:j < n)(hij:i≠j):p.getD i 0≠p.getD j 0:=by
 have hs:=h.size;have nd:p.toList.Nodup:=h.perm.nodup_iff.mpr List.nodup_range;have ei:p.getD i 0=p.toList[i]'(by simp;omega):=by simp [RD,show i < p.size by omega]
 have ej:p.getD j 0=p.toList[j]'(by simp;omega):=by simp [RD,show j < p.size by omega]
 rw [ei,ej];intro e;exact hij ((SM nd).mp e)
theorem bY.bubble{n:Nat}{p:Array Nat}(h:bY n p)(a d:Nat):bY n (S5 p a d):=⟨(Tj.mp (bubble_perm p a d)).trans h.perm⟩
theorem bY.rev{n:Nat}{p:Array Nat}(h:bY n p)(i j:Nat):bY n (kas_rev p i j):=⟨(Tj.mp (mirror_perm p i j _)).trans h.perm⟩
theorem wA(n:Nat):bY n (UA (P7 n)):=⟨VH⟩
def Up(lt:Nat->Nat->Bool)(p:Array Nat)(k:Nat):Prop:=∀i j,i < j->j < k->lt (p.getD i 0) (p.getD j 0)=true
section
variable {n:Nat} {lt:Nat->Nat->Bool} {I:VN->Prop} {cmp:Nat->Nat->(Bool->VN->Prop)->VN->Prop}
theorem Up.snoc(T:jc n lt){p:Array Nat}(hp:bY n p){k:Nat}(hk:k < n)(h:Up lt p k)(h0:0 < k)(hl:lt (p.getD (k - 1) 0) (p.getD k 0)=true):Up lt p (k+1):=by
 intro i j hij hj;rcases QH j k with z | z
 ·exact h i j hij z
 ·have:j=k:=VD
  subst this;rcases QH i (j - 1) with w | w
  ·exact T.tr _ _ _ (hp.lt VD) (hp.lt VD) (hp.lt hk) (h i (j - 1) w VD) hl
  ·have:i=j - 1:=VD
   subst this;exact hl
theorem wB(A:q5 n lt I cmp)(T:jc n lt){p:Array Nat}(hp:bY n p){Q:Nat->VN->Prop}:∀(f m:Nat)(s:VN),1<=m->m+f=n->Up lt p m->I s->
 (∀k s',I s'->m<=k->k<=n->Up lt p k->(k < n->lt (p.getD k 0) (p.getD (k - 1) 0)=true)->Q k s')->(kas_asc p f m).kasWp cmp Q s
 | 0,m,s,h1,hf,hu,hI,q=>q m s hI (Oi _) VD hu (λz=>by omega)
 | f+1,m,s,h1,hf,hu,hI,q=>by
  have hm:m < n:=VD
  refine A.as _ _ _ s (hp.lt hm) (hp.lt VD) (hp.ne hm VD VD) hI λs' hI'=>?_;cases hc:lt (p.getD m 0) (p.getD (m - 1) 0) with
  | true=>
   dsimp only;rw [VF rfl];exact q m s' hI' (Oi _) VD hu (λ_=>hc)
  | false=>
   dsimp only;rw [VE VH];have hl:lt (p.getD (m - 1) 0) (p.getD m 0)=true:=by rw [T.tot _ _ (hp.lt VD) (hp.lt hm) (hp.ne VD hm VD),hc];rfl
   exact wB A T hp f (m+1) s' VD VD (hu.snoc T hp hm VD hl) hI' λk s2 a b c d e=>q k s2 a VD c d e
def Dn(lt:Nat->Nat->Bool)(p:Array Nat)(k:Nat):Prop:=∀i j,i < j->j < k->lt (p.getD j 0) (p.getD i 0)=true
theorem Dn.snoc(T:jc n lt){p:Array Nat}(hp:bY n p){k:Nat}(hk:k < n)(h:Dn lt p k)(h0:0 < k)(hl:lt (p.getD k 0) (p.getD (k - 1) 0)=true):Dn lt p (k+1):=by
 intro i j hij hj;rcases QH j k with z | z
 ·exact h i j hij z
 ·have:j=k:=VD
  subst this;rcases QH i (j - 1) with w | w
  ·exact T.tr _ _ _ (hp.lt hk) (hp.lt VD) (hp.lt VD) hl (h i (j - 1) w VD)
  ·have:i=j - 1:=VD
   subst this;exact hl
theorem Bd(A:q5 n lt I cmp)(T:jc n lt){p:Array Nat}(hp:bY n p){Q:Array Nat×Nat×Nat->VN->Prop}:∀(f m:Nat)(s:VN),1<=m->m+f=n->Dn lt p m->I s->
 (∀k s',I s'->m<=k->k<=n->Dn lt p k->Q (p,k,0) s')->(kas_desc f p m 0).kasWp cmp Q s
 | 0,m,s,h1,hf,hu,hI,q=>q m s hI (Oi _) VD hu
 | f+1,m,s,h1,hf,hu,hI,q=>by
  have hm:m < n:=VD
  refine A.as _ _ _ s (hp.lt hm) (hp.lt VD) (hp.ne hm VD VD) hI λs' hI'=>?_;cases hc:lt (p.getD m 0) (p.getD (m - 1) 0) with
  | true=>
   dsimp only;rw [VF rfl,VE VH];exact Bd A T hp f (m+1) s' VD VD (hu.snoc T hp hm VD hc) hI' λk s2 a b c d=>q k s2 a VD c d
  | false=>
   dsimp only;rw [VE VH];refine A.as _ _ _ s' (hp.lt VD) (hp.lt hm) (hp.ne VD hm VD) hI' λs2 hI2=>?_;have hl:lt (p.getD (m - 1) 0) (p.getD m 0)=true:=by rw [T.tot _ _ (hp.lt VD) (hp.lt hm) (hp.ne VD hm VD),hc];rfl
   rw [hl];dsimp only;rw [VF rfl];exact q m s2 hI2 (Oi _) VD hu
theorem Be{p:Array Nat}{j k:Nat}(hj:j<=p.size):(kas_rev p 0 j).getD k 0=if k < j then p.getD (j - 1 - k) 0 else p.getD k 0:=by
 have:=getElem?_mirror_all (xs:=p) (i:=0) (j:=j) hj k;unfold kas_rev;rw [Qa,this];by_cases h:k < j
 ·simp [h,Qa]
 ·simp [h,Qa]
theorem Dn.rev{p:Array Nat}(hp:bY n p){k:Nat}(hk:k<=n)(h:Dn lt p k):Up lt (kas_rev p 0 k) k:=by
 intro i j hij hj;have hs:=hp.size;rw [Be VD,Be VD,VF VD,VF hj];exact h _ _ VD VD
theorem Je(A:q5 n lt I cmp)(T:jc n lt)(h2:2<=n){p:Array Nat}(hp:bY n p){Q:Nat×Array Nat->VN->Prop}{s:VN}(hI:I s)
 (q:∀k p' s',I s'->1<=k->k<=n->bY n p'->Up lt p' k->Q (k,p') s'):(kas_count n p).kasWp cmp Q s:=by
 unfold kas_count;rw [Ss];refine wB A T hp (n - 1) 1 s (Oi _) VD (λi j a b=>by omega) hI λm s1 hI1 m1 m2 hu hs=>?_;by_cases hm:m=n
 ·subst hm;rw [VF VH];exact q m p s1 hI1 m1 (Oi _) hp hu
 ·rw [VE (by simpa using hm)];by_cases hm1:m > 1
  ·rw [VF hm1];refine A.as _ _ _ s1 (hp.lt VD) (hp.lt VD) (hp.ne VD VD VD) hI1 λs2 hI2=>?_;rw [hu 0 (m - 1) VD VD];dsimp only;rw [VF rfl];exact q m p s2 hI2 m1 VD hp hu
  ·rw [VE hm1];have:m=1:=VD
   subst this;have h10:=hs VD;unfold kas_descPart;rw [Ss];refine Bd A T hp (n - (1+1)) (1+1) s1 VD VD (λi j a b=>?_) hI1 λk s2 hI2 k1 k2 hd=>?_
   ·have:i=0:=VD
    have:j=1:=VD
    subst_vars
    exact h10
   ·rw [VE VH];unfold kas_tail3;rw [Ss];have hp':=hp.rev 0 k;refine wB A T hp' (n - k) k s2 VD VD (hd.rev hp k2) hI2 λm s3 hI3 a b c d=>?_;exact q m _ s3 hI3 VD b hp' c
theorem wC(A:q5 n lt I cmp)(T:jc n lt){p:Array Nat}(hp:bY n p){k:Nat}(hk:k < n)(hu:Up lt p k){Q:Nat->VN->Prop}:∀(f l r:Nat)(s:VN),r - l<=f->l<=r->r<=k->I s->
 (∀i,i < l->lt (p.getD i 0) (p.getD k 0)=true)->(∀i,r<=i->i < k->lt (p.getD k 0) (p.getD i 0)=true)->
 (∀l s',I s'->l<=k->(∀i,i < l->lt (p.getD i 0) (p.getD k 0)=true)->(∀i,l<=i->i < k->lt (p.getD k 0) (p.getD i 0)=true)->Q l s')->(kas_place p k f l r).kasWp cmp Q s
 | 0,l,r,s,hf,hlr,hrk,hI,h1,h2,q=>q l s hI VD h1 (λi a b=>h2 i VD b)
 | f+1,l,r,s,hf,hlr,hrk,hI,h1,h2,q=>by
  unfold kas_place;by_cases hge:l >= r
  ·rw [VF hge];exact q l s hI VD h1 (λi a b=>h2 i VD b)
  ·rw [VE hge];have hm:(l+r)/ 2 < k:=VD
   refine A.as _ _ _ s (hp.lt hk) (hp.lt VD) (hp.ne hk VD VD) hI λs' hI'=>?_;cases hc:lt (p.getD k 0) (p.getD ((l+r)/ 2) 0) with
   | true=>
    dsimp only;rw [VF rfl];refine wC A T hp hk hu f l ((l+r)/ 2) s' VD VD VD hI' h1 (λi a b=>?_) q;rcases QH ((l+r)/ 2) i with z | z
    ·exact T.tr _ _ _ (hp.lt hk) (hp.lt VD) (hp.lt VD) hc (hu _ _ z b)
    ·have:i=(l+r)/ 2:=VD
     rw [this];exact hc
   | false=>
    dsimp only;rw [VE VH];have hl:lt (p.getD ((l+r)/ 2) 0) (p.getD k 0)=true:=by rw [T.tot _ _ (hp.lt VD) (hp.lt hk) (hp.ne VD hk VD),hc];rfl
    refine wC A T hp hk hu f ((l+r)/ 2+1) r s' VD VD hrk hI' (λi a=>?_) h2 q;rcases QH i ((l+r)/ 2) with z | z
    ·exact T.tr _ _ _ (hp.lt VD) (hp.lt VD) (hp.lt hk) (hu _ _ z hm) hl
    ·have:i=(l+r)/ 2:=VD
     rw [this];exact hl
theorem Bf{p:Array Nat}{k d i:Nat}(hk:k < p.size)(hd:d<=k):(S5 p k d).getD i 0=if i=k - d then p.getD k 0 else if k - d < i/\i<=k then p.getD (i - 1) 0 else p.getD i 0:=by
 rw [Qa,getElem?_bubble hk d hd i];by_cases h1:i=k - d
 ·rw [VF h1,VF h1,Qa]
 ·rw [VE h1,VE h1];by_cases h2:k - d < i/\i<=k
  ·rw [VF h2,VF h2,Qa]
  ·rw [VE h2,VE h2,Qa]
theorem Up.ins(T:jc n lt){p:Array Nat}(hp:bY n p){k l:Nat}(hk:k < n)(hu:Up lt p k)(hl:l<=k)(h1:∀i,i < l->lt (p.getD i 0) (p.getD k 0)=true)(h2:∀i,l<=i->i < k->lt (p.getD k 0) (p.getD i 0)=true):Up lt (S5 p k (k - l)) (k+1):=by
 have hs:=hp.size;intro i j hij hj;rw [Bf VD VD,Bf VD VD];have e:k - (k - l)=l:=VD
 rw [e];by_cases hi:i=l
 ·rw [VF hi,VE VD,VF VD];exact h2 _ VD VD
 ·rw [VE hi];by_cases hi2:l < i/\i<=k
  ·rw [VF hi2,VE VD,VF VD];exact hu _ _ VD VD
  ·rw [VE hi2];by_cases hj1:j=l
   ·rw [VF hj1];exact h1 _ VD
   ·rw [VE hj1];by_cases hj2:l < j/\j<=k
    ·rw [VF hj2];exact hu _ _ VD VD
    ·rw [VE hj2];exact hu _ _ hij VD
theorem Bg(A:q5 n lt I cmp)(T:jc n lt){Q:Array Nat->VN->Prop}:∀(f:Nat)(p:Array Nat)(k:Nat)(s:VN),k+f=n->bY n p->Up lt p k->I s->(∀p' s',I s'->bY n p'->Up lt p' n->Q p' s')->(kas_bin f p k).kasWp cmp Q s
 | 0,p,k,s,hf,hp,hu,hI,q=>q p s hI hp (by rw [show n=k by omega];exact hu)
 | f+1,p,k,s,hf,hp,hu,hI,q=>by
  unfold kas_bin;rw [Ss];have hk:k < n:=VD
  refine wC A T hp hk hu k 0 k s VD VD (Oi _) hI (λi z=>by omega) (λi a b=>by omega) λl s' hI' hl h1 h2=>?_;exact Bg A T f _ (k+1) s' VD (hp.bubble _ _) (hu.ins T hp hk hl h1 h2) hI' q
theorem Jf(A:q5 n lt I cmp)(T:jc n lt)(h2:2<=n){Q:Array Nat->VN->Prop}{s:VN}(hI:I s)(q:∀p s',I s'->bY n p->Up lt p n->Q p s'):(kas_sort n).kasWp cmp Q s:=by
 unfold kas_sort;rw [Ss];refine Je A T h2 (wA n) hI λk p s1 hI1 k1 k2 hp hu=>?_;dsimp only;by_cases hk:k < n
 ·rw [VF hk,show max k 1=k by omega];exact Bg A T (n - k) p k s1 VD hp hu hI1 q
 ·rw [VE hk];exact q p s1 hI1 hp (by rw [show n=k by omega];exact hu)
end
def bp(p q:Int×Str):Bool:=decide (p.1 < q.1) || (decide (p.1=q.1) && decide (p.2.cps.toList < q.2.cps.toList))
def iy(h:VY)(v:VJ)(p:Int×Str):Prop:=∃a o n t u,v= .ref a/\h.get? a=some o/\o.cls= .type "tuple"/\o.data= .seq #[.int p.1 t,.str p.2 u] n
section
variable {P:VW} {w:VX} {A:V0} {E:VJ->VN->Prop} {s:VN}
theorem Jg{v u:VJ}{p q:Int×Str}{Q:Bool->VN->Prop}(hv:iy s.heap v p)(hu:iy s.heap u q)(h:Q (bp p q) s):VR (VS P w) A (keyLt' (tuples' true) v u) Q E s:=by
 obtain⟨a,oa,na,t1,t2,rfl,ha,_,da⟩:=hv;obtain⟨b,ob,nb,t3,t4,rfl,hb,_,db⟩:=hu;refine kat_lt ha da hb db (kat_cons ((WQ P w).eqBool (intKind_is _ _ _ _) (intKind_is _ _ _ _) (kat_go (λe1=>?_) λe1=>?_)))
 ·have e1:p.1=q.1:=by simpa using e1
  refine kat_yes (kat_cons ((PySem.strKind P w).eqBool (strKind_is _ _ _ _) (strKind_is _ _ _ _) (kat_go (λe2=>?_) λe2=>?_)))
  ·have e2:p.2=q.2:=by simpa using e2
   refine kat_yes (kat_nil ?_);have:bp p q=false:=by unfold bp;rw [e1,e2];simp
   rw [this] at h;simpa using h
  ·have e2:p.2≠q.2:=by simpa using e2
   refine kat_no (kat_one _ _ ?_);have:bp p q=decide (p.2.cps.toList < q.2.cps.toList):=by unfold bp;simp [e1]
   rw [this] at h;exact lt_str h
 ·have e1:p.1≠q.1:=by simpa using e1
  refine kat_no ?_;show VR _ _ (oneLt' true _ _) _ _ _;refine oneLt_int ?_;have:bp p q=decide (p.1 < q.1):=by unfold bp;simp [e1]
  rw [this] at h;exact h
theorem Bh{n:Nat}{kp:Nat->Int×Str}(hd:∀i j,i < n->j < n->kp i=kp j->i=j):jc n λi j=>bp (kp i) (kp j):=by
 have tl:∀a b:Str,a≠b->(decide (a.cps.toList < b.cps.toList))=!decide (b.cps.toList < a.cps.toList):=λa b h=>by
  by_cases z:a.cps.toList < b.cps.toList
  ·rw [decide_eq_true z,decide_eq_false (List.lt_asymm z)];rfl
  ·have z2:b.cps.toList<=a.cps.toList:=US.mp z;have:b.cps.toList < a.cps.toList:=by
    rcases Classical.em (b.cps.toList < a.cps.toList) with y | y
    ·exact y
    ·exact absurd (AH (UW (US.mp y) z2)) h
   rw [decide_eq_false z,decide_eq_true this];rfl
 refine⟨λi j hi hj hij=>?_,λi j k hi hj hk h1 h2=>?_⟩
 ·have hne:kp i≠kp j:=λe=>hij (hd i j hi hj e);unfold bp;by_cases e:(kp i).1=(kp j).1
  ·have e2:(kp i).2≠(kp j).2:=λz=>hne (Prod.ext e z);simp only [e,Int.lt_irrefl,decide_false,QB,decide_true,Qg];exact tl _ _ e2
  ·have e':(kp j).1≠(kp i).1:=λz=>e z.symm;simp only [e,e',decide_false,R3,QK];by_cases z:(kp i).1 < (kp j).1
   ·rw [decide_eq_true z,decide_eq_false VD];rfl
   ·rw [decide_eq_false z,decide_eq_true VD];rfl
 ·unfold bp at h1 h2⊢;simp only [Su,Pz,decide_eq_true_eq] at h1 h2⊢;rcases h1 with h1 | ⟨h1,h1'⟩ <;> rcases h2 with h2 | ⟨h2,h2'⟩
  ·left;omega
  ·left;omega
  ·left;omega
  ·right;exact⟨h1.trans h2,Vh h1' h2'⟩
theorem Bi{ks:List VJ}{kp:Nat->Int×Str}(hk:∀i v,ks[i]?=some v->iy s.heap v (kp i))(h2:2<=ks.length){Q:SortKind->VN->Prop}(h:Q (tuples' true) s):VR (VS P w) A (keyKind' ks.toArray) Q E s:=by
 have key:∀(ks:List VJ)(kp:Nat->Int×Str),(∀i v,ks[i]?=some v->iy s.heap v (kp i))->∃fs:List VJ,KatTups s.heap ks fs/\fs.length=ks.length/\∀v∈fs,∃n t,v=QF n t:=by
  intro ks
  induction ks with
  | nil=>intro kp _;exact⟨[],KatTups.nil,rfl,VH⟩
  | cons v ks ih=>
   intro kp hk;obtain⟨fs,a,b,c⟩:=ih (λi=>kp (i+1)) λi v e=>hk (i+1) v (by simpa using e);obtain⟨ad,o,n,t,u,rfl,h1,h2,h3⟩:=hk 0 v rfl;refine⟨.int (kp 0).1 t::fs,KatTups.cons h1 h2 h3 rfl a,by simp [b],λx hx=>?_⟩;rcases Ox.mp hx with rfl | hx
   ·exact⟨_,_,rfl⟩
   ·exact c x hx
 obtain⟨fs,a,b,c⟩:=key ks kp hk;refine kat_kind (T:= .type "int") a VD (λv hv=>?_) VC h;obtain⟨n,t,rfl⟩:=c v hv;exact .now
theorem Bj{n:Nat}{ks:List VJ}{kp:Nat->Int×Str}(hn:ks.length=n)(h2:2<=n)(hk:∀i v,ks[i]?=some v->iy s.heap v (kp i))(hd:∀i j,i < n->j < n->kp i=kp j->i=j){G:Array Nat->VN->Prop}
 (q:∀p,bY n p->Up (λi j=>bp (kp i) (kp j)) p n->G p s):(kas_sort n).kasWp (kas_ask P w A (tuples' true) ks) G s:=by
 refine Jf (lt:=λi j=>bp (kp i) (kp j)) (I:=λs'=>s'=s) ⟨λi j C s' hi hj hij e c=>?_⟩ (Bh hd) h2 rfl λp s' e hp hu=>by subst e;exact q p hp hu
 subst e;have ei:ks[i]?=some (ks.getD i .none):=by simp [show i < ks.length by omega]
 have ej:ks[j]?=some (ks.getD j .none):=by simp [show j < ks.length by omega]
 exact Jg (hk i _ ei) (hk j _ ej) (c _ rfl)
def Bk(kS D:VM)(s:VN)(out:List VJ)(C:VN->Prop):Prop:=∀h' c,h'.get? D=some (V3 "list" out.toArray c)->(∀b u,b≠kS->b≠D->s.heap.get? b=some u->h'.get? b=some u)->C {s with heap:=h'}
theorem Bl{st:SortSt}{kS D:VM}{ks out:List VJ}{e e1:Nat}{C:UB->VN->Prop}(hk:s.heap.get? kS=some (V3 "list" ks.toArray e))(hD:s.heap.get? D=some (V3 "list" #[] e1))(hne:kS≠D)(hf:failedOf st=none)
 (ho:(arrOf st).map (·.2)=out.toArray)(h64:out.length < 64)(hk64:ks.length < 64)(q:Bk kS D s out (C (.done (.ret .none)))):VR (VS P w) A (ksk_tail D false e1 (.ref kS) st) C E s:=by
 have hsl:VV=16777216:=Wg;unfold ksk_tail;rw [ho];refine VL (WK hk rfl (VL (wpAny_letGo ?_)) (by rw [OH];omega) (Pc _));have u1:=PD s.heap kS (PR λ_=>(#[]:Array VJ));have hD1:(s.heap.update kS (PR λ_=>(#[]:Array VJ))).get? D=some (V3 "list" #[] e1):=(u1.2 D (Ne.symm hne)).trans hD;refine VL (seqEpoch_at (s:={s with heap:=s.heap.update kS (PR λ_=>(#[]:Array VJ))}) hD1 rfl ?_);rw [VE VH];refine VL (WK (s:={s with heap:=s.heap.update kS (PR λ_=>(#[]:Array VJ))}) hD1 rfl ?_ (Pc _) (by show out.toArray.size<=_;rw [OH];omega));have u2:=PD (s.heap.update kS (PR λ_=>(#[]:Array VJ))) D (PR λ_=>out.toArray);rw [hf];simp only [bne_self_eq_false,PY,if_false];exact VO (q _ _ (WN hD1 λ_=>out.toArray) λb u n1 n2 z=>(u2.2 b n2).trans ((u1.2 b n1).trans z))
theorem Jh{kS D:VM}{vs ks:List VJ}{n e e1:Nat}{kp:Nat->Int×Str}{C:UB->VN->Prop}(hv:vs.length=n)(hn:ks.length=n)(h64:n < 64)(hks:s.heap.get? kS=some (V3 "list" ks.toArray e))(hD:s.heap.get? D=some (V3 "list" #[] e1))(hne:kS≠D)
 (hk:∀i v,ks[i]?=some v->iy s.heap v (kp i))(hd:∀i j,i < n->j < n->kp i=kp j->i=j)
 (q:∀p,bY n p->Up (λi j=>bp (kp i) (kp j)) p n->Bk kS D s (p.toList.map λi=>vs.getD i .none) (C (.done (.ret .none)))):VR (VS P w) A (ksk_end D false vs.toArray e1 (.ref kS) ks.toArray) C E s:=by
 unfold ksk_end;have hz:vs.toArray.size=n:=by rw [OH];exact hv
 by_cases h2:n < 2
 ·simp only [PY,if_false,hz,h2,if_true];refine VL (VO (VL (VO ?_)));refine Bl hks hD hne rfl (out:=vs) ?_ VD VD ?_
  ·show(ks.toArray.zip vs.toArray).map (·.2)=vs.toArray;apply UX.mp;simp only [UY,UZ];rw [U0 VD]
  ·have:=q _ (wA n) (λi j a b=>by omega);have e:((UA (P7 n)).toList.map λi=>vs.getD i QI)=vs:=by
    apply RK (by simp [hv]);intro i a b;simp at a b⊢;rw [OW b];rfl
   rw [e] at this;exact this
 ·simp only [PY,if_false,hz,h2];refine VL (Bi hk VD ?_);have hl:ks.length=vs.length:=VD
  refine VL (V8 (kat_run (κ:=tuples' true) (E:=λ_ _=>False) (Q:=λst' s'=>s'=s/\∃p,bY n p/\Up (λi j=>bp (kp i) (kp j)) p n/\arrOf st'=p.map (kas_item (ks.toArray.zip vs.toArray))/\failedOf st'=none) (G:=λp s'=>s'=s/\bY n p/\Up (λi j=>bp (kp i) (kp j)) p n) hl VD VD
   (λp st' s' a b c d=>⟨d.1,p,d.2.1,d.2.2,b,c⟩) ?_) (λr s' hr=>?_) λ_ _ x=>x.elim)
  ·rw [hv];exact Bj hn VD hk hd λp a b=>⟨rfl,a,b⟩
  ·obtain⟨rfl,p,p1,p2,p3,p4⟩:=hr;refine Bl hks hD hne p4 (kat_snds hl p3) ?_ VD (q p p1 p2);rw [Oe,O3,p1.size];exact h64
end
section
variable {X:Cx} {Xl:List (VM×Obj)} {σ:St} {H:Hp} {s:VN}
theorem ah.track{o:HO}{D:VM}{ch:List VM}{t':Nat}{h':VY}(I:ah X Xl σ H s)(hD:D∈ch)(f:∀b∈ch,h7 X Xl H b)(k:∀b u,b ∉ ch->s.heap.get? b=some u->h'.get? b=some u)(new:cg X.prog X.w (ai H D o) h' D o):ah X Xl σ (ai H D o) {s with heap:=h',toks:=t'}:=by
 have nC:∀b u,H b=some u->b ∉ ch:=λb u e z=>by rw [(f b z).1] at e;cases e
 have nD:∀b u,H b=some u->b≠D:=λb u e z=>nC b u e (by rw [z];exact hD);refine I.step (g':=s.gens) (d':=s.drawn) (ch:=ch) (λb hb=>?_) (λb o _ _ hc e _=>k b o hc e) (λb o _ _ hc e _=>⟨o.slots,k b o hc e⟩) (λb o hc _ n=>by rw [aC (λz=>hc (by rw [z];exact hD))];exact n)
  (λb o hc e=>⟨o,k b o hc e⟩) (λb xs e=>by rw [aC (nD _ _ e)];exact e) (λb u xs e=>by rw [aC (nD _ _ e)];exact e) (λb ps e=>⟨#[],by rw [aC (nD _ _ e),e];simp⟩) (λm hm=>hm.at' λo e=>k _ o (λz=>(f _ z).2.1 rfl) e) (λb u e=>?_) I.bare
 ·obtain⟨f0,f1,f2,f3,f4,f5⟩:=f b hb;exact⟨f3,f1,f4,f5⟩
 ·by_cases hb:b=D
  ·subst hb;rw [bA] at e;cases e;exact new
  ·rw [aC hb] at e;refine(I.hok b u e).stay (λc v hc q=>k c v (λz=>?_) q) (λc q=>by rw [aC (nD _ _ q)];exact q) (λc xs q=>by rw [aC (nD _ _ q)];exact q);rcases hc with r | r
   ·subst r;exact nC _ _ e z
   ·exact nC _ _ r z
theorem Ji{k:Nat}{f:VM}{fd:VU}{ps:List Str}{sp:Sp}{v:V}{u:VJ}{Q:VK}(Fk:aD X.prog X.w X.K X.mg X.base CX0 k f fd ps sp)(hr:bw k X.A.in1.in1)(hb:aK X.K fd ps [])(I:ah X Xl σ H s)(r:aO v u)(h:sp [v] H Q E0):
 VR (VS X.prog X.w) X.A.in1.in1 (call (.ref f) [u]) (EP X Xl σ Q) (λ_ _=>False) s:=by
 have r2:aP [v] [u]:= .cons r .nil;have hl:([u]++[]).length=ps.length:=by
  have:=Fk.len _ _ _ _ h;simpa using this
 have hb2:=hb s [u] I.kIn hl;rw [Pj] at hb2;refine wpAny_call (Wv (Fk.run X.A.in1.in1 X.stack s H ⟨[u],[]⟩ [u] [v] Q E0 hr I.env0.in1.in1 hb2 r2 h) λr s' hq=>?_);cases r with
 | error e=>exact hq.elim
 | ok fl=>
  cases fl with
  | ret u=>exact I.after hq
  | next=>exact Qq hq
  | brk=>exact Qq hq
  | cont=>exact Qq hq
def nH(X:Cx)(Xl:List (VM×Obj))(b:VM):Prop:=b≠X.env.locals/\b ∉ X.fs/\(b∈X.ex\/X.s₀.heap.objs.size<=b)/\(∀x c,X.env.cells.lookup x=some c->c≠b)/\∀p∈X.pn++Xl,p.1≠b
theorem ah.out(I:ah X Xl σ H s){b:VM}(hb:s.heap.objs.size<=b):nH X Xl b:=(I.fpOk (H':=H) hb (I.hok.fresh hb)).2
structure nI (X:Cx) (Xl:List (VM×Obj)) (σ:St) (H:Hp) (O:Ex) (kS D:VM) (e1:Nat) (kds:List VI) (ks:List VJ) (s:VN):Prop where
 ex:∃H' kvs e,ah X (Xl++[(kS,V3 "list" ks.toArray e),(D,V3 "list" #[] e1)]) σ H' s/\aw H H'/\ak X.K H' O kvs kds/\aP kvs ks
theorem nI.push{O:Ex}{kS D:VM}{e1:Nat}{kds:List VI}{ks:List VJ}{H':Hp}{kvs:List V}{e:Nat}{h':VY}{kv:V}{kd:VI}{k:VJ}(oS:nH X Xl kS)(oD:nH X Xl D)(hne:kS≠D)
 (I:ah X (Xl++[(kS,V3 "list" ks.toArray e),(D,V3 "list" #[] e1)]) σ H' s)(hs:aw H H')(hk:ak X.K H' O kvs kds)(hv:aP kvs ks)(k1:Dt X.K H' O kv kd)(k2:aO kv k)
 (hu:∃e',h'.get? kS=some (V3 "list" (ks++[k]).toArray e'))(kept:∀b u,b≠kS->s.heap.get? b=some u->h'.get? b=some u):nI X Xl σ H O kS D e1 (kds++[kd]) (ks++[k]) {s with heap:=h'}:=by
 obtain⟨e',hu⟩:=hu;have pS:=I.pin (kS,V3 "list" ks.toArray e) VH;have pD:=I.pin (D,V3 "list" #[] e1) VH;have I1:ah X Xl σ H' s:=I.pins_of λp hp=>I.pin p (by simp only [ON] at hp⊢;exact .inr (.inl hp));have I2:ah X Xl σ H' {s with heap:=h'}:=I1.turned (t':=s.toks) (it:=kS) kept pS.2.1 oS.1 oS.2.2.1 oS.2.2.2.1 oS.2.2.2.2;refine⟨H',kvs++[kv],e',I2.pins_of λp hp=>?_,hs,hk.append (.cons k1 .nil),hv.append (.cons k2 .nil)⟩;rcases ON.mp hp with z | z
 ·exact I2.pin p (Pq _ z)
 ·simp only [Ox,OY,or_false] at z;rcases z with rfl | rfl
  ·exact⟨hu,pS.2.1,oS.1,oS.2.1,λv z=>by cases z⟩
  ·exact⟨kept _ _ (Ne.symm hne) pD.1,pD.2.1,oD.1,oD.2.1,λv z=>by cases z⟩
theorem Bm{k:Nat}{f:VM}{fd:VU}{ps:List Str}{F:List VI->(VI->Prop)->Prop}{O:Ex}{kS D:VM}{e1:Nat}{kd:VI->VI}(Fk:aD X.prog X.w X.K X.mg X.base CX0 k f fd ps (aW X.K F))(hr:bw k X.A.in1.in1)(hb:aK X.K fd ps [])(trk:∀l,O l->H l≠none)
 (oS:nH X Xl kS)(oD:nH X Xl D)(hne:kS≠D){body:VJ->PUnit->Sem (ForInStep PUnit)}{E:VJ->VN->Prop}
 (hbo:∀(x:VJ) (s:VN) (Q':VN->Prop),VR (VS X.prog X.w) X.A.in1.in1 (call (.ref f) [x]) (λk s'=>VR (VS X.prog X.w) X.A.in1.in1 (TU (.ref kS) (·.push k)) (λ_ s''=>Q' s'') (λ_ _=>False) s') (λ_ _=>False) s->VR (VS X.prog X.w) X.A.in1.in1 (body x ⟨⟩) (λr s'=>r= .yield ⟨⟩/\Q' s') E s):
 ∀(r:List VJ)(xr:List V)(dr:List VI)(kds:List VI)(ks:List VJ)(s:VN)(Q:VN->Prop),aP xr r->ak X.K H O xr dr->(∀d∈dr,∀R:VI->Prop,R (kd d)->F [d] R)->nI X Xl σ H O kS D e1 kds ks s->ks.length+r.length < 64->
  (∀ks' s',nI X Xl σ H O kS D e1 (kds++dr.map kd) ks' s'->ks'.length=ks.length+r.length->Q s')->VR (VS X.prog X.w) X.A.in1.in1 (forIn r PUnit.unit body) (λ_ s'=>Q s') E s
 | [],xr,dr,kds,ks,s,Q,hv,hd,hF,M,hl,q=>by
  cases hv;cases hd;rw [List.forIn_nil];exact VO (q ks s (by rw [Pw,Pj];exact M) VH)
 | x::r,xr,dr,kds,ks,s,Q,hv,hd,hF,M,hl,q=>by
  cases hv with
  | @cons v _ xr _ h1 h2=>
   cases hd with
   | @cons _ d _ dr g1 g2=>
    rw [U4];rw [OC] at hl;obtain⟨H',kvs,e,I,hs,hk,hvk⟩:=M.ex;refine VL (V8 (hbo x s (λs'=>∃k,nI X Xl σ H O kS D e1 (kds++[kd d]) (ks++[k]) s') (V8 (Ji (Q:=λv2 H2=>aw H' H2/\Dt X.K H2 O v2 (kd d)) Fk hr hb I h1 ⟨O,[d],λy=>y=kd d,λl z e=>trk l z (by
     cases q:H l with
     | none=>rfl
     | some u=>rw [hs _ _ q] at e;cases e),.cons (g1.mono hs) .nil,hF d VH _ rfl,λy v2 H2 e s2 r2=>by subst e;exact⟨s2,r2⟩⟩) (λkk s' hq=>?_) λ_ _ z=>z)) (λr' s' hq=>?_) λ_ _ z=>z)
    ·obtain⟨kv,H2,I2,rk,s2,dk⟩:=hq;have pS:=I2.pin (kS,V3 "list" ks.toArray e) VH;refine WK pS.1 rfl ⟨kk,?_⟩ (by rw [OH];have:VV=16777216:=Wg;omega) (by rw [Array.size_push,OH];have:VV=16777216:=Wg;omega);have u1:=PD s'.heap kS (PR (·.push kk));have gk:=WN pS.1 (·.push kk);rw [show ks.toArray.push kk=(ks++[kk]).toArray by simp] at gk;exact nI.push oS oD hne I2 (hs.trans s2) (hk.mono s2) hvk dk rk ⟨_,gk⟩ λb u n z=>(u1.2 b n).trans z
    ·obtain⟨rfl,kk,M'⟩:=hq;refine Bm Fk hr hb trk oS oD hne hbo r xr dr (kds++[kd d]) (ks++[kk]) s' Q h2 g2 (λy hy=>hF y (by simp [hy])) M' (by simp;omega) λks' s2 M2 l2=>q ks' s2 ?_ (by rw [l2];simp;omega);rw [Ol,<-List.singleton_append,<-RY];exact M2
def cq(p:Int×Str):VI:= .tuple [.int p.1,.str p.2]
theorem wD{h:V}{u:VJ}{O:Ex}{p:Int×Str}(I:ah X Xl σ H s)(d:Dt X.K H O h (cq p))(r:aO h u):iy s.heap u p:=by
 obtain⟨a,xs,rfl,hq,hd⟩:=(Sh.dt d).tup;cases r;obtain⟨its,rv,⟨o,e,c,n,dd⟩,_⟩:=I.tuple hq;cases hd with
 | cons g1 g2=>
  cases g2 with
  | cons g2 g3=>
   cases g3;cases g1;cases g2;cases rv with
   | cons r1 r2=>
    cases r2 with
    | cons r2 r3=>
     cases r3;obtain⟨t,rfl⟩:=r1;obtain⟨u,rfl⟩:=r2;exact⟨a,o,n,t,u,rfl,e,c,dd⟩
theorem sT{K:Og}{H:Hp}{O:Ex}:∀{xs:List V}{ds:List VI}{i:Nat}{d:VI},ak K H O xs ds->ds[i]?=some d->∃x,xs[i]?=some x/\Dt K H O x d
 | _,_,0,d,.cons h r,e=>by simp at e;subst e;exact⟨_,rfl,h⟩
 | _,_,i+1,d,.cons h r,e=>by simp only [Py] at e⊢;exact sT r e
theorem uF{xs:List V}{us:List VJ}:∀{i:Nat}{u:VJ},aP xs us->us[i]?=some u->∃x,xs[i]?=some x/\aO x u:=by
 intro i u h e;have hl:=h.length;have hi:i < us.length:=(OB.mp e).1;obtain⟨u',e',r⟩:=h.get (show xs[i]?=some (xs[i]'VD) by simp);rw [e] at e';cases e';exact⟨_,VH,r⟩
theorem Jj{O:Ex}{kS D:VM}{e1:Nat}{kps:List (Int×Str)}{ks:List VJ}(M:nI X Xl σ H O kS D e1 (kps.map cq) ks s):(∀i v,ks[i]?=some v->iy s.heap v (kps.getD i (0,Od "")))/\ks.length=kps.length:=by
 obtain⟨H',kvs,e,I,hs,hk,hv⟩:=M.ex;have hl:ks.length=kps.length:=by rw [<-hv.length,hk.length,Oe]
 refine⟨λi v ei=>?_,hl⟩;have hi:i < kps.length:=by rw [<-hl];exact(OB.mp ei).1
 obtain⟨x,ex,rx⟩:=uF hv ei;obtain⟨y,ey,dy⟩:=sT (i:=i) (d:=cq kps[i]) hk (by rw [OD,OW hi];rfl);rw [ex] at ey;cases ey;have:kps.getD i (0,Od "")=kps[i]:=by simp [hi]
 rw [this];exact wD I dy rx
theorem Jk{k:Nat}{f:VM}{fd:VU}{ps:List Str}{F:List VI->(VI->Prop)->Prop}{O:Ex}{D:VM}{n0:Nat}{kf:VI->Int×Str}{vs:List VJ}{xs:List V}{ds:List VI}{Q:V->Hp->Prop}{C:UB->VN->Prop}{E:VJ->VN->Prop}
 (Fk:aD X.prog X.w X.K X.mg X.base CX0 k f fd ps (aW X.K F))(hr:bw k X.A.in1.in1)(hb:aK X.K fd ps [])(trk:∀l,O l->H l≠none)(I:ah X Xl σ H s)(oD:nH X Xl D)(hHD:H D=none)(hD:s.heap.get? D=some (V3 "list" vs.toArray n0))
 (hv:aP xs vs)(hd:ak X.K H O xs ds)(hF:∀d∈ds,∀R:VI->Prop,R (cq (kf d))->F [d] R)(h64:ds.length < 64)(nd:(ds.map kf).Nodup)
 (q:∀(H':Hp) (xs':List V) (ds':List VI),aw H H'->H' D=none->ak X.K H' O xs' ds'->ds'.Perm ds->ds'.Pairwise (λa b=>bp (kf a) (kf b)=true)->Q (.ref D) (ai H' D (.lst xs')))
 (fin:∀s',EP X Xl σ Q (.ref D) s'->C (.done (.ret .none)) s'):VR (VS X.prog X.w) X.A.in1.in1 (ksk_tree D (.ref f) false) C E s:=by
 have hsl:VV=16777216:=Wg;have lv:vs.length=ds.length:=by rw [<-hv.length,hd.length]
 have lD:D < s.heap.objs.size:=OM hD;unfold ksk_tree;refine VL (listItems_at hD rfl (VL (WK hD rfl ?_ (by rw [OH];omega) (Pc _))));have u1:=PD s.heap D (PR λ_=>(#[]:Array VJ));have g1:=WN hD λ_=>(#[]:Array VJ);have I1:ah X Xl σ H {s with heap:=s.heap.update D (PR λ_=>(#[]:Array VJ))}:=I.turned (t':=s.toks) (it:=D) (λb u n z=>(u1.2 b n).trans z) hHD oD.1 oD.2.2.1 oD.2.2.2.1 oD.2.2.2.2;generalize s.heap.update D (PR λ_=>(#[]:Array VJ))=h1 at*;generalize (if (#[]:Array VJ).size==vs.toArray.size then n0 else n0+1)=e1 at*;refine VL (seqEpoch_at (s:={s with heap:=h1}) g1 rfl ?_);refine VL (wpAny_newTuple ?_ (by show vs.length<=_;omega));have I2:ah X Xl σ H {s with heap:=h1.push {cls:= .type "tuple",data:= .seq vs.toArray}}:=I1.kept (t':=s.toks) λb u z=>Ou _ z;have g2:(h1.push {cls:= .type "tuple",data:= .seq vs.toArray}).get? D=some (V3 "list" #[] e1):=Ou _ g1;show VR _ _ _ _ _ {s with heap:=h1.push {cls:= .type "tuple",data:= .seq vs.toArray}};generalize h1.push {cls:= .type "tuple",data:= .seq vs.toArray}=h2 at*;refine VL (WJ (s:={s with heap:=h2}) ?_ (Pc _));have oS:nH X Xl h2.objs.size:=I2.out (Oi _);have hne:h2.objs.size≠D:=R1 (OM g2);have I3:ah X Xl σ H {s with heap:=h2.push (V3 "list" #[] 0)}:=I2.kept (t':=s.toks) λb u z=>Ou _ z;have hS0:H h2.objs.size=none:=I2.hok.fresh (Oi _);have M0:nI X Xl σ H O h2.objs.size D e1 [] [] {s with heap:=h2.push (V3 "list" #[] 0)}:=by
  refine⟨H,[],0,I3.pins_of λp hp=>?_,aw.refl _,.nil,.nil⟩;rcases ON.mp hp with z | z
  ·exact I3.pin p (Pq _ z)
  ·simp only [Ox,OY,or_false] at z;rcases z with rfl | rfl
   ·exact⟨OX _ rfl,hS0,oS.1,oS.2.1,λv z=>by cases z⟩
   ·exact⟨Ou _ g2,hHD,oD.1,oD.2.1,λv z=>by cases z⟩
 refine We ?_;unfold ksk_rest;refine VL (wpAny_rule ?_);rw [List.forIn_toArray];refine VL (Bm (kd:=λd=>cq (kf d)) (E:=E) Fk hr hb trk oS oD hne (λx s' Q' hx=>?_) vs xs ds [] [] _ _ hv hd hF M0 (by simp;omega) λks s' M hkl=>?_)
 ·refine VL (WV (V8 hx (λkk s2 hk=>?_) λ_ _ z=>z.elim));exact VL (V8 hk (λ_ s3 z=>VO ⟨rfl,z⟩) λ_ _ z=>z.elim)
 ·rw [PL,<-Function.comp_def,<-OI] at M;obtain⟨hk,hkn⟩:=Jj M;rw [Oe] at hkn;obtain⟨H',kvs,e,I4,hs,_,_⟩:=M.ex;have pS:=I4.pin (h2.objs.size,V3 "list" ks.toArray e) VH;have pD:=I4.pin (D,V3 "list" #[] e1) VH;have I5:ah X Xl σ H' s':=I4.pins_of λp hp=>I4.pin p (by simp only [ON] at hp⊢;exact .inr (.inl hp));refine VL (listItems_at pS.1 rfl ?_);refine Jh (n:=ds.length) (kp:=λi=>(ds.map kf).getD i (0,Od "")) lv hkn h64 pS.1 pD.1 hne hk (λi j hi hj ee=>?_) λp pp pu h' c gD kept=>?_
  ·have e1':(ds.map kf).getD i (0,Od "")=(ds.map kf)[i]'(by simpa using hi):=by simp [hi]
   have e2':(ds.map kf).getD j (0,Od "")=(ds.map kf)[j]'(by simpa using hj):=by simp [hj]
   rw [e1',e2'] at ee;exact(SM nd).mp ee
  ·refine fin _ ⟨.ref D,ai H' D (.lst (p.toList.map λi=>xs.getD i .non)),?_,rfl,q H' _ (p.toList.map λi=>ds.getD i .none) hs pD.2.1 ?_ ?_ ?_⟩
   ·refine I5.track (t':=s'.toks) (ch:=[h2.objs.size,D]) VH (λb hb=>?_) (λb u hb z=>kept b u (λy=>hb (by simp [y])) (λy=>hb (by simp [y])) z) ⟨?_,_,c,?_,gD⟩
    ·simp only [Ox,OY,or_false] at hb;rcases hb with rfl | rfl
     ·exact⟨pS.2.1,oS⟩
     ·exact⟨pD.2.1,oD⟩
    ·rw [Oe,O3,pp.size];omega
    ·have:∀l:List Nat,(∀i∈l,i < ds.length)->aP (l.map λi=>xs.getD i .non) (l.map λi=>vs.getD i .none):=by
      intro l
      induction l with
      | nil=>intro _;exact .nil
      | cons a l ih=>
       intro hl;have ha:=hl a VH;refine .cons ?_ (ih λi hi=>hl i (by simp [hi]));obtain⟨x,ex,rx⟩:=uF hv (show vs[a]?=some (vs[a]'VD) by simp);have e1':xs.getD a .non=x:=by simp [ex]
       have e2':vs.getD a .none=vs[a]'VD:=by simp [show a < vs.length by omega]
       show aO (xs.getD a .non) (vs.getD a .none);rw [e1',e2'];exact rx
     exact this _ λi hi=>by simpa using pp.perm.mem_iff.mp hi
   ·have:∀l:List Nat,(∀i∈l,i < ds.length)->ak X.K H' O (l.map λi=>xs.getD i .non) (l.map λi=>ds.getD i .none):=by
     intro l
     induction l with
     | nil=>intro _;exact .nil
     | cons a l ih=>
      intro hl;have ha:=hl a VH;refine .cons ?_ (ih λi hi=>hl i (by simp [hi]));obtain⟨x,ex,dx⟩:=sT (i:=a) (d:=ds[a]) hd (by simp [ha]);have e1':xs.getD a .non=x:=by simp [ex]
      have e2':ds.getD a .none=ds[a]:=by simp [ha]
      show Dt X.K H' O (xs.getD a .non) (ds.getD a .none);rw [e1',e2'];exact dx.mono hs
    exact this _ λi hi=>by simpa using pp.perm.mem_iff.mp hi
   ·have h1:=pp.perm.map λi=>ds.getD i .none;have e:(P7 ds.length).map (λi=>ds.getD i RH)=ds:=by
     apply RK VH;intro i a b;simp at a b⊢;rw [OW b];rfl
    rw [e] at h1;exact h1
   ·rw [PK,Sv];intro i j hi hj hij;have:=pu i j hij (by rw [O3,pp.size] at hj;exact hj);have ei:p.getD i 0=p.toList[i]:=by simp [RD,show i < p.size by simpa using hi]
    have ej:p.getD j 0=p.toList[j]:=by simp [RD,show j < p.size by simpa using hj]
    rw [ei,ej] at this;have li:p.toList[i] < ds.length:=by simpa using pp.perm.mem_iff.mp (Qr hi)
    have lj:p.toList[j] < ds.length:=by simpa using pp.perm.mem_iff.mp (Qr hj)
    have ff:∀a,a < ds.length->(ds.map kf).getD a (0,Od "")=kf (ds.getD a .none):=λa ha=>by simp [ha]
    dsimp only at this;rw [ff _ li,ff _ lj] at this;exact this
theorem Jl{k:Nat}{f l:VM}{fd:VU}{ps:List Str}{F:List VI->(VI->Prop)->Prop}{O:Ex}{kf:VI->Int×Str}{xs:List V}{ds:List VI}{Q:VK}
 (hc:X.calm=true)(Fk:aD X.prog X.w X.K X.mg X.base CX0 k f fd ps (aW X.K F))(hr:bw k X.A.in1.in1)(hb:aK X.K fd ps [])(trk:∀l,O l->H l≠none)(I:ah X Xl σ H s)(hq:bu X.K H l xs)
 (hd:ak X.K H O xs ds)(hF:∀d∈ds,∀R:VI->Prop,R (cq (kf d))->F [d] R)(h64:ds.length < 64)(nd:(ds.map kf).Nodup)
 (q:∀(H':Hp) (p:VM) (xs':List V) (ds':List VI),aw H H'->H' p=none->ak X.K H' O xs' ds'->ds'.Perm ds->ds'.Pairwise (λa b=>bp (kf a) (kf b)=true)->Q (.ref p) (ai H' p (.lst xs'))):
 VR (VS X.prog X.w) X.A (call (.builtin "sorted") [.ref l] [(Od "key",.ref f)]) (EP X Xl σ Q) X.xe s:=by
 have hsl:VV=16777216:=Wg;obtain⟨vs,hv,pl,hz⟩:=I.list hq;have lv:vs.length=ds.length:=by rw [<-hv.length,hd.length]
 refine call_function_entry_kw kind_sorted plain_sorted entry_sorted (ksk_s1 _ _) ?_;unfold Builtin.«sorted»;refine VL (m:=checkCount "sorted" 1 1 _) (VO ?_);refine VL (collect_list pl.isList ?_ VD);have I1:ah X Xl σ H {s with heap:=(s.heap.push (V3 "list" #[] 0)).update s.heap.objs.size (PR (·++vs.toArray))}:=by
  refine I.kept (t':=s.toks) λb u z=>?_;have hlt:b < s.heap.objs.size:=OM z;exact(Ul _ _ _ _ (O6 hlt)).trans (Ou _ z)
 generalize (s.heap.push (V3 "list" #[] 0)).update s.heap.objs.size (PR (·++vs.toArray))=h1 at*;refine VL (WJ (s:={s with heap:=h1}) ?_ VD);have I2:ah X Xl σ H {s with heap:=h1.push (V3 "list" vs.toArray 0)}:=I1.kept (t':=s.toks) λb u z=>Ou _ z;have gD:(h1.push (V3 "list" vs.toArray 0)).get? h1.objs.size=some (V3 "list" vs.toArray 0):=OX _ rfl;refine VL (We (wpAny_call_entry_kw W9 ⟨_,gD,rfl⟩ W8 ?_ (ksk_l1 _ _)));rw [ksk_t1];refine Jk (kf:=kf) Fk hr hb trk I2 (I1.out (Oi _)) (I1.hok.fresh (Oi _)) gD hv hd hF h64 nd (Q:=Q) (λH' xs' ds' a b c d e=>q H' _ xs' ds' a b c d e) λs' hs'=>?_;exact⟨_,rfl,VO ⟨_,rfl,hs'⟩⟩
end
section
variable {P:VW} {w:VX} {A:V0} {E:VJ->VN->Prop} {s:VN}
theorem Jm{D:VM}{vs:List VJ}{n n0:Nat}{kp:Nat->Int×Str}{C:UB->VN->Prop}(hv:vs.length=n)(h64:n < 64)(hD:s.heap.get? D=some (V3 "list" vs.toArray n0))(hk:∀i v,vs[i]?=some v->iy s.heap v (kp i)/\v≠ .ref D)(hd:∀i j,i < n->j < n->kp i=kp j->i=j)
 (q:∀p,bY n p->Up (λi j=>bp (kp i) (kp j)) p n->∀h' c,h'.get? D=some (V3 "list" (p.toList.map λi=>vs.getD i .none).toArray c)->(∀b u,b≠D->s.heap.get? b=some u->h'.get? b=some u)->C (.done (.ret .none)) {s with heap:=h'}):
 VR (VS P w) A (Builtin.«list.sort» ⟨[.ref D],[]⟩) C E s:=by
 have hsl:VV=16777216:=Wg;rw [list_sort_plain];refine VL (listItems_at hD rfl (VL (WK hD rfl ?_ (by rw [OH];omega) (Pc _))));have u1:=PD s.heap D (PR λ_=>(#[]:Array VJ));have g1:=WN hD λ_=>(#[]:Array VJ);have k1:∀b u,b≠D->s.heap.get? b=some u->(s.heap.update D (PR λ_=>(#[]:Array VJ))).get? b=some u:=λb u n z=>(u1.2 b n).trans z;generalize s.heap.update D (PR λ_=>(#[]:Array VJ))=h1 at*;generalize (if (#[]:Array VJ).size==vs.toArray.size then n0 else n0+1)=e1 at*;refine VL (seqEpoch_at (s:={s with heap:=h1}) g1 rfl ?_);refine VL (wpAny_newTuple ?_ (by show vs.length<=_;omega));refine VL (WJ ?_ (Pc _));have g2:((h1.push {cls:= .type "tuple",data:= .seq vs.toArray}).push {cls:= .type "list",data:= .seq ([]:List VJ).toArray}).get? D=some (V3 "list" #[] e1):=Ou _ (Ou _ g1);have k2:∀b u,b≠D->s.heap.get? b=some u->((h1.push {cls:= .type "tuple",data:= .seq vs.toArray}).push {cls:= .type "list",data:= .seq ([]:List VJ).toArray}).get? b=some u:=λb u n z=>Ou _ (Ou _ (k1 b u n z));show VR _ _ _ _ _ {s with heap:=(h1.push {cls:= .type "tuple",data:= .seq vs.toArray}).push {cls:= .type "list",data:= .seq ([]:List VJ).toArray}};generalize (h1.push {cls:= .type "tuple",data:= .seq vs.toArray}).push {cls:= .type "list",data:= .seq ([]:List VJ).toArray}=h2 at*;refine We ?_;have hz:vs.toArray.size=n:=by rw [OH];exact hv
 have last:∀(st:SortSt)(p:Array Nat),bY n p->Up (λi j=>bp (kp i) (kp j)) p n->failedOf st=none->(arrOf st).map (·.2)=(p.toList.map λi=>vs.getD i .none).toArray->
  VR (VS P w) A (do
   let touched:=(<-seqEpoch D) !=e1
   TU (.ref D) λ_=>(arrOf st).map (·.2)
   if let some e:=failedOf st then rule "list.sort.comparison-raised";throw e
   if touched then rule "list.sort.modified";raiseError "ValueError" "list modified during sort"
   ret .none) C E {s with heap:=h2}:=by
  intro st p p1 p2 hf ho;rw [ho,hf];refine VL (seqEpoch_at (s:={s with heap:=h2}) g2 rfl ?_);refine VL (WK (s:={s with heap:=h2}) g2 rfl ?_ (Pc _) (by rw [OH,Oe,O3,p1.size];omega));simp only [bne_self_eq_false,PY,if_false];have u3:=PD h2 D (PR λ_=>(p.toList.map λi=>vs.getD i QI).toArray);exact VO (q p p1 p2 _ _ (WN g2 λ_=>(p.toList.map λi=>vs.getD i QI).toArray) λb u n z=>(u3.2 b n).trans (k2 b u n z))
 by_cases h2':n < 2
 ·simp only [hz,h2',if_true];refine VL (VO (VL (VO ?_)));refine last _ (UA (P7 n)) (wA n) (λi j a b=>by omega) rfl ?_;show(vs.toArray.zip vs.toArray).map (·.2)=_;apply UX.mp;simp only [UY,UZ];rw [U0 VD];apply RK (by simp [hv]);intro i a b;simp at a b⊢;rw [OW a];rfl
 ·simp only [hz,h2',if_false];have hk2:∀i v,vs[i]?=some v->iy h2 v (kp i):=λi v e=>by
   obtain⟨⟨a,o,m,t,u,rfl,x1,x2,x3⟩,ne⟩:=hk i v e;exact⟨a,o,m,t,u,rfl,k2 a o (λz=>ne (by rw [z])) x1,x2,x3⟩
  refine VL (Bi (s:={s with heap:=h2}) hk2 VD ?_);refine VL (V8 (kat_run (κ:=tuples' true) (ks:=vs) (s:={s with heap:=h2}) (E:=λ_ _=>False) (Q:=λst' s'=>s'={s with heap:=h2}/\∃p,bY n p/\Up (λi j=>bp (kp i) (kp j)) p n/\arrOf st'=p.map (kas_item (vs.toArray.zip vs.toArray))/\failedOf st'=none) (G:=λp s'=>s'={s with heap:=h2}/\bY n p/\Up (λi j=>bp (kp i) (kp j)) p n) rfl VD VD
   (λp st' s' a b c d=>⟨d.1,p,d.2.1,d.2.2,b,c⟩) ?_) (λr s' hr=>?_) λ_ _ x=>x.elim)
  ·rw [hv];exact Bj (s:={s with heap:=h2}) hv VD hk2 hd λp a b=>⟨rfl,a,b⟩
  ·obtain⟨rfl,p,p1,p2,p3,p4⟩:=hr;exact last _ p p1 p2 p4 (kat_snds rfl p3)
end
theorem Jn{X:Cx}:dZ X (.builtin "sorted") (λxs H Q=>∃(p:VM)(us:List V)(O:Ex)(ps:List (Int×Str)),xs=[.ref p]/\bu X.K H p us/\ak X.K H O us (ps.map cq)/\ps.length < 64/\ps.Nodup/\∀(l:VM)(us':List V)(ps':List (Int×Str)),H l=none->ak X.K H O us' (ps'.map cq)->ps'.Perm ps->ps'.Pairwise (λa b=>bp a b=true)->Q (.ref l) (ai H l (.lst us'))):=by
 intro Xl s σ H xs ws Q I r h;obtain⟨l,us,O,ps,rfl,hq,hd,h64,nd,q⟩:=h;obtain⟨u,rfl,rx⟩:=fu r;cases rx;have hsl:VV=16777216:=Wg;obtain⟨vs,hv,pl,hz⟩:=I.list hq;have lv:vs.length=ps.length:=by rw [<-hv.length,hd.length,Oe]
 refine Sr kind_sorted plain_sorted entry_sorted (args_sorted1 _) ?_;unfold Builtin.«sorted»;refine VL (m:=checkCount "sorted" 1 1 _) (VO ?_);refine VL (collect_list pl.isList ?_ VD);have I1:ah X Xl σ H {s with heap:=(s.heap.push (V3 "list" #[] 0)).update s.heap.objs.size (PR (·++vs.toArray))}:=by
  refine I.kept (t':=s.toks) λb u z=>?_;have hlt:b < s.heap.objs.size:=OM z;exact(Ul _ _ _ _ (O6 hlt)).trans (Ou _ z)
 generalize (s.heap.push (V3 "list" #[] 0)).update s.heap.objs.size (PR (·++vs.toArray))=h1 at*;refine VL (WJ (s:={s with heap:=h1}) ?_ VD);have I2:ah X Xl σ H {s with heap:=h1.push (V3 "list" vs.toArray 0)}:=I1.kept (t':=s.toks) λb u z=>Ou _ z;have gD:(h1.push (V3 "list" vs.toArray 0)).get? h1.objs.size=some (V3 "list" vs.toArray 0):=OX _ rfl;have hH:H h1.objs.size=none:=I1.hok.fresh (Oi _);have oD:nH X Xl h1.objs.size:=I1.out (Oi _);have isp:∀i v,vs[i]?=some v->iy (h1.push (V3 "list" vs.toArray 0)) v (ps.getD i (0,Od ""))/\v≠ .ref h1.objs.size:=λi v ei=>by
  have hi:i < ps.length:=by rw [<-lv];exact(OB.mp ei).1
  obtain⟨x,ex,rx⟩:=uF hv ei;obtain⟨y,ey,dy⟩:=sT (i:=i) (d:=cq ps[i]) hd (by rw [OD,OW hi];rfl);rw [ex] at ey;cases ey;have e:ps.getD i (0,Od "")=ps[i]:=by simp [hi]
  rw [e];have a:=wD I1 dy rx;refine⟨wD I2 dy rx,λz=>?_⟩;obtain⟨ad,o,m,t,u,e1,e2,_⟩:=a;rw [e1] at z;cases z;exact absurd (OM e2) (QJ _)
 refine VL (We (Wb W9 ⟨_,gD,rfl⟩ W8 ?_ (args_list_sort _)));refine Jm (s:={s with heap:=h1.push (V3 "list" vs.toArray 0)}) (n:=ps.length) (kp:=λi=>ps.getD i (0,Od "")) lv h64 gD isp (λi j hi hj ee=>?_) λp pp pu h' c g kept=>?_
 ·have e1':ps.getD i (0,Od "")=ps[i]:=by simp [hi]
  have e2':ps.getD j (0,Od "")=ps[j]:=by simp [hj]
  rw [e1',e2'] at ee;exact(SM nd).mp ee
 ·have lt:∀i∈p.toList,i < ps.length:=λi hi=>by simpa using pp.perm.mem_iff.mp hi
  have dm:ak X.K H O (p.toList.map λi=>us.getD i .non) ((p.toList.map λi=>ps.getD i (0,Od "")).map cq):=by
   have:∀l:List Nat,(∀i∈l,i < ps.length)->ak X.K H O (l.map λi=>us.getD i .non) ((l.map λi=>ps.getD i (0,Od "")).map cq):=by
    intro l
    induction l with
    | nil=>intro _;exact .nil
    | cons a l ih=>
     intro hl;have ha:=hl a VH;refine .cons ?_ (ih λi hi=>hl i (by simp [hi]));obtain⟨x,ex,dx⟩:=sT (i:=a) (d:=cq ps[a]) hd (by rw [OD,OW ha];rfl);have e1':us.getD a .non=x:=by simp [ex]
     have e2':ps.getD a (0,Od "")=ps[a]:=by simp [ha]
     show Dt X.K H O (us.getD a .non) (cq (ps.getD a (0,Od "")));rw [e1',e2'];exact dx
   exact this _ lt
  have vm:aP (p.toList.map λi=>us.getD i .non) (p.toList.map λi=>vs.getD i .none):=by
   have:∀l:List Nat,(∀i∈l,i < ps.length)->aP (l.map λi=>us.getD i .non) (l.map λi=>vs.getD i .none):=by
    intro l
    induction l with
    | nil=>intro _;exact .nil
    | cons a l ih=>
     intro hl;have ha:=hl a VH;refine .cons ?_ (ih λi hi=>hl i (by simp [hi]));obtain⟨x,ex,rx⟩:=uF hv (show vs[a]?=some (vs[a]'VD) by simp);have e1':us.getD a .non=x:=by simp [ex]
     have e2':vs.getD a .none=vs[a]'VD:=by simp [show a < vs.length by omega]
     show aO (us.getD a .non) (vs.getD a .none);rw [e1',e2'];exact rx
   exact this _ lt
  refine⟨_,rfl,VO ⟨_,rfl,.ref h1.objs.size,ai H h1.objs.size (.lst (p.toList.map λi=>us.getD i .non)),?_,rfl,q _ _ (p.toList.map λi=>ps.getD i (0,Od "")) hH dm ?_ ?_⟩⟩
  ·refine I2.track (t':=s.toks) (ch:=[h1.objs.size]) VH (λb hb=>?_) (λb u hb z=>kept b u (λy=>hb (by simp [y])) z) ⟨?_,_,c,vm,g⟩
   ·rw [OS] at hb;subst hb;exact⟨hH,oD⟩
   ·rw [Oe,O3,pp.size];omega
  ·have h1:=pp.perm.map λi=>ps.getD i (0,Od "");have e:(P7 ps.length).map (λi=>ps.getD i (0,Od ""))=ps:=by
    apply RK VH;intro i a b;simp at a b⊢;rw [OW b];rfl
   rw [e] at h1;exact h1
  ·rw [PK,Sv];intro i j hi hj hij;have:=pu i j hij (by rw [O3,pp.size] at hj;exact hj);have ei:p.getD i 0=p.toList[i]:=by simp [RD,show i < p.size by simpa using hi]
   have ej:p.getD j 0=p.toList[j]:=by simp [RD,show j < p.size by simpa using hj]
   rw [ei,ej] at this;exact this
section
variable {X:Cx} {H0:Hp} {O0:Ex}
def nJ(t:DA):DA:=λδ Q=>t δ λds=>∃ps:List (Int×Str),ds=[.list (ps.map cq)]/\ps.length < 64/\ps.Nodup/\∀ps':List (Int×Str),ps'.Perm ps->ps'.Pairwise (λa b=>bp a b=true)->Q (ps'.map cq)
theorem Bn{a:VT}{t:DA}{np p:Pos}(hg:Gl X "sorted")(hm:X.mg "sorted"=none)(hv:V1 "sorted"=some (.builtin "sorted"))(ha:PA X [a] (iq X.K H0 O0 t))(he:VQ [a] X.env=(false,eval a X.env)::VQ [] X.env:=by rfl)(hpl:(V4 p (VQ [] X.env)).any (·.1)=false:=by rfl):
 FE X H0 O0 (.Call (.Name "sorted" np) [a] [] p) (nJ t):=
 (bV Jn hg hm hv ha (he:=he) (hpl:=hpl)).imp λσ H Q uu3=>by obtain⟨O,δ,Qd,w,q,k⟩:=uu3;exact⟨O,δ,_,w,q,λds vs H1 uu4 s1 r1=>by
  obtain⟨ps,e,h64,nd,q1⟩:=uu4;subst e;cases r1 with
  | cons h r=>
   cases r;obtain⟨a,us,rfl,h1,d1⟩:=h.lst;exact⟨a,us,O,ps,rfl,h1,d1,h64,nd,λl us' ps' hl hd hp hs=>k _ _ _ _ (q1 ps' hp hs) s1 hl hd⟩⟩
def nK(F:List VI->(VI->Prop)->Prop)(kf:VI->Int×Str)(t:DA):DA:=λδ Q=>t δ λds0=>∃ds,ds0=[.list ds]/\(∀d∈ds,∀R:VI->Prop,R (cq (kf d))->F [d] R)/\ds.length < 64/\(ds.map kf).Nodup/\∀ds',ds'.Perm ds->ds'.Pairwise (λa b=>bp (kf a) (kf b)=true)->Q ds'
theorem Bo{a:VT}{t:DA}{np p gp kp:Pos}{g:Str}{k:Nat}{f:VM}{fd:VU}{ps:List Str}{F:List VI->(VI->Prop)->Prop}(kf:VI->Int×Str)(hc:X.calm=true)(Fk:aD X.prog X.w X.K X.mg X.base CX0 k f fd ps (aW X.K F))(hr:bw k X.A.in1.in1)(hb:aK X.K fd ps [])
 (hgg:Gl X g)(hgm:X.mg g=some (.ref f))(hg:Gl X "sorted")(hm:X.mg "sorted"=none)(hv:V1 "sorted"=some (.builtin "sorted"))(ha:PA X [a] (iq X.K H0 O0 t))(hdb:(g==("__debug__":Str))=false:=by decide)
 (he:V4 p (VQ [a] X.env)=(false,eval a X.env)::V4 p (VQ [] X.env):=by rfl)(hplain:(V4 p (VQ [a] X.env)).any (·.1)=false:=by rfl):
 FE X H0 O0 (.Call (.Name "sorted" np) [a] [⟨some "key",.Name g gp,kp⟩] p) (nK F kf t):=by
 intro Xl s σ H Q I h;obtain⟨O,δ,Qd,w,q,kk⟩:=h;refine Wq (oB I hg hm hv ?_);refine callWith_kw (aG (ha p Xl s σ H (λvs H1=>∃ds0,aw H H1/\qP X.K H1 O vs ds0/\∃ds,ds0=[.list ds]/\(∀d∈ds,∀R:VI->Prop,R (cq (kf d))->F [d] R)/\ds.length < 64/\(ds.map kf).Nodup/\∀ds',ds'.Perm ds->ds'.Pairwise (λa b=>bp (kf a) (kf b)=true)->Qd ds') I ⟨O,δ,_,w,q,λds0 vs H1 q1 s1 r1=>⟨ds0,s1,r1,q1⟩⟩) λus s1 hus=>?_) he hplain rfl rfl;obtain⟨vs,H1,I1,rv,ds0,s1',r1,ds,e,hF,h64,nd,q1⟩:=hus;subst e;refine kws_cons (sg I1 hgg hgm (kws_nil ?_) hdb);cases r1 with
 | cons h r=>
  cases r;obtain⟨ad,xs,rfl,hq,hd⟩:=h.lst;obtain⟨u,rfl,rx⟩:=fu rv;cases rx;exact Jl (kf:=kf) hc Fk hr hb (w.mono s1').trk I1 hq hd hF h64 nd λH' l xs' ds' a b c d e=>kk _ _ _ _ (q1 ds' d e) (s1'.trans a) b c
end
section
open PySem.SeqAt
open PySem.AutoSeq1 (wpAny_loadPart')
open PySem.MeetsSeq PySem.MeetsSeq2 PySem.MeetsSeq3
theorem Jo(l b:VM)(n n2:Nat)(dd dd2:Option VM)(sl sl2:Array (Option VJ))(p q:Int×Str)(t1 t2 t3 t4:Tok):
 Meets (Builtin.«tuple.__lt__» ⟨[.ref l,.ref b],[]⟩)
  (λ_ R s=>s.heap.get? l=some {cls:= .type "tuple",dict:=dd,data:= .seq #[.int p.1 t1,.str p.2 t2] n,slots:=sl}/\s.heap.get? b=some {cls:= .type "tuple",dict:=dd2,data:= .seq #[.int q.1 t3,.str q.2 t4] n2,slots:=sl2}/\
   R (.ok (.ret (.bool (bp p q)))) s):=
 .of_wp λprog w A R s h=>by
  obtain⟨hp,g,d,tk,os⟩:=s;obtain⟨hl,hb,h⟩:=h;have f2:=AutoSeq1.sub_tuple_tuple
  wp_walk using Wk hl,Wk hb,wpAny_forIn_list _ (λrest b s'=>b.1=none/\s'=⟨hp,g,d,tk,os⟩/\(rest=[(QF p.1 t1,QF q.1 t3),(RG p.2 t2,RG q.2 t4)]\/(rest=[(RG p.2 t2,RG q.2 t4)]/\p.1=q.1)\/(rest=[]/\p.1=q.1/\p.2=q.2))) _
  case turn=>
   rintro⟨y,x⟩ rest b s' ⟨hb',rfl,h3⟩;rcases h3 with h3 | ⟨h3,e1⟩ | ⟨h3,_⟩
   ·injection h3 with hyx hrest
    injection hyx with hy hx
    subst hy hx;obtain⟨e,he,hiff⟩:=HT.eqAt_int A.in1 ⟨hp,g,d,tk,os⟩ p.1 t1 q.1 t3;refine VL (he prog w _ _ ?_);cases e with
    | true=>
     wp_walk
     exact⟨rfl,rfl,.inr (.inl ⟨hrest,hiff.mp rfl⟩)⟩
    | false=>
     have ne:p.1≠q.1:=λz=>absurd (hiff.mpr z) Ot;have hri:=HT.rcLt_int A.in1 ⟨hp,g,d,tk,os⟩ p.1 t1 q.1 t3 prog w;have hv:bp p q=decide (p.1 < q.1):=by unfold bp;simp [ne]
     rw [hv] at h
     wp_walk using hri
     exact⟨_,rfl,by simpa using h⟩
   ·injection h3 with hyx hrest
    injection hyx with hy hx
    subst hy hx;have he:=EqAt.str_str (A:=A.in1) (s:=⟨hp,g,d,tk,os⟩) p.2 t2 q.2 t4;refine VL (he prog w _ _ ?_);cases e:(p.2==q.2) with
    | true=>
     wp_walk
     exact⟨rfl,rfl,.inr (.inr ⟨hrest,e1,eq_of_beq e⟩)⟩
    | false=>
     have hri:∀(E:VJ->VN->Prop)(Q:VJ->VN->Prop),Q (.bool (decide (p.2.cps.toList < q.2.cps.toList))) ⟨hp,g,d,tk,os⟩->VR (VS prog w) A.in1 (richCompare .Lt (.str p.2 t2) (.str q.2 t4)) Q E ⟨hp,g,d,tk,os⟩:=λE Q z=>(lt_str z:VR (VS prog w) A.in1 (V6 .Lt (.str p.2 t2) (.str q.2 t4)) Q E _);have hv:bp p q=decide (p.2.cps.toList < q.2.cps.toList):=by unfold bp;simp [e1]
     rw [hv] at h
     wp_walk using hri
     exact⟨_,rfl,by simpa using h⟩
   ·cases h3
  case fin=>
   rintro⟨b1,b2⟩ s' ⟨hb',rfl,h3⟩;simp only at hb';subst hb';rcases h3 with h3 | ⟨h3,e1⟩ | ⟨h3,e1,e2⟩
   ·cases h3
   ·cases h3
   ·have hv:bp p q=false:=by unfold bp;rw [e1,e2];simp
    rw [hv] at h
    wp_walk
    exact⟨_,rfl,by simpa [Builtin.Tuple.tupleCompareSizes] using h⟩
  case h=>
   exact⟨rfl,rfl,.inl rfl⟩
end
def Bp(K:Og):R2:=λx y H Q=>∃a b p q,x= .ref a/\y= .ref b/\bC K H a [.int p.1,.str p.2]/\bC K H b [.int q.1,.str q.2]/\Q (.bl (bp p q)) H
theorem Jp{X:Cx}(hu:X.A.units < Wa):bU X (V6 .Lt) (Bp X.K):=by
 intro Xl s σ H x y v u Q I rx ry h;obtain⟨a,b,p,q,rfl,rfl,ha,hb,z⟩:=h;cases rx;cases ry;obtain⟨its,r1,⟨⟨c1,d1,da1,s1⟩,o1,k1,n1,e1⟩,_⟩:=I.tuple ha;obtain⟨its2,r2,⟨⟨c2,d2,da2,s2⟩,o2,k2,n2,e2⟩,_⟩:=I.tuple hb;simp only at k1 e1 k2 e2;subst k1 e1 k2 e2;cases r1 with
 | cons x1 r1=>
  cases r1 with
  | cons x2 r1=>
   cases r1;obtain⟨t1,rfl⟩:=x1;obtain⟨t2,rfl⟩:=x2;cases r2 with
   | cons y1 r2=>
    cases r2 with
    | cons y2 r2=>
     cases r2;obtain⟨t3,rfl⟩:=y1;obtain⟨t4,rfl⟩:=y2;exact richCompare_meets_room (op:= .Lt) ⟨_,o1,rfl⟩ ⟨_,o2,rfl⟩ PySem.F.slot_tuple_lt PySem.F.entry_tuple_lt (PySem.F.args_tuple_lt_2 _ _) (Jo a b n1 n2 d1 d2 s1 s2 p q t1 t2 t3 t4) ⟨o1,o2,(λx=>nomatch x),.bl (bp p q),H,I,rfl,z⟩ hu
def nL:VI->VI->(VI->Prop)->Prop:=λx y Q=>∃p q:Int×Str,x=cq p/\y=cq q/\Q (.bool (bp p q))
theorem Jq{K:Og}:cN K (Bp K) nL:=λH O x y dx dy Qd R _ hx hy uu5 k=>by
 obtain⟨p,q,e1,e2,z⟩:=uu5;subst e1 e2;obtain⟨a,xs,rfl,h1,g1⟩:=hx.tup;obtain⟨b,ys,rfl,h2,g2⟩:=hy.tup;cases g1 with
 | cons x1 g1=>
  cases g1 with
  | cons x2 g1=>
   cases g1;cases x1;cases x2;cases g2 with
   | cons y1 g2=>
    cases g2 with
    | cons y2 g2=>
     cases g2;cases y1;cases y2;exact⟨a,b,p,q,rfl,rfl,h1,h2,k _ _ H z (aw.refl _) (.bl _)⟩
section
variable {X:Cx} {H0:Hp} {O0:Ex}
def Jr(tc:DB)(tb:DS):DS:=λE δ=>∃W:Nat->Dl->Prop,(∃m,W m δ)/\∀m δ,W m δ->tc δ λb=>if b=true then tb {E with nx:=λδ'=>∃m',m' < m/\W m' δ',ct:=λδ'=>∃m',m' < m/\W m' δ',bk:=E.nx} δ else E.nx δ
theorem Js{c:VT}{body:List VZ}{tc:DB}{tb:DS}{pos:Pos}(hp:WO (VS X.prog X.w) X.A X.env X.xe)(hc:PT X c (b5 X.K H0 O0 tc))(hb:bX X body (bz X.K H0 O0 tb)):PS X (.While c body [] pos) (bz X.K H0 O0 (Jr tc tb)):=
 (zh hp hc hb).imp λD σ H uu6=>by
  obtain⟨O,δ,E,w,⟨W,⟨m0,w0⟩,st⟩,k1,k2,k3,k4⟩:=uu6;refine⟨λm σ' H'=>∃O' δ',Wd X.K H0 O0 H' O' σ' δ'/\aS H H' O O'/\W m δ',⟨m0,O,δ,w,aS.refl _ _,w0⟩,λm σ1 H1 ⟨O1,δ1,w1,S1,q1⟩=>⟨O1,δ1,_,w1,st m δ1 q1,λb H2 q2 s2=>?_⟩⟩;cases b with
  | false=>
   rw [VE VH] at q2⊢;exact k1 O1 δ1 σ1 H2 q2 (w1.mono s2) (S1.trans (.same s2))
  | true=>
   rw [VF rfl] at q2⊢;refine⟨λσ' H'=>∃O' δ' m',m' < m/\Wd X.K H0 O0 H' O' σ' δ'/\aS H H' O O'/\W m' δ',λσ' H' uu8=>by obtain⟨O',δ',m',lt,w',S',q'⟩:=uu8;exact⟨m',lt,O',δ',w',S',q'⟩,O1,δ1,_,w1.mono s2,q2,?_,k2,?_,?_⟩
   ·rintro O' δ' σ' H' ⟨m',lt,q'⟩ w' S';exact⟨O',δ',m',lt,w',S1.trans ((aS.same s2).trans S'),q'⟩
   ·intro O' δ' σ' H' q' w' S';exact k1 O' δ' σ' H' q' w' (S1.trans ((aS.same s2).trans S'))
   ·rintro O' δ' σ' H' ⟨m',lt,q'⟩ w' S';exact⟨O',δ',m',lt,w',S1.trans ((aS.same s2).trans S'),q'⟩
theorem bJ.vals{K:Og}{H:Hp}{O:Ex}{kv:List (au×V)}{kd:List (au×VI)}(h:bJ K H O kv kd):ak K H O (kv.map (·.2)) (kd.map (·.2)):=by
 induction h with
 | nil=>exact .nil
 | cons a _ ih=>exact .cons a ih
abbrev fW(ks:List Str)(ds:List VI):VI:=Ag (ks.map .str) ds
def nM(i:Nat)(t:DS):DS:=λE δ=>∃kd,δ[i]?=some (some (.k kd))/\∃ks:List Str,kd.map (·.1)=ks.map P4/\t E (δ.set i (some (.v (fW ks (kd.map (·.2))))))
theorem cQ.z{H:Hp}{a:VM}{ob:Obj}{kvs:List (au×V)}{k:au}(e:H a=some (.frz ob (.dK kvs))):cQ H a (kV k) (dW kvs k):= .inl ⟨kvs,k,.inr ⟨ob,e⟩,rfl,rfl⟩
theorem ah.fast{X:Cx}{Xl:List (VM×Obj)}{σ:St}{H:Hp}{s:VN}(I:ah X Xl σ H s){a:VM}{kv:List (au×V)}(ha:H a=some (.dK kv)):∃o,ah X Xl σ (ai H a (.frz o (.dK kv))) s:=by
 obtain⟨z,hd,vs,rel,o,es,ep,g,r1,r2,r3⟩:=I.hok a _ ha;exact⟨o,I.write (x:=a) (e:=a) (o:= .frz o (.dK kv)) (h':=s.heap) (t':=s.toks) (by rw [ha];exact Qi) (.inl rfl) (λ_ _ _ q=>q) ⟨o,g⟩ ⟨g,z,hd,vs,rel,o,es,ep,g,r1,r2,r3⟩⟩
theorem Jt{st:VZ}{t:TS}(h:PS X st t)(i:Nat):PS X st (λD σ H=>∃a kv,σ[i]?=some (some (.ref a))/\H a=some (.dK kv)/\∀o,t D σ (ai H a (.frz o (.dK kv)))):=by
 intro Xl s σ H D I q;obtain⟨a,kv,_,ha,q⟩:=q;obtain⟨o,I2⟩:=I.fast ha;exact h Xl s σ _ D I2 (q o)
theorem Wd.tell{K:Og}{H0 H:Hp}{O0 O:Ex}{σ:St}{δ:Dl}(w:Wd K H0 O0 H O σ δ){i:Nat}{v:V}{d:VI}(h:σ[i]?=some (some v))(hd:Dt K H O v d):Wd K H0 O0 H O σ (δ.set i (some (.v d))):=by
 have li:i < δ.length:=by rw [<-w.len];exact(OB.mp h).1
 have ne:∀{j:Nat}{y:Sl},(δ.set i (some (.v d)))[j]?=some (some y)->y.own->j≠i:=λ{j y} q hy z=>by
  subst z;rw [OU li] at q;cases q;exact hy
 refine⟨w.same,w.sub,w.new,w.trk,by simp [w.len],λj y q=>?_,λj k y z l' e1 y1 e2 z2 e3 e4=>?_⟩
 ·by_cases hj:j=i
  ·subst hj;rw [OU li] at q;cases q;exact⟨v,by rw [h];rfl,hd⟩
  ·rw [OF (Ne.symm hj)] at q;exact w.sl j y q
 ·have n1:=ne e1 y1;have n2:=ne e2 z2;rw [OF (Ne.symm n1)] at e1;rw [OF (Ne.symm n2)] at e2;exact w.dis j k _ _ l' e1 y1 e2 z2 e3 e4
theorem wF(i:Nat){st:VZ}{t:DS}(h:PS X st (bz X.K H0 O0 t)):PS X st (bz X.K H0 O0 (nM i t)):=
 (Jt h i).imp λD σ H uu9=>by
  obtain⟨O,δ,E,w,⟨kd,e,ks,ek,q⟩,k1,k2,k3,k4⟩:=uu9;obtain⟨l,kv,h,a,b,c,r⟩:=w.ownK e;refine⟨l,kv,h,c,λo=>?_⟩;obtain⟨O',w',S,n⟩:=w.frzK (y0:= .k kd) e trivial h (.frz o (.dK kv));have w2:=w'.tell (d:=fW ks (kd.map (·.2))) h (.dic bA (by rw [r.keys];exact ek) rfl n (r.vals.step S));rw [List.set_set] at w2;exact⟨O',_,E,w2,q,λO2 δ2 σ2 H2 z2 w2 S2=>k1 O2 δ2 σ2 H2 z2 w2 (S.trans S2),k2,λO2 δ2 σ2 H2 z2 w2 S2=>k3 O2 δ2 σ2 H2 z2 w2 (S.trans S2),λO2 δ2 σ2 H2 z2 w2 S2=>k4 O2 δ2 σ2 H2 z2 w2 (S.trans S2)⟩
theorem rg:∀{a b:List Str},a.map Oj=b.map Oj->a=b
 | [],[],_=>rfl
 | [],_::_,h=>by cases h
 | _::_,[],h=>by cases h
 | x::a,y::b,h=>by
  simp only [Ol,Pe,P1] at h;rw [h.1,rg h.2]
def br:List Str->List VI->Str->Option VI
 | k::ks,d::ds,z=>if k=z then some d else br ks ds z
 | _,_,_=>none
theorem sU{K:Og}{H:Hp}{O:Ex}{z:Str}{d:VI}:∀{kv:List (au×V)}{ks:List Str}{ds:List VI},kv.map (·.1)=ks.map P4->ak K H O (kv.map (·.2)) ds->br ks ds z=some d->∃v,dW kv (.inr z)=some v/\Dt K H O v d
 | [],[],ds,_,_,e=>by unfold br at e;cases e
 | [],_::_,ds,h,_,_=>by cases h
 | _::_,[],ds,h,_,_=>by cases h
 | p::kv,k::ks,ds,h,hd,e=>by
  rw [Ol] at hd;cases hd with
  | cons h1 h2=>
   simp only [Ol,Pe] at h;obtain⟨p1,p2⟩:=p;obtain⟨rfl,h⟩:=h;unfold br at e;by_cases hk:k=z
   ·rw [VF hk] at e;cases e;exact⟨p2,sP (by rw [hk]),h1⟩
   ·rw [VE hk] at e;obtain⟨v,a,b⟩:=sU h h2 e;exact⟨v,by rw [qV (λq=>hk (ja.mp q))];exact a,b⟩
def jd(to tk:DT):DT:=λδ Q=>to δ λx=>∃ks ds,x=fW ks ds/\tk δ λy=>∃z,y= .str z/\∃d,br ks ds z=some d/\Q d
theorem uG{o e:VT}{to tk:DT}{pos:Pos}(hu:X.A.units+64 < Wa)(ho:DE X H0 O0 o to)(he:DE X H0 O0 e tk)(hs:uj e):DE X H0 O0 (.Subscript o e pos) (jd to tk):=
 (Aw VD ho he hs).imp λσ H Q uu10=>by
  obtain⟨O,δ,Qd,w,q,k⟩:=uu10;refine⟨O,δ,_,w,q,λx vx H1 ⟨ks,ds,ex,q1⟩ s1 r1=>?_⟩;subst ex;refine⟨O,δ,_,w.mono s1,q1,λy vy H2 ⟨z,ey,d,ed,q2⟩ s2 r2=>?_⟩;subst ey;cases r2;cases r1 with
  | @dic a ob kv ks' kp ds h e1 e2 n rr=>
   have ek:ks'=ks:=by
    have:ks'.map Oj=ks.map Oj:=e2.symm;exact rg this
   subst ek;obtain⟨v,hv,dv⟩:=sU e1 rr ed;exact⟨a,v,rfl,by rw [<-hv];exact cQ.z (k:= .inr z) (s2 _ _ h),k _ _ _ q2 (s1.trans s2) (dv.mono s2)⟩
theorem ak.ofInts{K:Og}{H:Hp}{O:Ex}:∀(ns:List Int),ak K H O (ns.map V.int) (ns.map OJ)
 | []=>.nil
 | n::ns=>.cons (.int n) (ak.ofInts ns)
def nN(t:DT)(g:DG)(tc:DB)(te:DT)(k:Nat)(fr:List Nat):DA:=λδ Q=>i4 t g tc te k fr δ Q\/i5 t g tc te k fr δ Q
theorem Ju{N':List Str}{k:Nat}{fr:List Nat}{scope:Wm}{iter elt tg:VT}{ifs:List VT}{t te:DT}{tc:DB}{g:TG}{dg:DG}{pos:Pos}(hc:X.calm=true)(S:bq X.env.scope X.N N' k fr scope)(hi:DF X H0 O0 iter t)(gd:GD X.K g dg)(hk:j5 g k)(hfr:fr.Nodup)
 (hg:∀fp C s H,PG (bL X scope N' fp C s H) tg g)(hf:∀fp C s H,fx (bL X scope N' fp C s H) ifs (b5 X.K H0 O0 tc))(he:∀fp C s H,PE (bL X scope N' fp C s H) elt (up X.K H0 O0 te))
 (hs:∀x,V2 iter X.env x=pure x:=by intro _;rfl):FE X H0 O0 (.ListComp elt [⟨tg,iter,ifs,0⟩] scope pos) (nN t dg tc te k fr):=by
 intro Xl s σ H Q I h;obtain⟨O,δ,Qd,w,q,kk⟩:=h;rcases q with q | q
 ·exact dU hc S hi gd hk hfr hg hf he hs Xl s σ H Q I ⟨O,δ,Qd,w,q,kk⟩
 ·exact i6 hc S hi gd hk hfr hg hf he hs Xl s σ H Q I ⟨O,δ,Qd,w,q,kk⟩
end
theorem Jv{fr:List Nat}{σ:St}{v u:Option V}:oF (bI 2 fr σ) (((bI 2 fr σ).set 0 v).set 1 u):=by
 refine⟨VH,λi w h=>?_⟩
 match i with
 | 0=>simp [bI,OL] at h
 | 1=>simp [bI,OL] at h
 | i+2=>simpa [bI,OL] using h
theorem uH{K:Og}{n:Nat}:j5 (tJ K n (sh (iQ 0) (sh (iQ 1) tI))) 2:=λfr σ v H' R uu13=>by obtain⟨a,xs,e,h1,h2,x,r,e1,y,r2,e2,e3,h⟩:=uu13;exact⟨a,xs,e,h1,h2,x,r,e1,y,r2,e2,e3,Jv,h⟩
section
variable {X:Cx} {H0:Hp} {O0:Ex}
theorem nO{T:String}{a c:VT}{t:DT}{np p:Pos}{K':Og}(hK:X.K=K')(hg:Gl X "isinstance")(hm:X.mg "isinstance"=none)(hv:V1 "isinstance"=some (.builtin "isinstance"))(ha:DF X H0 O0 a t)(hc:PE X c (tC (.ty T)))
 (hs:VQ [a,c] X.env=(false,eval a X.env)::VQ [c] X.env:=by rfl)(hs2:VQ [c] X.env=[(false,eval c X.env)]:=by rfl)(hb:(V4 p (VQ [c] X.env)).any (·.1)=false:=by rfl):DE X H0 O0 (.Call (.Name "isinstance" np) [a,c] [] p) (j8 K' T t):=by
 subst hK;exact Hy hg hm hv ha hc hs hs2 hb
end
def dO(f:Str)(d:VI):List (Str×VI)->List (Str×VI)
 | []=>[(f,d)]
 | (g,x)::r=>if g=f then(g,d)::r else(g,x)::dO f d r
theorem ij.put{K:Og}{H:Hp}{O:Ex}{f:Str}{v:V}{d:VI}(hv:Dt K H O v d):∀{fs:List (Str×V)}{fd:List (Str×VI)},ij K H O fs fd->ij K H O (dD f v fs) (dO f d fd)
 | [],[],_=>⟨rfl,.cons hv .nil⟩
 | [],_::_,h=>by cases h.1
 | _::_,[],h=>by cases h.1
 | (g,x)::fs,(g',y)::fd,⟨h1,h2⟩=>by
  simp only [Ol,Pe] at h1;obtain⟨rfl,h1⟩:=h1;simp only [Ol] at h2;cases h2 with
  | cons a r=>
   unfold dD dO;by_cases e:g=f
   ·rw [VF e,VF e];exact⟨by simp only [Ol,h1],.cons hv r⟩
   ·rw [VE e,VE e];obtain⟨q1,q2⟩:=ij.put hv (fs:=fs) (fd:=fd) ⟨h1,r⟩;exact⟨by simp only [Ol,q1],.cons a q2⟩
section
variable {X:Cx} {H0:Hp} {O0:Ex}
def nP(C:VM)(i:Nat)(f:Str)(t:DT):DS:=λE δ=>t δ λd=>∃l fd,δ[i]?=some (some (.i l C fd))/\fd.length < 1000/\E.nx (δ.set i (some (.i l C (dO f d fd))))
theorem fE{C:VM}{i:Nat}{f:Str}{o e:VT}{t:DT}{pos pos':Pos}(hc:dE X.K C)(hn:cj X.K C f)(ho:PE X o (dh i))(he:DE X H0 O0 e t)(hs:V5 e (some (.Attribute o f pos')) pos.line X.env=pure false:=by rfl):
 PS X (.Assign [.Attribute o f pos'] e pos) (bz X.K H0 O0 (nP C i f t)):=
 (vK ho he hs).imp λD σ H ⟨O,δ,E,w,q,k1,k2,k3,k4⟩=>⟨O,δ,_,w,q,λd u H1 uu15 s1 r1=>by
  obtain⟨l,fd,e,hl,q1⟩:=uu15;have w1:=w.mono s1;obtain⟨dx,fs,h,a,b,c,r⟩:=w1.ownI e;have lf:fs.length=fd.length:=by have:=congrArg S9 r.1;simpa using this
  refine⟨.ref l,h,l,C,dx,fs,rfl,c,hc,hn,by rw [lf];exact hl,k1 _ _ _ _ q1 (w1.putY (y0:= .i l C fd) (y1:= .i l C (dO f d fd)) trivial trivial e h λS a b=>⟨dx,_,rfl,a,b,bA,?_⟩) ⟨λb' o' z n=>?_,λ_ _ n=>n⟩⟩
  ·obtain⟨z1,z2⟩:=r.put (f:=f) r1;exact⟨z1,z2.step S⟩
  ·rw [aC (λy=>n (by rw [y];exact a))];exact s1 _ _ z⟩
abbrev Bq(C:VM)(fd:List (Str×VI)):VI:=fA C (fd.map λp=>.str p.1) (fd.map (·.2))
def uI(K:Og)(C:VM)(F:List VI->(VI->Prop)->Prop):Sp:=λvs H Q _=>∃x dx vs' H1 O ds Qd,vs= .ref x::vs'/\H=ai (ai H1 dx (.own x)) x (.ins C dx [])/\H1 x=none/\H1 dx=none/\dx≠x/\(∀l,O l->H1 l≠none)/\ak K H1 O vs' ds/\F ds Qd/\
 ∀d H',Qd d->aw H1 H'->Dt K H' O (.ref x) d->Q .non H'
theorem wG{K:Og}{C:VM}{F:List VI->(VI->Prop)->Prop}{t:DA}{E:XK}:∀σ H Q,up K H0 O0 (gP F t) σ H Q->zG C (uI K C F) [] E (gN K H0 O0 t) σ H Q:=
 λσ H Q uu16=>by obtain⟨O,δ,Qd,w,q,k⟩:=uu16;exact⟨O,δ,_,w,q,λds vs H1 q1 s1 r1 x dx hx hdx ne=>⟨x,dx,vs,H1,O,ds,Qd,by rw [Pj],rfl,hx,hdx,ne,(w.mono s1).trk,r1,q1,λd H2 q2 s2 r2=>⟨rfl,k d _ H2 q2 (s1.trans s2) r2⟩⟩⟩
def uJ(N:List Str)(l C:VM)(ds:List VI):Dl:=some (.i l C [])::(fh N (.none::ds)).tail
theorem Jw{K:Og}{H1:Hp}{O:Ex}{N:List Str}{vs:List V}{ds:List VI}{x dx C:VM}(tr:∀l,O l->H1 l≠none)(r:ak K H1 O vs ds)(hx:H1 x=none)(hdx:H1 dx=none)(ne:dx≠x):
 Wd K H1 O (ai (ai H1 dx (.own x)) x (.ins C dx [])) (λl=>O l\/l=x) (start N (.ref x::vs)) (uJ N x C ds):=by
 have w0:=Am (N:=N) tr (.cons .non r);have w1:=w0.mono (aw.new (o:=HO.own x) hdx);have hx1:(ai H1 dx (.own x)) x=none:=by rw [aC (Ne.symm ne)];exact hx
 have:=w1.setY (i:=0) (p:=x) (ho:= .ins C dx []) (y0:= .i x C []) trivial hx1 λO' S a b=>⟨dx,[],rfl,a,b,bA,rfl,.nil⟩;exact this
end
section
variable {P:VW} {w:VX} {K:Og} {mg:Str->Option VJ} {base:VY}
theorem aQ.okI{x qual:Str}{st:VZ}{f C:VM}{fd:VU}{N ps:List Str}{k:Nat}{F:List VI->(VI->Prop)->Prop}(Fu:aQ K x qual st f fd)(S:aV N ps (ag st))(len:∀ds Q,F ds Q->ds.length+1=ps.length)
 (hbody:∀(cdv:VJ) (A:V0) (outer:List Env) (s:VN) (H H1:Hp) (O:Ex) (ds:List VI) (Q:VI->Prop) (E:XK) (l:VM),bw k (A.deeper (WI qual (ag st) s.heap.objs.size f cdv))->F ds Q->
  ∃t,bX (ie CX0 P w K mg base N qual (ag st) f cdv A outer s H E).nox (ar st) (bz K H1 O t)/\t {nx:=λδ=>∃fd,δ[0]?=some (some (.i l C fd))/\Q (Bq C fd),rt:=λ_=>False} (uJ N l C ds)):aD P w K mg base CX0 (k+1) f fd ps (uI K C F):=by
 refine Fu.ok S (λvs H Q E h=>?_) (λcdv A outer s H vs Q E hr h=>?_)
 ·obtain⟨x,dx,vs',H1,O,ds,Qd,rfl,_,_,_,_,_,r,q,_⟩:=h;rw [OC,r.length];exact len _ _ q
 ·obtain⟨x,dx,vs',H1,O,ds,Qd,rfl,rfl,hx,hdx,ne,tr,r,q,k⟩:=h;obtain⟨t,ht,q'⟩:=hbody cdv A outer s _ H1 O ds Qd E x hr q;refine⟨_,ht,_,_,_,Jw tr r hx hdx ne,q',λO' δ' σ' H' z w' S'=>?_,λd v H' z s' r'=>z.elim,λ_ _ _ _ z=>z.elim,λ_ _ _ _ z=>z.elim⟩;obtain⟨fd,e,z⟩:=z;obtain⟨dx',fs,h,a,b,c,r1,r2⟩:=w'.ownI e;refine k _ _ z w'.same (.obj c ?_ b (r2.step ⟨λ_ _ y _=>y,λb' _ n z=>n (w'.sub b' z)⟩));rw [show(fd.map λp:Str×VI=>Oj p.1)=(fd.map (·.1)).map Oj by rw [OI];rfl,<-r1,OI];rfl
end
theorem Dt.objI{K:Og}{H:Hp}{O:Ex}{v:V}{C:VM}{kp ds:List VI}(h:Dt K H O v (fA C kp ds)):∃a dx fs,v= .ref a/\H a=some (.ins C dx fs)/\kp=fs.map (λp=>Oj p.1)/\ak K H O (fs.map (·.2)) ds:=by
 generalize e:fA C kp ds=x at h;cases h with
 | @obj a C' dx fs kp' ds' h1 h2 n r=>
  simp only [fA,UM,Pe,SK,PZ,PM,Qv,and_true,true_and] at e;obtain⟨e1,e2,e3⟩:=e;have e1:C=C':=by exact_mod_cast e1
  subst e1 e2 e3;exact⟨a,dx,fs,rfl,h1,h2,r⟩
 | _=>first | cases e | simp [fA] at e
section
variable {X:Cx} {H0:Hp} {O0:Ex}
theorem Br{K:Og}{H:Hp}{O:Ex}{f:Str}{d:VI}:∀{fs:List (Str×V)}{ks:List Str}{ds:List VI},fs.map (λp=>Oj p.1)=ks.map Oj->ak K H O (fs.map (·.2)) ds->br ks ds f=some d->∃v,fs.lookup f=some v/\Dt K H O v d
 | [],[],ds,_,_,e=>by unfold br at e;cases e
 | [],_::_,ds,h,_,_=>by cases h
 | _::_,[],ds,h,_,_=>by cases h
 | (g,x)::fs,k::ks,ds,h,hd,e=>by
  rw [Ol] at hd;cases hd with
  | cons h1 h2=>
   simp only [Ol,Pe,P1] at h;obtain⟨rfl,h⟩:=h;unfold br at e;rw [Pg];by_cases hk:g=f
   ·rw [VF hk] at e;cases e;subst hk;exact⟨x,VH,h1⟩
   ·rw [VE hk] at e;have:(f==g)=false:=by simpa using Ne.symm hk
    rw [this];exact Br h h2 e
def nQ(C:VM)(f:Str)(t:DT):DT:=λδ Q=>t δ λx=>∃ks ds d,x=fA C (ks.map .str) ds/\br ks ds f=some d/\Q d
theorem cu{C:VM}{f:Str}{e:VT}{t:DT}{pos:Pos}(hc:dE X.K C)(hn:cj X.K C f)(he:DE X H0 O0 e t)(hb:Wh e f X.env (eval e X.env)=eval e X.env:=by rfl):DE X H0 O0 (.Attribute e f pos) (nQ C f t):=
 (tR he hb).imp λσ H Q uu17=>by obtain⟨O,δ,Qd,w,q,k⟩:=uu17;exact⟨O,δ,_,w,q,λx v H1 uu18 s1 r1=>by
  obtain⟨ks,ds,d,ex,ed,q1⟩:=uu18;subst ex;obtain⟨a,dx,fs,rfl,h1,h2,r⟩:=r1.objI;obtain⟨v,hv,dv⟩:=Br h2.symm r ed;exact⟨a,C,dx,fs,v,rfl,h1,hc,hn,hv,k _ _ _ q1 s1 dv⟩⟩
end
def fX(xs:Array Nat):Prop:=xs.toList.Pairwise (· < ·)
theorem fX.lt{xs:Array Nat}(h:fX xs){i k:Nat}(hik:i < k)(hk:k < xs.size):xs[i]'VD < xs[k]:=by
 have:=Sv.mp h i k (by simpa using(by omega:i < xs.size)) (by simpa using hk) hik;simpa using this
theorem Jx{xs:Array Nat}(h:fX xs){j:Nat}:∀(f lo hi:Nat),hi - lo<=f->lo<=hi->hi<=xs.size->(∀k(hk:k < xs.size),k < lo->xs[k] < j)->(∀k(hk:k < xs.size),hi<=k->j<=xs[k])->
 lo<=R0 xs j f lo hi/\R0 xs j f lo hi<=hi/\(∀k(hk:k < xs.size),k < R0 xs j f lo hi->xs[k] < j)/\(∀k(hk:k < xs.size),R0 xs j f lo hi<=k->j<=xs[k]):=by
 intro f
 induction f with
 | zero=>
  intro lo hi a b c d e;obtain rfl:lo=hi:=VD
  exact⟨Oi _,Oi _,d,e⟩
 | succ f ih=>
  intro lo hi a b c d e;unfold R0;by_cases hl:lo < hi
  ·rw [VF hl];simp only;have hm:(lo+hi)/ 2 < xs.size:=VD
   have eg:xs.getD ((lo+hi)/ 2) j=xs[(lo+hi)/ 2]:=by simp [RD,hm]
   rw [eg];split
   ·rename_i hx;have d':∀k(hk:k < xs.size),k < (lo+hi)/ 2+1->xs[k] < j:=λk hk hlt=>by
     rcases QH k ((lo+hi)/ 2) with z | z
     ·exact Vm (h.lt z hm) hx
     ·obtain rfl:k=(lo+hi)/ 2:=VD
      exact hx
    obtain⟨p,q,r,s⟩:=ih ((lo+hi)/ 2+1) hi VD VD c d' e;exact⟨VD,q,r,s⟩
   ·rename_i hx;have e':∀k(hk:k < xs.size),(lo+hi)/ 2<=k->j<=xs[k]:=λk hk hge=>by
     rcases QH ((lo+hi)/ 2) k with z | z
     ·exact O7 (QN hx) (Rj (h.lt z hk))
     ·obtain rfl:k=(lo+hi)/ 2:=VD
      exact QN hx
    obtain⟨p,q,r,s⟩:=ih lo ((lo+hi)/ 2) VD VD VD d e';exact⟨p,VD,r,s⟩
  ·rw [VE hl];obtain rfl:lo=hi:=VD
   exact⟨Oi _,Oi _,d,e⟩
theorem wH{xs:Array Nat}(h:fX xs)(j:Nat):Qh xs j<=xs.size/\(∀k(hk:k < xs.size),k < Qh xs j->xs[k] < j)/\(∀k(hk:k < xs.size),Qh xs j<=k->j<=xs[k]):=by
 unfold Qh;obtain⟨_,b,c,d⟩:=Jx h (j:=j) xs.size 0 xs.size VD (Pc _) (Oi _) (λk hk z=>absurd z VD) (λk hk z=>absurd hk VD);exact⟨b,c,d⟩
theorem Jy{xs:Array Nat}(h:fX xs){i:Nat}(hi:i < xs.size):Qh xs (xs[i]+1)=i+1:=by
 obtain⟨a,b,c⟩:=wH h (xs[i]+1);apply Nat.le_antisymm
 ·refine QN λz=>?_;have:=b (i+1) VD z;have:=h.lt (show i < i+1 by omega) (show i+1 < xs.size by omega);omega
 ·refine QN λz=>?_;have:=c i hi VD;omega
theorem Jz{xs:Array Nat}(h:fX xs):Qh xs 0=0:=by
 obtain⟨a,b,c⟩:=wH h 0;refine Nat.eq_zero_of_not_pos λz=>?_;exact absurd (b 0 VD z) VD
theorem fX.ins{xs:Array Nat}(h:fX xs){j:Nat}(hj:xs[Qh xs j]?≠some j):fX (SetTable.insertAt xs (Qh xs j) j):=by
 obtain⟨a,b,c⟩:=wH h j;have h0:xs.toList.Pairwise (· < ·):=h;unfold fX;rw [SetTable.toList_insertAt];generalize Qh xs j=p at*;rw [<-R6 p xs.toList,SW] at h0;rw [SW];have lt1:∀x∈xs.toList.take p,x < j:=λx hx=>by
  obtain⟨k,hk,rfl⟩:=Si hx;rw [Pf] at hk;rw [List.getElem_take];have:=b k (by simp at hk;omega) VD;simpa using this
 have lt2:∀x∈xs.toList.drop p,j < x:=λx hx=>by
  obtain⟨k,hk,rfl⟩:=Si hx;rw [Q8] at hk;rw [List.getElem_drop];have hs:p+k < xs.size:=by simp at hk;omega
  have h1:=c (p+k) hs VD;have h2:xs[p+k]≠j:=λe=>by
   rcases UC k with z | z
   ·subst z;exact hj (by rw [RE (show p < xs.size from hs)];exact congrArg some e)
   ·have:=c p VD (Oi _);have:=h.lt (show p < p+k by omega) hs;omega
  have:j < xs[p+k]:=VD
  simpa using this
 refine⟨h0.1,P5.mpr ⟨lt2,h0.2.1⟩,λx hx y hy=>?_⟩;rcases Ox.mp hy with e | hy
 ·rw [e];exact lt1 x hx
 ·exact h0.2.2 x hx y hy
theorem JA{t:Wl}{ha:Nat->Int}{h:Int}(hd:t.dummies=#[]):∀(f:Nat)(p:SetTable.Probe){j:Nat}{d:Option Nat},p.dummy=none->UN t ha h f p=some (.empty j d)->d=none/\t.place[Qh t.place j]?≠some j:=by
 intro f
 induction f with
 | zero=>intro p j d _ e;cases e
 | succ f ih=>
  intro p j d hp e;unfold UN at e;have nd:∀k,SetTable.has t.dummies k=false:=λk=>by rw [hd];rfl
  have adv:(t.advance p).dummy=none:=by unfold SetTable.advance;split <;> exact hp
  cases hs:t.slot p.j with
  | empty=>
   rw [hs] at e;simp only [P2,SetTable.Met.empty.injEq] at e;obtain⟨rfl,rfl⟩:=e;refine⟨hp,λz=>?_⟩;unfold Vi at hs;simp only [z,beq_self_eq_true,if_true] at hs;cases hs
  | dummy=>
   unfold Vi at hs;simp only [nd] at hs;split at hs
   ·cases hs
   ·simp at hs
  | live i=>
   rw [hs] at e;simp only at e;split at e
   ·cases e
   ·exact ih _ adv e
structure eB (t:Wl):Prop where
 ris:fX t.place
 dum:t.dummies=#[]
theorem eB.fresh{f m:Nat}{l:Bool}:eB (.fresh f m l):=⟨.nil,rfl⟩
theorem JB(n:Nat):fX (Array.range n):=by
 unfold fX;rw [Array.toList_range];exact T5
theorem eB.standIn{t:Wl}{n:Nat}:eB (t.standIn n):=⟨JB n,rfl⟩
theorem eB.orStandIn{t:Wl}{n:Nat}(h:eB t):eB (t.orStandIn n):=by
 unfold Uy;split
 ·exact h
 ·exact .standIn
theorem eB.layNew{t:Wl}(h:eB t)(es:Array (Int×VJ))(hs:Int)(x:VJ):eB (layNew t es hs x).2.1:=by
 unfold PySem.layNew;cases hf:t.freeSlot hs with
 | none=>exact .standIn
 | some q=>
  obtain⟨slot,wd⟩:=q;simp only;refine eB.orStandIn ?_;unfold SetTable.freeSlot at hf;split at hf
  ·rename_i j d hp;simp only [P2,SK] at hf;obtain⟨e1,e2⟩:=hf;obtain⟨rfl,nj⟩:=JA h.dum _ _ (by rfl) hp;simp at e1;subst e1;unfold SetTable.put;refine⟨h.ris.ins nj,?_⟩;simp only [h.dum];rfl
  ·cases hf
theorem eB.relay{t:Wl}(h:eB t)(es:Array (Int×VJ))(n:Nat):eB (WW t es n).2.1:=by
 unfold WW;split
 ·rename_i t' order hr;dsimp only;split
  ·unfold U8 Vf at hr;cases hc:UK (Uz n - 1) (es.map (·.1)) with
   | none=>rw [hc] at hr;cases hr
   | some ow=>
    rw [hc] at hr;simp only [bind,Vw,pure,P2,SK] at hr;obtain⟨e1,_⟩:=hr;subst e1;refine⟨?_,rfl⟩;unfold fX;simp only [List.toList_toArray];rw [PK];refine List.Pairwise.filterMap _ (λa a' hl b hb b' hb'=>?_) T5;cases h1:ow.getD a none with
    | none=>rw [h1] at hb;cases hb
    | some u=>
     cases h2:ow.getD a' none with
     | none=>rw [h2] at hb';cases hb'
     | some u'=>
      rw [h1] at hb;rw [h2] at hb';cases hb;cases hb';exact hl
  ·exact .standIn
 ·exact .standIn
structure JC (P:VW) (w:VX) (o:Obj) (ss:List Int):Prop where
 ex:o.ExactSet
 da:∃es ep t,o.data= .set es ep t/\ElemsOf (WQ P w) es.toList/\(∃ss',V9 (es.toList.map (·.2)) ss'/\ss'.Perm ss)/\es.size < WD/\t.fits es.size=true/\(fU w=true\/t.led=true)/\eB t
def cX(P:VW)(w:VX)(h:VY)(a:VM)(ss:List Int):Prop:=∃o,h.get? a=some o/\JC P w o ss
theorem Bs{k:Int}:∀{vs:List VJ}{ss:List Int},V9 vs ss->((∃v∈vs,v.isInt k=true)↔k∈ss)
 | _,_,.nil=>by simp
 | _,_,.cons x t r=>by
  have ih:=Bs (k:=k) r;constructor
  ·rintro⟨v,hv,e⟩;rcases Ox.mp hv with z | z
   ·subst z;obtain⟨u,e'⟩:=UH e;cases e';exact Pa
   ·exact OT _ (ih.mp ⟨v,z,e⟩)
  ·intro hk;rcases Ox.mp hk with z | z
   ·subst z;exact⟨_,Pa,by simp [UR]⟩
   ·obtain⟨v,hv,e⟩:=ih.mpr z;exact⟨v,OT _ hv,e⟩
theorem uK{vs vs':List VJ}(p:vs'.Perm vs):∀{ss:List Int},V9 vs ss->∃ss',V9 vs' ss'/\ss'.Perm ss:=by
 induction p with
 | nil=>intro ss h;exact⟨ss,h,.refl _⟩
 | cons x p ih=>
  intro ss h;cases h with
  | cons y t r=>obtain⟨s1,a,b⟩:=ih r;exact⟨y::s1,.cons y t a,b.cons y⟩
 | swap x y l=>
  intro ss h;cases h with
  | cons a t r=>cases r with | cons b u r=>exact⟨b::a::_,.cons b u (.cons a t r),.swap _ _ _⟩
 | trans p q ih1 ih2=>
  intro ss h;obtain⟨s1,a,b⟩:=ih2 h;obtain⟨s2,c,d⟩:=ih1 a;exact⟨s2,c,d.trans b⟩
theorem Bt{x:Int}{t:Tok}:∀{vs:List VJ}{ss:List Int},V9 vs ss->V9 (vs++[.int x t]) (ss++[x])
 | _,_,.nil=>.cons x t .nil
 | _,_,.cons y u r=>.cons y u (Bt r)
theorem sV:∀{vs:List VJ}{ss:List Int},V9 vs ss->vs.length=ss.length
 | _,_,.nil=>rfl
 | _,_,.cons y u r=>by simp [sV r]
def eD(ss:List Int)(x:Int):List Int:=if x∈ss then ss else ss++[x]
section
variable {P:VW} {w:VX} {A:V0} {E:VJ->VN->Prop} {s:VN}
theorem cX.mk{h:VY}{a:VM}{o:Obj}{es es':Array (Int×VJ)}{ep:Nat}{t t':Wl}{ss:List Int}(o1:h.get? a=some o)(x1:o.ExactSet)(d1:o.data= .set es ep t)
 (el:ElemsOf (WQ P w) es'.toList)(sp:∃ss',V9 (es'.toList.map (·.2)) ss'/\ss'.Perm ss)(b1:es'.size < WD)(f1:t'.fits es'.size=true)(l1:fU w=true\/t'.led=true)(p1:eB t'):
 (h.update a (Tw es' t')).get? a=some {o with data:= .set es' (ep+1) t'}/\cX P w (h.update a (Tw es' t')) a ss:=by
 have g:(h.update a (Tw es' t')).get? a=some {o with data:= .set es' (ep+1) t'}:=by
  have z:=Qw (Tw es' t') o1 (by rw [putSet_of es' t' d1];rfl);rw [putSet_of es' t' d1] at z;exact z
 exact⟨g,_,g,x1,es',ep+1,t',rfl,el,sp,b1,f1,l1,p1⟩
theorem Bu{g:Bool->Sem Unit}(hg:∀(b:Bool) (s₁:VN) (Q':Unit->VN->Prop),Q' () s₁->VR (VS P w) A (g b) Q' E s₁)
 {a:VM}{o:Obj}{es:Array (Int×VJ)}{ep:Nat}{t:Wl}(o1:s.heap.get? a=some o)(x1:o.ExactSet)(d1:o.data= .set es ep t)
 {es1:Array (Int×VJ)}{t2:Wl}{ss:List Int}(el:ElemsOf (WQ P w) es1.toList)(sp:∃ss',V9 (es1.toList.map (·.2)) ss'/\ss'.Perm ss)
 (b1:es1.size < WD)(f2:t2.fits es1.size=true)(l2:fU w=true\/t2.led=true)(p2:eB t2){wd:Bool}{R:Option Bool->VN->Prop}
 (h:∀h',QX a s.heap h'->cX P w h' a ss->R (some true) {s with heap:=h'}):
 VR (VS P w) A (do
  storeSet a es1 t2
  if (!wd && t2.tooFull)=true then do
   g (WW t2 es1 (Rb es1.size)).2.2
   storeSet a (WW t2 es1 (Rb es1.size)).1 (WW t2 es1 (Rb es1.size)).2.1
   pure (some true)
   else pure (some true)) R E s:=by
 refine VL (wpAny_storeSet_of o1 d1 ?_ (fits_of_scanBound b1));obtain⟨o2,S2⟩:=cX.mk (P:=P) o1 x1 d1 el sp b1 f2 l2 p2;have sb:=PD s.heap a (Tw es1 t2);split
 ·have rp:=relayAll_perm t2 es1 (Rb es1.size);have rf:=relayAll_fits t2 es1 (Rb es1.size);have rl:=IS t2 es1 (Rb es1.size);have rq:=p2.relay es1 (Rb es1.size);generalize WW t2 es1 (Rb es1.size)=Z at rp rf rl rq⊢;obtain⟨es2,t3,gv⟩:=Z;dsimp only at rp rf rl rq⊢;have sz:es2.size=es1.size:=by rw [<-O3,rp.length_eq,O3]
  obtain⟨ss',q1,q2⟩:=sp;obtain⟨ss2,q3,q4⟩:=uK (rp.map (·.2)) q1;refine VL (hg _ _ _ (VL (wpAny_storeSet_of o2 rfl ?_ (fits_of_scanBound (by rw [sz];exact b1)))));obtain⟨_,S3⟩:=cX.mk (P:=P) (w:=w) (t':=t3) o2 x1 rfl (el.perm rp) ⟨ss2,q3,q4.trans q2⟩ (by rw [sz];exact b1) rf (by rw [rl];exact l2) rq;exact VO (h _ (sb.trans (PD _ a _)) S3)
 ·exact VO (h _ sb S2)
theorem JD{a:VM}{ss:List Int}{x:Int}{tk:Tok}{Q:Bool->VN->Prop}(hS:cX P w s.heap a ss)(hroom:ss.length+1 < WD)
 (h:∀h' b,QX a s.heap h'->cX P w h' a (eD ss x)->Q b {s with heap:=h'}):
 VR (VS P w) A (setAddHashed a (.int x tk) (hashInt x)) Q E s:=by
 obtain⟨o,o1,x1,es,ep,t,d1,el,⟨ss',s1,s2⟩,b1,f1,l1,p1⟩:=hS;have hk:(WQ P w).is x (.int x tk)=true:=intKind_is _ _ _ _;have hsc:(QF x tk).scannable=true:=rfl;have ln:es.size=ss.length:=by rw [<-s2.length_eq,<-sV s1,Oe,O3]
 unfold setAddHashed setAddHashedIn;refine We (VL (Wt o1 d1 f1 ?_));dsimp only;rw [byScan_of hsc b1 el,VF rfl];unfold setAddByScan;refine VL (VL (wpAny_rule (VL (wpAny_setScan_of hk o1 d1 f1 el ?_))));have mem:(∃e∈es.toList,(WQ P w).is x e.2=true)↔x∈ss:=by
  rw [<-s2.mem_iff,<-Bs s1];constructor
  ·rintro⟨e,he,q⟩;exact⟨e.2,OE.mpr ⟨e,he,rfl⟩,q⟩
  ·rintro⟨v,hv,q⟩;obtain⟨e,he,rfl⟩:=OE.mp hv;exact⟨e,he,q⟩
 cases hr:List.findIdx? (λe=>(WQ P w).is x e.2) es.toList with
 | some j=>
  obtain⟨hj,hp,_⟩:=List.findIdx?_eq_some_iff_getElem.mp hr;have hx:x∈ss:=mem.mp ⟨_,Qr hj,hp⟩;refine VO (VO ?_);have z:=h s.heap false (QX.refl a s.heap) (by unfold eD;rw [VF hx];exact⟨o,o1,x1,es,ep,t,d1,el,⟨ss',s1,s2⟩,b1,f1,l1,p1⟩);have e:s={s with heap:=s.heap}:=by cases s;rfl
  rw [e];exact z
 | none=>
  dsimp only;have hx:x ∉ ss:=λz=>by
   obtain⟨e,he,q⟩:=mem.mpr z;have:=List.findIdx?_eq_none_iff.mp hr e he;rw [q] at this;cases this
  have eS:eD ss x=ss++[x]:=VE hx;rw [eS] at h;have lp:=layNew_perm t es (hashInt x) (.int x tk);have lf:=layNew_fits t es (hashInt x) (.int x tk);have ll:=IQ t es (hashInt x) (.int x tk);have lt:=p1.layNew es (hashInt x) (.int x tk);generalize layNew t es (hashInt x) (.int x tk)=L at lp lf ll lt⊢;obtain⟨es1,t1,wd,gv⟩:=L;dsimp only at lp lf ll lt⊢;rw [UL] at lp;have el1:ElemsOf (WQ P w) es1.toList:=(el.push hk hsc).perm lp;have sp1:∃ss',V9 (es1.toList.map (·.2)) ss'/\ss'.Perm (ss++[x]):=by
   have s3:V9 ((es.toList++[(hashInt x,QF x tk)]).map (·.2)) (ss'++[x]):=by
    rw [OO];exact Bt s1
   obtain⟨s4,q1,q2⟩:=uK (lp.map (·.2)) s3;exact⟨s4,q1,q2.trans (s2.append_right _)⟩
  have n1:es1.size=es.size+1:=by rw [<-O3,lp.length_eq];simp
  have b2:es1.size < WD:=VD
  have l2:fU w=true\/t1.led=true:=by rw [ll];exact l1
  have gw:∀(b:Bool)(s₁:VN)(Q':Unit->VN->Prop),Q' () s₁->VR (VS P w) A (match b with | true=>rule "set.scan.the-table-gave-way" | false=>pure ()) Q' E s₁:=
   λb s₁ Q' z=>by cases b <;> first | exact VO z | exact wpAny_rule z
  refine VL (gw _ _ _ ?_);split
  ·refine VL ?_;rw [hashByValue_scannable 8 hsc];refine VO ?_;rw [VF (show plainKind (QF x tk)=true from rfl)];exact Bu gw o1 x1 d1 el1 sp1 b2 lf l2 lt λh' sb S'=>VO (h h' true sb S')
  ·refine VL (VO ?_);rw [VF rfl];exact Bu gw o1 x1 d1 el1 sp1 b2 lf l2 lt λh' sb S'=>VO (h h' true sb S')
end
def kj(val:Nat->Int)(i:Nat):List Int:=((P7 i).map val).foldl eD []
theorem Bv(val:Nat->Int)(i:Nat):kj val (i+1)=eD (kj val i) (val i):=by
 unfold kj;rw [T2,OO,Q2];rfl
theorem Bw(val:Nat->Int):∀i,(kj val i).length<=i
 | 0=>Oi _
 | i+1=>by
  have ih:=Bw val i;rw [Bv];unfold eD;split
  ·omega
  ·simp;omega
theorem JE{ss:List Int}{x:Int}(h:ss.Nodup):(eD ss x).Nodup:=by
 unfold eD;split
 ·exact h
 ·rename_i hx;refine Tr.mpr ⟨h,VH,λa ha b hb=>?_⟩;rw [OS] at hb;subst hb;intro e;subst e;exact hx ha
theorem JF{ss:List Int}{x y:Int}:y∈eD ss x↔y∈ss\/y=x:=by
 unfold eD;split
 ·rename_i hx;exact⟨.inl,λz=>z.elim id λe=>by subst e;exact hx⟩
 ·simp
theorem wI{y:Int}:∀{l ss:List Int},y∈l.foldl eD ss↔y∈ss\/y∈l
 | [],ss=>by simp
 | a::l,ss=>by rw [PF,wI,JF,Ox];exact or_assoc
theorem wJ:∀{l ss:List Int},ss.Nodup->(l.foldl eD ss).Nodup
 | [],_,h=>h
 | a::l,_,h=>by rw [PF];exact wJ (JE h)
theorem cX.stay{P:VW}{w:VX}{h h':VY}{a:VM}{ss:List Int}(x:cX P w h a ss)(k:∀o,h.get? a=some o->h'.get? a=some o):cX P w h' a ss:=
 let ⟨o,e,r⟩:=x;⟨o,k o e,r⟩
section
variable {P:VW} {w:VX} {A:V0} {R:Result->VN->Prop} {I:VM} {fp wr:List VM} {G:Array Xj->Array Xj->Prop} {n:Nat} {Pv:Nat->VJ->Prop} {St:Nat->VN->Prop}
theorem JG(W:WalksS P w A.in1 I fp wr G n Pv St)(S:VM)(hSf:S ∉ fp)(val:Nat->Int)(hval:∀i v,Pv i v->∃t,v= .int (val i) t)(hb:n+1 < WD):
 ∀(k i:Nat)(s:VN),n - i=k->i<=n->St i s->cX P w s.heap S (kj val i)->
  (∀s',Moved (S::wr) G s s'->cX P w s'.heap S (kj val n)->R (.ok (.ret .none)) s')->Wz (VS P w) A (.builtin "set.update.loop" ⟨[.ref S,.ref I],[]⟩) R s:=by
 have sw:S ∉ wr:=λz=>hSf (W.sub _ z);have sub:∀b∈wr,b∈S::wr:=λb z=>OT _ z;intro k
 induction k with
 | zero=>
  intro i s e1 e2 st hS q;obtain rfl:i=n:=VD
  refine WC SD ?_;rw [RC Rl _];show VR _ A.in1 (WH (.ref I) >>=_) _ _ s;exact VL (W.done s _ _ st λs' m=>VO (q s' (m.mono sub) (hS.stay λo e=>m.heap S o sw e)))
 | succ k ih=>
  intro i s e1 e2 st hS q;have lt:i < n:=VD
  refine WC SD ?_;rw [RC Rl _];show VR _ A.in1 (WH (.ref I) >>=_) _ _ s;refine VL (W.item i s _ _ lt st λv s' hP st' m=>?_);obtain⟨t,rfl⟩:=hval i v hP;have hS':=hS.stay (h':=s'.heap) λo e=>m.heap S o sw e;show VR _ A.in1 (WR [QF (val i) t] (setAdd S (.int (val i) t)) >>=_) _ _ s';refine VL (We ?_);unfold setAdd;refine We (VL ((WQ P w).pyHash (k:=val i) (intKind_is _ _ _ _) ?_));have rm:(kj val i).length+1 < WD:=by have:=Bw val i;omega
  refine JD (s:={s' with toks:=s'.toks+1}) hS' rm λh' b sb S2=>?_;rw [<-Bv] at S2;refine VO ⟨WU Rl _,ih (i+1) _ VD lt (W.frame _ s' _ _ st' (Qj _) λb hb o e=>?_) S2 λs2 m2 S3=>?_⟩
  ·rw [sb.2 b (λz:b=S=>hSf (by rw [<-z];exact hb))];exact e
  ·refine q s2 (Moved.trans W.gtrans ((m.mono sub).then_heap (Qj _) λb o hb e=>?_) m2) S3;rw [sb.2 b (λz:b=S=>hb (by rw [z];exact Pa))];exact e
end
section
variable {P:VW} {w:VX} {A:V0} {E:VJ->VN->Prop} {s:VN}
theorem cX.fresh{h:VY}{a:VM}(e:h.get? a=some {cls:= .type "set",dict:=none,data:= .set #[] 0 (.fresh 0 0 (!fU w))}):cX P w h a []:=by
 refine⟨_,e,⟨rfl,rfl,rfl⟩,#[],0,_,rfl,λe he=>by simp at he,⟨[],.nil,.refl _⟩,VC,rfl,?_,eB.fresh⟩;cases hb:fU w with
 | true=>exact .inl rfl
 | false=>exact .inr rfl
theorem JH{l:VM}{items:Array VJ}{ss:List Int}{Q:VJ->VN->Prop}
 (hh:A.handled=none)(hl:s.heap.IsList l items)(hi:V9 items.toList ss)(hb:items.size+1 < WD)
 (h:∀(h':VY) (tk:Nat),cX P w h' s.heap.objs.size (ss.foldl eD [])->(∀b o,s.heap.get? b=some o->h'.get? b=some o)->Q (.ref s.heap.objs.size) {s with heap:=h',toks:=tk}):
 VR (VS P w) A (call (.type "set") [.ref l]) Q E s:=by
 obtain⟨c,tl,hmro⟩:=PySem.F.called_set.mro;have hmade:=PySem.F.called_set.made;have hsub:=PySem.F.called_set.sub;refine wpAny_call (codeAny_of_tree ?_);show VR _ _ (callAny (.type "set") _) _ _ _;refine VO ⟨Code.quiet_builtin _ VB,WC PySem.F.entry_type_call ?_⟩;rw [Around.under_plain (weight_type_call_type "set" [.ref l] []) rfl];have h1:=PySem.F.called_set.notType;have h2:=PySem.F.called_set.canCreate;have hct:=PySem.F.typeCall_set_1 (.ref l)
 repeat (any_goals (first | assumption | wp_step))
 generalize hob:({cls:= .type "set",dict:=none,data:= .set #[] 0 (.fresh 0 0 (!fU w))}:Obj)=ob;refine Wv (IT (P:=P) (w:=w) (.ref l) (E:=E) (Q₁:=λu s₁=>u= .ref s.heap.objs.size/\s₁={s with heap:=s.heap.push ob}) (by subst hob;exact⟨rfl,rfl⟩)) λr s₁ hr=>?_;cases r with
 | error e=>exact hr
 | ok fl=>
  cases fl with
  | ret u=>
   obtain⟨rfl,rfl⟩:=hr;have hS:(s.heap.push ob).get? s.heap.objs.size=some ob:=OX _ (by subst hob;rfl);have hT:Shared.TypeIs {s with heap:=s.heap.push ob} (.ref s.heap.objs.size) "set":=⟨_,hS,by subst hob;rfl⟩;have hli:=PySem.F.called_set.init.lookup;have hbi:=PySem.F.called_set.init.bind (.ref s.heap.objs.size)
   repeat (any_goals (first | assumption | wp_step))
   refine Wv (codeAny_call_builtin (R:=wants (λr s₂=>r= .none/\∃h' tk,s₂={s with heap:=h',toks:=tk}/\cX P w h' s.heap.objs.size (ss.foldl eD [])/\∀b o,s.heap.get? b=some o->h'.get? b=some o) E)
    PySem.F.called_set.init.plain PySem.F.entry_set_init (check_set_init_1 hT ?_)) λr₂ s₂ hr₂=>?_
   ·obtain⟨ol,o1,c1,nl,d1⟩:=hl;obtain⟨oc,od,oda,osl⟩:=ol;simp only at c1 d1;subst c1;subst d1;have o2:(s.heap.push ob).get? l=some {cls:= .type "list",dict:=od,data:= .seq items nl,slots:=osl}:=Ou _ o1;have q1:=PySem.F.sub_list_set;have q2:=PySem.F.sub_list_frozenset;have q3:(RS "list"==RS "dict")=false:=VC
    have l1:(s.heap.push ob).IsList l items:=⟨_,o2,rfl,nl,rfl⟩;subst hob;unfold Builtin.«set.__init__» noKeywords Builtin.Frozenset.updateFrom;generalize hPI:pyIter=PI
    wp_walk
    subst hPI;refine Xg l1 ?_;refine VL (wpAny_runValue ?_);have ll:l < s.heap.objs.size:=OM o1;have sz:∀ob:Obj,(s.heap.push ob).objs.size=s.heap.objs.size+1:=λ_=>S7 _ _;have n1:∀ob:Obj,l≠(s.heap.push ob).objs.size:=λ_=>by rw [sz];exact O6 (Qu ll)
    have n2:∀ob:Obj,s.heap.objs.size ∉ [(s.heap.push ob).objs.size,l]:=λ_=>by
     rw [sz];simp only [Ox,OY,or_false,not_or];exact⟨O6 (QM _),R1 ll⟩
    have hv:∀(i:Nat)(v:VJ),items[i]?=some v->∃t,v= .int ((λi:Nat=>(ss[i]?).getD 0) i) t:=λi v e=>by
     rw [<-SQ] at e;have:∀{vs:List VJ}{ss:List Int},V9 vs ss->∀(i:Nat)(v:VJ),vs[i]?=some v->∃t,v= .int ((ss[i]?).getD 0) t:=by
      intro vs ss x
      induction x with
      | nil=>intro i v e;simp at e
      | cons y t r ih=>
       intro i v e;cases i with
       | zero=>simp at e;exact⟨t,by rw [<-e];rfl⟩
       | succ i=>simp only [Py] at e⊢;exact ih i v e
     exact this hi i v e
    have hm:kj (λi=>(ss[i]?).getD 0) items.size=ss.foldl eD []:=by
     have e:items.size=ss.length:=by rw [<-sV hi,O3]
     unfold kj;rw [e];congr 1;apply RK VH;intro i a b;simp at a b⊢;rw [OW VD];rfl
    refine JG (U7 (show A.in1.in1.in1.handled=none by simp [hh]) _ l (n1 _) items).toS s.heap.objs.size (n2 _) _ hv hb (items.size - 0) 0 _ VD (Pc _)
     ⟨⟨_,OX _ rfl,rfl,rfl⟩,l1.push _⟩ ?hS0 ?hR
    case hS0=>
     exact cX.fresh (Ou _ hS)
    case hR=>
     intro s' m S';rw [hm] at S';obtain⟨h',g',d',tk',os'⟩:=s';obtain rfl:g'=s.gens:=m.gens;obtain rfl:d'=s.drawn:=m.drawn;obtain rfl:os'=s.os:=m.os;show VR _ _ _ _ _ _;refine VO (VO ⟨rfl,h',tk',rfl,S',λb o e=>?_⟩);have hb1:b < s.heap.objs.size:=OM e;refine m.heap b o ?_ (Ou _ (Ou _ e));rw [sz];simp only [Ox,OY,or_false,not_or];exact⟨O6 hb1,O6 (Qu hb1)⟩
   ·cases r₂ with
    | error e=>exact hr₂
    | ok fl₂=>
     cases fl₂ with
     | ret r=>
      obtain⟨rfl,h',tk,rfl,S',k'⟩:=hr₂
      repeat (any_goals (first | assumption | wp_step))
      exact h _ _ S' k'
     | _=>exact hr₂.elim
  | _=>exact hr.elim
end
section
variable {P:VW} {w:VX} {A:V0} {E:VJ->VN->Prop} {s:VN} {a:VM} {o:Obj} {es:Array (Int×VJ)} {ep:Nat} {t:Wl}
theorem Bx{slot i:Nat}{Q:Option (VJ×Nat)->VN->Prop}(hb:fU w=false)(o1:s.heap.get? a=some o)(d1:o.data= .set es ep t)(f1:t.fits es.size=true)(hd:(!t.plain && decide (es.size > 1))=false)(hl:t.led=true)
 (h:Q (match es[Qh t.place slot]?,t.place[Qh t.place slot]? with | some (_,x),some j=>some (x,j+1) | _,_=>none) s):VR (VS P w) A (WT a slot i ep) Q E s:=by
 unfold WT setsByText;refine VL (Wt o1 d1 f1 (VL (VL (Wx (VO ?_)))));rw [VE (show ¬(VS P w).w.params.followText "set-order"=true from by show ¬fU w=true;rw [hb];decide)];show VR _ _ (if (!t.plain && decide (es.size > 1))=true then _ else _) _ _ _;rw [VE (by rw [hd];decide)];refine VL (m:=if (!t.led && !es.isEmpty)=true then unsupported "set:maker-not-led" else pure ()) ?_;rw [VE (by simp [hl])];exact VO (VO h)
theorem JI{ss:List Int}{Q:VJ->VN->Prop}(hh:A.handled=none)(hS:cX P w s.heap a ss)
 (q:∀(I:VM) (h1:VY) (d1:Drawn) (vs:List VJ) (fp wr:List VM) (n:Nat) (St:Nat->VY->Prop),(∀b u,s.heap.get? b=some u->h1.get? b=some u)->(∃ss',V9 vs ss'/\ss'.Perm ss)->n=ss.length->
  Walks P w A I fp wr n (λi v=>vs[i]?=some v) St->St 0 h1->(∀b∈fp,b=a\/s.heap.objs.size<=b)->(∀b∈wr,s.heap.objs.size<=b)->vs.length=n->(∀b∈fp,b < h1.objs.size)->Q (.ref I) {s with heap:=h1,drawn:=d1}):
 VR (VS P w) A (pyIter (.ref a)) Q E s:=by
 obtain⟨o,o1,x1,es,ep,t,d1,el,⟨ss',s1,s2⟩,b1,f1,l1,p1⟩:=hS;have hT:s.TypeIs (.ref a) "set":=⟨o,o1,x1.1⟩;have la:a < s.heap.objs.size:=OM o1;have ln:es.size=ss.length:=by rw [<-s2.length_eq,<-sV s1,Oe,O3]
 refine wpAny_pyIter_slot hT Ua (Wb Ua hT IU ?_ (PySem.F.args_set_iter_1 _));unfold Builtin.«frozenset.__iter__»;refine VL (m:=Builtin.Frozenset.slot0 _ _) (VO ?_);refine VL (m:=Builtin.Frozenset.sizeOf a) (VL (Wy o1 d1 f1 (VO ?_)));refine VL (m:=setDrawn a) ?_;unfold setDrawn setsByText;refine VL (Wt o1 d1 f1 (VL (VL (Wx (VO (VO ?_))))));show VR _ _ (if (!(fU w) && (!t.plain && decide (es.size > 1)))=true then _ else _) _ _ _;have lastly:∀(f:VJ)(h1:VY)(d:Drawn),h1.get? a=some o->(∀I h2,h2=h1.push {cls:= .type "set_iterator",data:= .fields #[f,.int (0:Nat) 0,.ref a,.int es.size 0,.int ep 0]}->I=h1.objs.size->Q (.ref I) {s with heap:=h2,drawn:=d})->
  VR (VS P w) A.in1 (setEpoch a >>=λe=>newFields "set_iterator" [f,WE 0,.ref a,WE es.size,WE e] >>=λv=>ret v)
   (λfin s'=>∃v,fin= .done (.ret v)/\∃T' r,s'.TypeIs v T'/\typeLookup (.type T') "__next__"=pure (some r)/\Q v s') E {s with heap:=h1,drawn:=d}:=by
  intro f h1 d e1 k;refine VL (wpAny_setEpoch_of (s:={s with heap:=h1,drawn:=d}) e1 d1 f1 ?_);refine VL (V7 (VO ?_));exact⟨_,rfl,"set_iterator",_,⟨_,OX _ rfl,rfl⟩,jb.lookup,k _ _ rfl rfl⟩
 have szp:∀(h:VY)(ob:Obj),(h.push ob).objs.size=h.objs.size+1:=λ_ _=>S7 _ _;have n0:a≠s.heap.objs.size:=O6 la;by_cases hdr:(!(fU w) && (!t.plain && decide (es.size > 1)))=true
 ·rw [VF hdr];refine VL (A7 es.size (P7 es.size) s _ VH λks d hp=>VL (m:=newTuple _) (V7 ?_ ?_))
  ·have lk:ks.length=es.size:=by rw [hp.length_eq,RZ]
   refine lastly _ (s.heap.push _) d (Ou _ o1) λI h2 e2 eI=>?_;subst e2 eI;have k1:a≠(s.heap.push {cls:= .type "tuple",data:= .seq (ks.map λ(i:Nat)=>WE i).toArray}).objs.size:=by rw [szp];exact O6 (Qu la)
   have k2:s.heap.objs.size≠(s.heap.push {cls:= .type "tuple",data:= .seq (ks.map λ(i:Nat)=>WE i).toArray}).objs.size:=by rw [szp];exact O6 (QM _)
   have pm:(ks.map λk=>((es[k]?).map (·.2)).getD .none).Perm (es.toList.map (·.2)):=by
    refine(hp.map _).trans (.of_eq ?_);apply RK VH;intro i a b;simp at a b⊢;rw [RE a];rfl
   obtain⟨ss2,q3,q4⟩:=uK pm s1;refine q _ _ d _ _ _ es.size _ (λb u e=>Ou _ (Ou _ e)) ⟨ss2,q3,q4.trans s2⟩ ln
    (Jb hh _ _ k1 k2 d1 f1 _ ks rfl lk (λi k e=>?_)) ⟨⟨_,OX _ rfl,rfl,rfl⟩,Ou _ (Ou _ o1),Ou _ (OX _ rfl)⟩ (λb hb=>?_) (λb hb=>?_) (by simp [lk]) (λb hb=>?_)
   ·have hk:k < es.size:=by
     have:=hp.mem_iff.mp (O4 e);simpa using this
    refine⟨es[k].1,es[k].2,by simp [hk],?_⟩;rw [OD,e];simp [hk]
   ·simp only [Ox,OY,or_false] at hb;rcases hb with rfl | rfl | rfl
    ·right;rw [szp];exact Qj _
    ·left;rfl
    ·right;exact Oi _
   ·rw [OS] at hb;rw [hb,szp];exact Qj _
   ·simp only [Ox,OY,or_false] at hb;rw [szp,szp];rcases hb with rfl | rfl | rfl
    ·rw [szp];exact QM _
    ·exact Qu (Qu la)
    ·exact Qu (QM _)
  ·unfold sizeOk;simp [hp.length_eq];have:WD=4096:=rfl;have:VV=16777216:=by first | rfl | exact Wg
   omega
 ·rw [VE hdr];refine VL (VO ?_);have e0:s={s with heap:=s.heap,drawn:=s.drawn}:=by cases s;rfl
  show VR _ _ _ _ _ {s with heap:=s.heap,drawn:=s.drawn};refine lastly _ s.heap s.drawn o1 λI h2 e2 eI=>?_;subst e2 eI;have fpa:∀b∈[s.heap.objs.size,a],b=a\/s.heap.objs.size<=b:=λb hb=>by
   simp only [Ox,OY,or_false] at hb;rcases hb with rfl | rfl
   ·right;exact Oi _
   ·left;rfl
  have wra:∀b∈[s.heap.objs.size],s.heap.objs.size<=b:=λb hb=>by rw [OS] at hb;rw [hb];exact Oi _
  have fpl:∀(ob:Obj),∀b∈[s.heap.objs.size,a],b < (s.heap.push ob).objs.size:=λob b hb=>by
   rw [szp];simp only [Ox,OY,or_false] at hb;rcases hb with rfl | rfl
   ·exact QM _
   ·exact Qu la
  cases hb:fU w with
  | true=>
   have pm:=IV (w.params.setOrder a ep) es;obtain⟨ss2,q3,q4⟩:=uK (pm.map (·.2)) s1;have lp:((Xf (w.params.setOrder a ep) es).toList.map (·.2)).length=es.size:=by rw [Oe,pm.length_eq,O3]
   refine q _ _ s.drawn _ _ _ es.size _ (λb u e=>Ou _ e) ⟨ss2,q3,q4.trans s2⟩ ln
    (Bb hh _ n0 d1 f1 _ lp (λ_=>0) (λs i hi E' Q' g z=>A8 hb g d1 f1 ?_) (λs E' Q' g z=>A8 hb g d1 f1 ?_)) ⟨⟨_,OX _ rfl,rfl,rfl⟩,Ou _ o1⟩ fpa wra lp (fpl _)
   ·have hi':i < (Xf (w.params.setOrder a ep) es).size:=by rw [<-O3,<-Oe (f:=(·.2))];exact hi
    rw [RE hi'];simpa using z
   ·have:(Xf (w.params.setOrder a ep) es).size=es.size:=by rw [<-O3,pm.length_eq,O3]
    rw [T6 VD];exact z
  | false=>
   have hled:t.led=true:=by
    rcases l1 with l1 | l1
    ·rw [hb] at l1;cases l1
    ·exact l1
   have hcd:(!t.plain && decide (es.size > 1))=false:=by
    cases hx:(!t.plain && decide (es.size > 1)) with
    | false=>rfl
    | true=>exfalso;apply hdr;rw [hb,hx];rfl
   have hpl:t.place.size=es.size:=by
    simp only [SetTable.fits,Pz,beq_iff_eq] at f1;exact f1.1
   have lp:(es.toList.map (·.2)).length=es.size:=by rw [Oe,O3]
   have bel:∀i,i<=es.size->Qh t.place (if i=0 then 0 else t.place.getD (i - 1) 0+1)=i:=λi hi=>by
    by_cases h0:i=0
    ·rw [VF h0,Jz p1.ris,h0]
    ·rw [VE h0];have hlt:i - 1 < t.place.size:=VD
     have eg:t.place.getD (i - 1) 0=t.place[i - 1]:=by simp [RD,hlt]
     rw [eg,Jy p1.ris hlt];omega
   refine q _ _ s.drawn _ _ _ es.size _ (λb u e=>Ou _ e) ⟨ss',s1,s2⟩ ln
    (Bb hh _ n0 d1 f1 _ lp (λi=>if i=0 then 0 else t.place.getD (i - 1) 0+1) (λs i hi E' Q' g z=>Bx hb g d1 f1 hcd hled ?_) (λs E' Q' g z=>Bx hb g d1 f1 hcd hled ?_)) ⟨⟨_,OX _ rfl,rfl,rfl⟩,Ou _ o1⟩ fpa wra lp (fpl _)
   ·have hi':i < es.size:=by rw [<-lp];exact hi
    rw [bel i VD];have h1:es[i]?=some es[i]:=by simp [hi']
    have h2:t.place[i]?=some (t.place[i]'VD):=by simp [show i < t.place.size by omega]
    rw [h1,h2];have eg:t.place.getD (i+1 - 1) 0=t.place[i]'VD:=by simp [RD,show i < t.place.size by omega]
    rw [VE VD,eg] at z;simpa using z
   ·rw [bel es.size (Oi _)];rw [T6 VD];exact z
end
section
variable {P:VW} {w:VX} {A:V0} {E:VJ->VN->Prop} {s:VN} {a:VM}
theorem JJ{ss:List Int}{R:Result->VN->Prop}(hh:A.handled=none)(hS:cX P w s.heap a ss)(S:VM)(hSa:S≠a)(res:VJ)(c₀:Nat)(l1:s.heap.get? S=some {cls:= .type "list",data:= .seq #[] c₀})(hn:ss.length<=4096)
 (hR:∀h' tk d acc c',(∀b u,b≠S->s.heap.get? b=some u->h'.get? b=some u)->h'.get? S=some {cls:= .type "list",dict:=none,data:= .seq acc c',slots:=#[]}->(∃ss',V9 acc.toList ss'/\ss'.Perm ss)->R (.ok (.ret res)) {s with heap:=h',toks:=tk,drawn:=d}):
 VR (VS P w) A.in1 (Tb (.ref S) (.ref a) res)
  (λfin s'=>match fin with | .done f=>R (.ok f) s' | .again c'=>c'.quiet=true/\Wz (VS P w) A c' R s') (λe s'=>R (.error e) s') s:=by
 obtain⟨o,o1,x1,rest⟩:=id hS;have hT:s.TypeIs (.ref a) "set":=⟨o,o1,x1.1⟩;have lS:S < s.heap.objs.size:=OM l1;unfold Tb;refine VL (W5 hT ?_);have e1:TK (.ref S) (.ref a)=false:=by simp [TK,hSa]
 have e2:(RS "set"==RS "list")=false:=VC
 have e3:(RS "set"==RS "tuple")=false:=VC
 simp only [e1,e2,e3,QK,PY,if_false];refine VL (JI (A:=A.in1) hh hS λI h1 d1 vs fp wr n St k1 sv en W st hf hw hlv hfl=>?_);have nf:S ∉ fp:=λz=>by
  rcases hf S z with e | e
  ·exact hSa e
  ·exact absurd lS (Nat.not_lt.mpr e)
 have key:∀(h:VY)(c₁ tk:Nat),St 0 h->(∀b u,b≠S->s.heap.get? b=some u->h.get? b=some u)->
  h.get? S=some {cls:= .type "list",data:= .seq #[] c₁}->Wz (VS P w) A (.builtin "list.extend.loop" ⟨[.ref S,.ref I,res],[]⟩) R {s with heap:=h,toks:=tk,drawn:=d1}:=by
  intro h c₁ tk hst hk g;refine codeAny_extend_loopS W.toS (O7 (by omega:n<=4096) VC) S nf res n 0 _ #[] c₁ rfl (Pc _) hst g (ItemsOf.nil _) λs' acc c' m gq hacc=>?_;obtain⟨h',g',d',tk',os'⟩:=s';obtain rfl:g'=s.gens:=m.gens;obtain rfl:d'=d1:=m.drawn;obtain rfl:os'=s.os:=m.os;refine hR h' tk' d' acc c' (λb u hb e=>m.heap b u (λz=>?_) (hk b u hb e)) gq ?_
  ·rcases Ox.mp z with e' | z
   ·exact hb e'
   ·exact absurd (OM e) (Nat.not_lt.mpr (hw b z))
  ·have ea:acc.toList=vs:=by
    apply List.ext_getElem?;intro i;rcases QH i n with z | z
    ·have hz:i < acc.size:=by rw [hacc.1];exact z
     have:acc[i]?=some acc[i]:=RE hz;rw [SQ,this,hacc.2 i _ this]
    ·rw [Qo (by rw [O3,hacc.1];exact z),Qo VD]
   rw [ea];exact sv
 have g1:=k1 S _ l1;refine VL (We (Jc (s:={s with heap:=h1,drawn:=d1}) ⟨o,k1 a o o1,x1.1⟩ ?_));refine W7 (λ_=>?_) (λ_=>VO ⟨WU Tx _,key _ c₀ _ st (λb u _ e=>k1 b u e) g1⟩);refine VL (wpAny_rule (VL ?_));show VR _ _ (updateSeq S (·.push .none) >>=λ_=>updateSeq S (·.pop)) _ _ {s with heap:=h1,drawn:=d1};refine VL (wpAny_updateSeq g1 rfl ?_);have g2:=Qw (PR (·.push QI)) g1 rfl;refine wpAny_updateSeq (hz:=by seq_fits) g2 rfl ?_;have g3:=Qw (PR (·.pop)) g2 rfl;refine VO ⟨WU Tx _,key _ _ _ (W.frame 0 _ _ st λb hb u e=>?_) (λb u hb e=>?_) g3⟩
 ·have hbS:b≠S:=λz=>nf (z▸hb);exact(Rg _ _ (Ne.symm hbS)).trans ((Rg _ _ (Ne.symm hbS)).trans e)
 ·exact(Rg _ _ (Ne.symm hb)).trans ((Rg _ _ (Ne.symm hb)).trans (k1 b u e))
theorem JK{ss:List Int}{R:List VJ->VN->Prop}(hh:A.handled=none)(hS:cX P w s.heap a ss)(hn:ss.length<=4096)
 (h:∀(h':VY) (tk:Nat) (d:Drawn) (vs:List VJ),(∀b u,s.heap.get? b=some u->h'.get? b=some u)->(∃ss',V9 vs ss'/\ss'.Perm ss)->R vs {s with heap:=h',toks:=tk,drawn:=d}):
 VR (VS P w) A (collect (.ref a)) R E s:=by
 have la:a < s.heap.objs.size:=by obtain⟨o,o1,_⟩:=id hS;exact OM o1
 unfold collect;refine VL (wpAny_runValue (WC entry_proto_collect' ?_));rw [RC PySem.F.plain_proto_collect _];refine VL (m:=newList []) (V7 ?_);refine VO ⟨WU TV _,WC entry_list_iadd' ?_⟩;rw [RC TV _];have g1:(s.heap.push {cls:= .type "list",data:= .seq ([]:List VJ).toArray}).get? s.heap.objs.size=some {cls:= .type "list",data:= .seq #[]}:=OX _ rfl;have key:=JJ (A:=A) (s:={s with heap:=s.heap.push {cls:= .type "list",data:= .seq ([]:List VJ).toArray}})
  (R:=λ(q:Result) (s':VN)=>∃(h':VY)(tk:Nat)(d:Drawn)(acc:Array VJ)(c':Nat),q= .ok (.ret (.ref s.heap.objs.size))/\s'={s with heap:=h',toks:=tk,drawn:=d}/\
   (∀b u,s.heap.get? b=some u->h'.get? b=some u)/\h'.get? s.heap.objs.size=some {cls:= .type "list",dict:=none,data:= .seq acc c',slots:=#[]}/\(∃ss',V9 acc.toList ss'/\ss'.Perm ss))
  hh (hS.stay λu e=>Ou _ e) s.heap.objs.size (R1 la) (.ref s.heap.objs.size) 0 g1 hn
  (λh' tk d acc c' hk g' hacc=>⟨h',tk,d,acc,c',rfl,rfl,λb u e=>hk b u (O6 (OM e)) (Ou _ e),g',hacc⟩)
 refine V8 key (λfin s' x=>?_) λe s' x=>?_
 ·cases fin with
  | done f=>
   obtain⟨h',tk,d,acc,c',e,rfl,hk,g',hacc⟩:=x;cases e;exact VL (m:=load s.heap.objs.size) (wpAny_load g' (VO (h h' tk d acc.toList hk hacc)))
  | again c₁=>
   refine⟨x.1,Wv x.2 λq s₂ y=>?_⟩;obtain⟨h',tk,d,acc,c',rfl,rfl,hk,g',hacc⟩:=y;exact VL (m:=load s.heap.objs.size) (wpAny_load g' (VO (h h' tk d acc.toList hk hacc)))
 ·obtain⟨_,_,_,_,_,e',_⟩:=x;cases e'
theorem JL{ss:List Int}{Q:VJ->VN->Prop}(hh:A.handled=none)(hS:cX P w s.heap a ss)(hn:ss.length < 64)
 (h:∀(h' h2:VY) (tk:Nat) (d:Drawn) (out:Array VJ) (e:Nat) (ss':List Int),(∀b o,s.heap.get? b=some o->h'.get? b=some o)->(∀b o,h'.get? b=some o->h2.get? b=some o)->h2.get? h'.objs.size=some (V3 "list" out e)->V9 out.toList ss'->ss'.Perm ss->ss'.Pairwise (·<=·)->Q (.ref h'.objs.size) {s with heap:=h2,toks:=tk,drawn:=d}):
 VR (VS P w) A (call (.builtin "sorted") [.ref a]) Q E s:=by
 refine Sr kind_sorted plain_sorted entry_sorted (args_sorted1 _) ?_;unfold Builtin.«sorted»;refine VL (m:=checkCount "sorted" 1 1 _) (VO ?_);refine VL (JK (A:=A.in1) hh hS VD λh' tk d vs hk ⟨s1,sv,sp⟩=>?_);have hl:vs.length=ss.length:=by rw [sV sv,sp.length_eq]
 refine VL (WJ ?_);have hoL:(h'.push (V3 "list" vs.toArray 0)).get? h'.objs.size=some (V3 "list" vs.toArray 0):=OX _ rfl;refine VL (We (Wb W9 ⟨_,hoL,rfl⟩ W8 (list_sort_tree (s:={s with heap:=h'.push (V3 "list" vs.toArray 0),toks:=tk,drawn:=d}) hoL sv VD λout ss' h1 h2 h3=>?_) (args_list_sort _)));obtain⟨e,he⟩:=sortedHeap_at (n:=0) (vs:=vs) (out:=out) hoL;refine⟨_,rfl,VO ⟨_,rfl,h h' _ tk d _ e ss' hk (λb o q=>?_) he h1 (h2.trans sp) h3⟩⟩;have hlt:b < h'.objs.size:=OM q;rw [sortedHeap_old (O6 hlt) (by rw [size_push'];exact Qu hlt),UJ _ _ _ (O6 hlt)];exact q
end
def wK(P:VW)(w:VX)(a:VM)(ss:List Int):HO:= .ext λh=>cX P w h a ss
theorem By:∀{vs:List VJ}{ss:List Int},V9 vs ss->aP (ss.map V.int) vs
 | _,_,.nil=>.nil
 | _,_,.cons y t r=>.cons ⟨t,rfl⟩ (By r)
theorem JM{X:Cx}:dZ X (.type "set") (λxs H Q=>X.calm=true/\∃(p:VM)(ss:List Int),xs=[.ref p]/\bu X.K H p (ss.map V.int)/\ss.length < 4000/\∀l,H l=none->Q (.ref l) (ai H l (wK X.prog X.w l (ss.foldl eD [])))):=by
 intro Xl s σ H xs us Q I r h;obtain⟨hc,p,ss,rfl,hq,h64,q⟩:=h;obtain⟨u,rfl,rx⟩:=fu r;cases rx;obtain⟨its,rv,pl,hz⟩:=I.list hq;have hlen:=rv.length;rw [Oe] at hlen;refine JH (I.ok.hd hc) pl.isList (by simpa using Bc rv) (by have:WD=4096:=rfl;simp;omega) λh' tk S' k'=>?_;refine⟨.ref _,_,I.laid (t':=tk) (o:=wK X.prog X.w _ (ss.foldl eD [])) k' (Oi _) ?_,rfl,q _ (I.hok.fresh (Oi _))⟩;obtain⟨o,e,_⟩:=id S';exact⟨S',⟨o,e⟩,λh1 h2 x k=>x.stay k⟩
theorem JN{X:Cx}:dZ X (.builtin "sorted") (λxs H Q=>X.calm=true/\∃(a:VM)(ss:List Int),xs=[.ref a]/\H a=some (wK X.prog X.w a ss)/\ss.length < 64/\∀(ns:List Int)(l:VM),ns.Perm ss->ns.Pairwise (·<=·)->H l=none->Q (.ref l) (ai H l (.lst (ns.map V.int)))):=by
 intro Xl s σ H xs us Q I r h;obtain⟨hc,a,ss,rfl,ha,h64,q⟩:=h;obtain⟨u,rfl,rx⟩:=fu r;cases rx;obtain⟨hS,_⟩:=I.hok a _ ha;refine JL (I.ok.hd hc) hS h64 λh' h2 tk d out e ss' k1 k2 at2 s1 s2 s3=>?_;have hl2:ss'.length=ss.length:=s2.length_eq;have I1:ah X Xl σ H {s with heap:=h',toks:=tk,drawn:=d}:=(I.kept (t':=tk) k1).drw;refine⟨.ref _,_,I1.laid (t':=tk) (o:= .lst (ss'.map V.int)) k2 (Oi _) ?_,rfl,q ss' _ s2 s3 (I1.hok.fresh (Oi _))⟩;refine⟨by rw [Oe,hl2];exact O7 (Rj h64) VC,out.toList,e,By s1,?_⟩;rw [at2]
section
variable {X:Cx} {H0:Hp} {O0:Ex}
def nR(t:DA):DA:=λδ Q=>t δ λds=>∃ss:List Int,ds=[.list (ss.map .int)]/\ss.length < 4000/\(ss.foldl eD []).length < 64/\∀ns:List Int,(∀z,z∈ns↔z∈ss)->ns.Pairwise (· < ·)->Q (ns.map .int)
theorem JO{a:VT}{t:DA}{np p np' p':Pos}(hc:X.calm=true)(hg:Gl X "sorted")(hm:X.mg "sorted"=none)(hv:V1 "sorted"=some (.builtin "sorted"))(hg':Gl X "set")(hm':X.mg "set"=none)(ha:PA X [a] (iq X.K H0 O0 t))
 (he:VQ [a] X.env=(false,eval a X.env)::VQ [] X.env:=by rfl)(hpl:(V4 p' (VQ [] X.env)).any (·.1)=false:=by rfl)
 (he':VQ [.Call (.Name "set" np') [a] [] p'] X.env=(false,eval (.Call (.Name "set" np') [a] [] p') X.env)::VQ [] X.env:=by rfl)(hpl':(V4 p (VQ [] X.env)).any (·.1)=false:=by rfl):
 FE X H0 O0 (.Call (.Name "sorted" np) [.Call (.Name "set" np') [a] [] p'] [] p) (nR t):=
 (bV JN hg hm hv (bF (dF JM hg' hm' Jd ha (he:=he) (hpl:=hpl)) ck he') (he:=he') (hpl:=hpl')).imp λσ H Q ⟨O,δ,Qd,w,q,k⟩=>⟨O,δ,_,w,q,λds vs H1 uu21 s1 r1=>by
  obtain⟨ss,e,h64,hl,q1⟩:=uu21;subst e;cases r1 with
  | cons h r=>
   cases r;obtain⟨a,us,rfl,h1,d1⟩:=h.lst;cases d1.intsL;refine⟨hc,a,ss,rfl,h1,h64,λl hl'=>⟨hc,l,_,rfl,bA,hl,λns l2 hp hs hl2=>?_⟩⟩;refine k _ _ _ _ (q1 ns (λz=>?_) ?_) (s1.trans (aw.new hl')) hl2 (ak.ofInts _)
   ·rw [hp.mem_iff,wI];simp
   ·have nd:ns.Nodup:=hp.nodup_iff.mpr (wJ .nil);exact(List.Pairwise.and hs nd).imp λ{a b} z=>by
     obtain⟨z1,z2⟩:=z;omega⟩
end
def wL(K:Og)(a:VM):It:=
 ⟨λi H=>∃xs x,bu K H a xs/\xs[i]?=some x,λi H x H'=>∃p v,H p=none/\x= .ref p/\H'=ai H p (.tup [.int (i:Int),v])/\∀xs,bu K H a xs->xs[i]?=some v,λi H=>∃xs,bu K H a xs/\xs.length<=i⟩
theorem JP{P:VW}{w:VX}{K:Og}{elts:List VT}{k0}{pos:Pos}(a it e:VM)(hei:e≠it):sk P w K (.Tuple elts k0 pos) (wL K a) [e,it] e (λi h=>(∃old,IsEnum h e it (i:Int) old)/\h.IsListIter it a i) where
 mem:=VH
 obj:=λi h st b hb=>by
  simp only [Ox,OY,or_false] at hb;obtain⟨⟨old,he⟩,o,eo,c,d⟩:=st;rcases hb with rfl | rfl
  ·exact⟨_,he,λv z=>by cases z⟩
  ·exact⟨o,eo,λv z=>by rw [d] at z;cases z⟩
 keep:=λi h h' st k=>⟨let ⟨old,he⟩:=st.1;⟨old,k e VH _ he⟩,st.2.at λo q=>k it VH o q⟩
 item:=by
  intro X hP hw hK hc i Xl s σ H E I hf st hg;subst hP hw hK;obtain⟨xs,x,hq,hx⟩:=hg;obtain⟨its,rv,p,hz⟩:=I.list hq;obtain⟨u,hu,ru⟩:=rv.get hx;obtain⟨⟨old,he⟩,hit⟩:=st;refine wpAny_pyNext_enum_item he hit p.isList (x:=u) (by simpa using hu) hei λh' ho hit' hT hsz hk=>?_;have hT0:H s.heap.objs.size=none:=I.hok.fresh (Oi _);have lte:e < s.heap.objs.size:=OM he;have lti:it < s.heap.objs.size:=by obtain⟨_,q,_⟩:=hit;exact OM q
  have I1:ah X Xl σ (ai H s.heap.objs.size (.tup [.int (i:Int),x])) {s with heap:=h',toks:=s.toks+1}:=by
   refine I.track (t':=s.toks+1) (ch:=[s.heap.objs.size,e,it]) VH (λb hb=>?_) (λb v hb q=>hk b v (λz=>hb (by simp [z])) (λz=>hb (by simp [z])) q) ?_
   ·rcases Ox.mp hb with z | z
    ·rw [z];exact I.fpOk (Oi _) hT0
    ·exact hf b z
   ·exact⟨by rw [Wg,OC,OC,Px];decide,[.int (i:Int) s.toks,u],.cons ⟨_,rfl⟩ (.cons ru .nil),_,hT,rfl,0,rfl⟩
  refine⟨_,rfl,wpAny_letOwnedTupleGo_enum ho λh2 he2 sb=>?_⟩;obtain⟨f0,f1,f2,f3,f4,f5⟩:=hf e VH;have ne:s.heap.objs.size≠e:=R1 lte;have I2:ah X Xl σ (ai H s.heap.objs.size (.tup [.int (i:Int),x])) {s with heap:=h2,toks:=s.toks+1}:=I1.turned (t':=s.toks+1) (λb o hb q=>(sb.2 b hb).trans q) (by rw [aC (Ne.symm ne)];exact f0) f1 f3 f4 f5;refine⟨.ref s.heap.objs.size,_,I2,rfl,⟨_,x,hT0,rfl,rfl,λys hy=>by rw [I.list_inj hy hq];exact hx⟩,⟨⟨_,by simpa using he2⟩,hit'.at λo q=>(sb.2 it (Ne.symm hei)).trans q⟩,λb hb=>?_⟩;rw [aC λz=>?_]
  ·exact(hf b hb).1
  ·simp only [Ox,OY,or_false] at hb;rcases hb with y | y
   ·rw [<-z,y] at lte;exact QJ _ lte
   ·rw [<-z,y] at lti;exact QJ _ lti
 done:=by
  intro X hP hw hK hc i Xl s σ H E I hf st hg;subst hP hw hK;obtain⟨xs,hq,hx⟩:=hg;obtain⟨its,rv,p,hz⟩:=I.list hq;obtain⟨⟨old,he⟩,hit⟩:=st;obtain⟨f0,f1,f2,f3,f4,f5⟩:=hf it VH;have hl:=rv.length;exact wpAny_pyNext_enum_end (I.ok.hd hc) he hit p.isList (by simp;omega) λh' eb=>⟨rfl,I.turned (t':=s.toks) (λb o hb e=>eb b o hb e) f0 f1 f3 f4 f5⟩
 self:=λA i s Q E st h=>by
  obtain⟨⟨old,he⟩,_⟩:=st;exact wpAny_pyIter_enum he h
def JQ(K:Og)(ta:TA):TI:=λσ H R=>ta σ H λvs H1=>∃a xs,vs=[.ref a]/\Rd H1 a (.lst xs)/\R (wL K a) H1
theorem JR{X:Cx}{elts:List VT}{k0}{tp:Pos}{a:VT}{ta:TA}{p pos:Pos}(hg:Gl X "enumerate")(hm:X.mg "enumerate"=none)(ha:PA X [a] ta)(hs:VQ [a] X.env=[(false,eval a X.env)]:=by rfl):PI X (.Tuple elts k0 tp) (.Call (.Name "enumerate" p) [a] [] pos) (JQ X.K ta):=by
 intro Xl s σ H R I h;refine Call_ (oB I hg hm boot_enumerate (Rk (aG (ha pos Xl s σ H _ I h) λus s1 ⟨vs,H1,I1,r1,q1⟩=>?_) hs rfl));obtain⟨b,xs,e,hr,q⟩:=q1;subst e;cases r1 with
 | cons r rr=>
  cases rr;cases r;have ho:∃(its:List VJ)(n:Nat),s1.heap.get? b=some {cls:= .type "list",dict:=none,data:= .seq its.toArray n,slots:=#[]}:=by
   rcases hr with hr | ⟨o,hr⟩
   ·obtain⟨_,its,n,_,z⟩:=I1.hok b _ hr;exact⟨its,n,z⟩
   ·obtain⟨_,_,its,n,_,z⟩:=I1.hok b _ hr;exact⟨its,n,z⟩
  obtain⟨its,n,ho⟩:=ho;refine call_enumerate_1 ho λh' he hit hsz hk=>wpAny_pyIter_enum he ?_;have I2:ah X Xl σ H1 {s1 with heap:=h'}:=I1.kept (t':=s1.toks) hk;refine⟨s1.heap.objs.size+1,[s1.heap.objs.size+1,s1.heap.objs.size],_,_,H1,rfl,I2,JP b s1.heap.objs.size (s1.heap.objs.size+1) (R1 (QM _)),⟨⟨_,he⟩,hit⟩,λc hc=>?_,q⟩;simp only [Ox,OY,or_false] at hc;rcases hc with rfl | rfl
  ·exact I1.fpOk (Qj _) (I1.hok.fresh (Qj _))
  ·exact I1.fpOk (Oi _) (I1.hok.fresh (Oi _))
def je:Nat->List VI->List VI
 | _,[]=>[]
 | k,x::r=>.tuple [.int (k:Int),x]::je (k+1) r
theorem wM:∀(k:Nat)(xs:List VI),(je k xs).length=xs.length
 | _,[]=>rfl
 | k,x::r=>by rw [je,OC,wM,OC]
theorem wN:∀(k:Nat)(xs:List VI)(i:Nat),(je k xs)[i]?=(xs[i]?).map λx=>.tuple [.int ((k+i:Nat):Int),x]
 | _,[],i=>by simp [je]
 | k,x::r,0=>by simp [je]
 | k,x::r,i+1=>by
  rw [je,Py,Py,wN (k+1) r i,show k+1+i=k+(i+1) by omega]
theorem JS{K:Og}{H0:Hp}{O0:Ex}{a:VM}{vs:List V}{xs:List VI}{g:TG}{dg:DG}{tb:DS}{D:jT}{E:d4}{σ:St}{H:Hp}{O:Ex}{δ:Dl}(hr:Rd H a (.lst vs))(ho:¬O a)(gd:GD K g dg)
 (r:ak K H O vs xs)(w:Wd K H0 O0 H O σ δ)(q:iu dg tb E (je 0 xs) δ)
 (k1:∀O' δ' σ' H',E.nx δ'->Wd K H0 O0 H' O' σ' δ'->aS H H' O O'->D.nx σ' H')(k2:∀d v H',E.rt d->aw H0 H'->Dt K H' O0 v d->D.rt v H'):FR (wL K a) g (bz K H0 O0 tb) D σ H:=by
 obtain⟨Iv,q0,qs,qe⟩:=q;have hl:=r.length;have sq:∀H' O',aS H H' O O'->bu K H' a vs:=λH' O' S=>.inl (hr.same λo e=>S.keep _ o e ho);refine⟨λi m σ' H'=>∃O' δ',m=vs.length - i/\i<=vs.length/\Wd K H0 O0 H' O' σ' δ'/\aS H H' O O'/\Iv i δ',⟨vs.length,O,δ,VH,Pc _,w,aS.refl _ _,q0⟩,?_⟩;rintro i m σ1 H1 ⟨O1,δ1,rfl,hi,w1,S1,q1⟩;by_cases hlt:i < vs.length
 ·refine .inr ⟨⟨vs,vs[i],sq _ _ S1,by simp [hlt]⟩,λσ' H'=>∃O' δ',Wd K H0 O0 H' O' σ' δ'/\aS H H' O O'/\Iv (i+1) δ',λσ' H' uu23=>by obtain⟨O',δ',w',S',q'⟩:=uu23;exact⟨vs.length - (i+1),VD,O',δ',rfl,hlt,w',S',q'⟩,λx H' y=>?_⟩;obtain⟨p,v,hp,rfl,rfl,hv⟩:=y;obtain⟨d,ed,rd⟩:=r.get (hv vs (sq _ _ S1));have sm:aw H1 (ai H1 p (.tup [.int (i:Int),v])):=aw.new hp;have w2:=w1.mono sm;have np:¬O1 p:=λz=>w1.trk p z hp;have dt:Dt K (ai H1 p (.tup [.int (i:Int),v])) O1 (.ref p) (.tuple [.int (i:Int),d]):= .tup (.inl bA) np (.cons (.int _) (.cons ((rd.step S1).mono sm) .nil));have S2:aS H (ai H1 p (.tup [.int (i:Int),v])) O O1:=S1.trans (.same sm);have e2:(je 0 xs)[i]?=some (.tuple [.int (i:Int),d]):=by rw [wN,ed];simp
  refine gd H0 O0 _ O1 σ1 δ1 _ _ _ _ w2 dt (qs i _ δ1 e2 q1) λδ2 σ2 q2 w2=>?_;exact⟨O1,δ2,_,w2,q2,λO' δ' σ' H' z w' S'=>⟨O',δ',w',S2.trans S',z⟩,k2,λO' δ' σ' H' z w' S'=>k1 O' δ' σ' H' z w' (S2.trans S'),λO' δ' σ' H' z w' S'=>⟨O',δ',w',S2.trans S',z⟩⟩
 ·have e:i=vs.length:=VD
  subst e;refine .inl ⟨⟨vs,sq _ _ S1,Oi _⟩,?_⟩;rw [hl,<-wM 0 xs] at q1;exact k1 O1 δ1 σ1 H1 (qe δ1 q1) w1 S1
section
variable {X:Cx} {H0:Hp} {O0:Ex}
def nS(t:DA)(g:DG)(tb:DS):DS:=λE δ=>t δ λds=>∃xs,ds=[.list xs]/\iu g tb E (je 0 xs) δ
theorem JT{elts:List VT}{k0}{tp:Pos}{a:VT}{body:List VZ}{p pos pos':Pos}{ta:DA}{g:TG}{dg:DG}{tb:DS}(hp:WO (VS X.prog X.w) X.A X.env X.xe)(hc:X.calm=true)(hgl:Gl X "enumerate")(hm:X.mg "enumerate"=none)(ha:PA X [a] (gN X.K H0 O0 ta))(hg:PG X (.Tuple elts k0 tp) g)(gd:GD X.K g dg)(hb:bX X body (bz X.K H0 O0 tb))
 (hst:VQ [a] X.env=[(false,eval a X.env)]:=by rfl)(hs:∀x,V2 (.Call (.Name "enumerate" p) [a] [] pos') X.env x=pure x:=by intro _;rfl):
 PS X (.For (.Tuple elts k0 tp) (.Call (.Name "enumerate" p) [a] [] pos') body [] pos) (bz X.K H0 O0 (nS ta dg tb)):=
 (sC hp hc (JR hgl hm ha hst) hg hb hs).imp λD σ H uu24=>by obtain⟨O,δ,E,w,q,k1,k2,k3,k4⟩:=uu24;exact⟨O,δ,_,w,q,λds vs H1 uu25 s1 r1=>by
  obtain⟨xs,e,q1⟩:=uu25;subst e;cases r1 with
  | cons h r=>
   cases r;cases h with
   | lst h n r=>
    exact⟨_,_,rfl,h,JS h n gd r (w.mono s1) q1 (λO' δ' σ' H' z w' S=>k1 O' δ' σ' H' z w' (aS.trans (.same s1) S)) k2⟩⟩
end
def nT:List VI->(VI->Prop)->Prop:=λds Q=>∃ns:List Int,ds=[.list (ns.map .int)]/\Q (.int ns.sum)
theorem JU{K:Og}:j1 K (λxs H Q=>∃(a:VM)(ns:List Int),xs=[.ref a]/\bu K H a (ns.map V.int)/\Q (.int ns.sum) H) nT:=λH O xs ds Qd R tr hs uu26 k=>by
 obtain⟨ns,e,q⟩:=uu26;subst e;cases hs with
 | cons h r=>
  cases r;obtain⟨a,vs,rfl,h1,d1⟩:=h.lst;cases d1.intsL;exact⟨a,ns,rfl,h1,k _ _ H q (aw.refl _) (.int _)⟩
def wO(c:Int->Int->Prop):R2:=λx y H Q=>∃i j,x= .int i/\y= .int j/\c i j/\∀r:Int,Q (.int r) H
theorem Bz{X:Cx}:bU X (Wn .RShift) (wO λ_ j=>0<=j):=by
 intro Xl s σ H x y v u Q I rx ry h;obtain⟨i,j,rfl,rfl,c,q⟩:=h;obtain⟨t,rfl⟩:=rx;obtain⟨t',rfl⟩:=ry;by_cases hb:j >= ((P9 i:Nat):Int)
 ·exact PySem.AutoIntOps.rshift_1 VD hb ⟨.int _,H,I.tok _,⟨_,rfl⟩,q _⟩
 ·exact PySem.AutoIntOps.rshift_2 VD hb ⟨.int _,H,I.tok _,⟨_,rfl⟩,q _⟩
theorem BA{X:Cx}:bU X (Wn .BitAnd) (wO λ_ _=>True):=by
 intro Xl s σ H x y v u Q I rx ry h;obtain⟨i,j,rfl,rfl,c,q⟩:=h;obtain⟨t,rfl⟩:=rx;obtain⟨t',rfl⟩:=ry;exact and_int ⟨.int _,H,I.tok _,⟨_,rfl⟩,q _⟩
def nU(c:Int->Int->Prop):VI->VI->(VI->Prop)->Prop:=λx y Q=>∃i j:Int,x= .int i/\y= .int j/\c i j/\∀r:Int,Q (.int r)
theorem uL{K:Og}{c:Int->Int->Prop}:cN K (wO c) (nU c):=λH O x y dx dy Qd R tr hx hy uu27 k=>by
 obtain⟨i,j,e1,e2,h,q⟩:=uu27;subst e1 e2;cases hx.int;cases hy.int;exact⟨i,j,rfl,rfl,h,λr=>k _ _ H (q r) (aw.refl _) (.int _)⟩
section
variable {X:Cx} {H0:Hp} {O0:Ex}
def nV(n:Nat)(t:DA):DA:=λδ Q=>t δ λds=>ds.length<=1000/\Q (OL n ds).flatten
theorem ak.rep{K:Og}{H:Hp}{O:Ex}{vs:List V}{ds:List VI}(h:ak K H O vs ds):∀n:Nat,ak K H O (OL n vs).flatten (OL n ds).flatten
 | 0=>.nil
 | n+1=>by rw [Qk,Qk,RA,RA];exact h.append (ak.rep h n)
theorem wQ{n:Nat}(hn:n<=1000){e:VT}{t:DA}{j}{pos cp:Pos}(h:FE X H0 O0 e t):FE X H0 O0 (.BinOp e .Mult (.Constant (.int (n:Int)) j cp) pos) (nV n t):=
 (bM GO h bR).imp λσ H Q ⟨O,δ,Qd,w,q,k⟩=>⟨O,δ,_,w,q,λds vs p H1 q1 s1 hp r1=>by
  refine⟨p,n,vs,rfl,rfl,bA,VD,VD,?_,λp' hp'=>?_⟩
  ·have h1:=r1.length;have h2:(VV:Nat)=16777216:=VC
   have h3:=q1.1;rw [Ql];have h4:vs.length*n<=1000*1000:=Nat.mul_le_mul VD hn;omega
  ·rw [Ql];exact k _ _ p' _ q1.2 (s1.trans (aw.new hp)) hp' ((r1.rep n).mono (aw.new hp))⟩
end
def JV:V->List V->Hp->VK->Prop:=λx vs H Q=>∃l b xs zs,x= .ref l/\vs=[.ref b]/\H l=some (.lst xs)/\Rd H b (.lst zs)/\xs.length+zs.length<=VV/\Q .non (ai H l (.lst (xs++zs)))
theorem JW{X:Cx}:vQ X "list.extend" JV:=by
 intro Xl s σ H x vs v us Q I rx rv h;obtain⟨l,b,xs,zs,rfl,rfl,hH,hB,hz,q⟩:=h;cases rx;obtain⟨u,rfl,ru⟩:=rv.one;cases ru;obtain⟨z,its,n,r,hl,e⟩:=I.lstM hH;obtain⟨z2,its2,n2,r2,e2⟩:=hB.ok I.hok;have hl2:=r2.length;have hsz:its.toArray.size+its2.toArray.size<=VV:=by rw [OH,OH];omega
 have hlong:¬(!its.toArray.isEmpty && QY (its.toArray.size+its2.toArray.size))=true:=by
  rw [vR hsz,Vb];exact Ot
 refine WB SA ⟨_,e,rfl⟩ PySem.F.entry_list_extend (PySem.F.args_list_extend_2 _ _)
  (SN l its.toArray n b its2.toArray n2 hlong (by rw [OH];omega) VD) ⟨e,e2,?_⟩
 refine⟨.non,_,I.lset (its':=its++its2) hH e VH (r.append r2) ?_,rfl,q⟩;rw [OG];omega
section
variable {X:Cx} {H0:Hp} {O0:Ex}
def nW(i:Nat)(t:DT):DS:=λE δ=>∃ds,δ[i]?=some (some (.o ds))/\t δ λd=>∃es,d= .list es/\ds.length+es.length<=VV/\E.nx (δ.set i (some (.o (ds++es))))
theorem wR{i:Nat}{o e:VT}{t:DT}{apos cpos pos:Pos}(ho:PE X o (dh i))(he:DE X H0 O0 e t)(hbase:Wh o "extend" X.env (eval o X.env)=eval o X.env:=by rfl)
 (hfew:((V4 cpos (VQ [e] X.env)).all (λx=>!x.1) && (Wu cpos (Wj [] X.env)).all (λx=>x.1.isSome) && decide ([e].length+([]:List WA).length+(if ([]:List WA).isEmpty then 0 else 1) < 30))=true:=by rfl)
 (hline:(apos.endLine==cpos.line)=true:=by rfl)(hst:VQ [e] X.env=(false,eval e X.env)::VQ [] X.env:=by rfl)(hplain:(V4 cpos (VQ [] X.env)).any (·.1)=false:=by rfl)
 (hs:V5 (.Call (.Attribute o "extend" apos) [e] [] cpos) none pos.line X.env=pure false:=by rfl):PS X (.Expr (.Call (.Attribute o "extend" apos) [e] [] cpos) pos) (bz X.K H0 O0 (nW i t)):=
 (tG (vP SH SA TJ JW ho (bF he ck hst) hbase hfew hline hst hplain) hs).imp λD σ H uu29=>by
  obtain⟨O,δ,E,w,⟨ds,e,q⟩,k1,k2,k3,k4⟩:=uu29;obtain⟨l,vs,h,a,b,c,r⟩:=w.own e;refine⟨_,h,.inl ⟨rfl,_,bu.of c⟩,O,δ,_,w,q,λd v H1 ⟨es,ed,q1,q2⟩ s1 r1=>?_⟩;subst ed;have hl:H1 l=some (.lst vs):=s1 _ _ c;cases r1 with
  | lst h1 n r1=>
   refine⟨l,_,vs,_,rfl,rfl,hl,h1,by rw [r.length,r1.length];exact q1,?_⟩;exact k1 _ _ _ _ q2 ((w.mono s1).putO (vs:=vs) e h ((r.mono s1).append r1)) ⟨λb' o' z n=>by rw [aC (λy=>n (by rw [y];exact a))];exact s1 _ _ z,λ_ _ n=>n⟩
theorem BB{i:Nat}{x:Str}{e:VT}{t:DA}{pos pos':Pos}(hN:X.N.Nodup)(hi:X.N[i]?=some x)(hx:gK X.env.scope x)(he:PU X e (qQ X.K H0 O0 t))(hs:V5 e (some (.Name x pos')) pos.line X.env=pure true:=by rfl)(hf:X.fn x=true\/X.env.scope.names.lookup x=some .local:=by first | exact .inl rfl | exact .inr rfl | assumption):
 PS X (.Assign [.Name x pos'] e pos) (bz X.K H0 O0 (iY i t)):=
 (he _ _ _ _ hN hi hx hs hf).imp λD σ H ⟨O,δ,E,w,q,k1,k2,k3,k4⟩=>⟨O,δ,_,w,q,λds vs p H1 q1 s1 hp r1=>k1 _ _ _ _ q1 ((w.mono s1).setO hp r1)
  ⟨λb o e _=>(s1.trans (aw.new hp)) b o e,λb e n z=>z.elim n λy=>by
   cases q:H b with
   | none=>exact e q
   | some o=>have:=s1 _ _ q;rw [y,hp] at this;cases this⟩⟩
end
end L2
namespace Day
def iz(y:Int):Bool:=decide (y % 400=0) || (decide (y % 4=0) && !decide (y % 100=0))
def ld(y:Int):Int:=if iz y=true then 1 else 0
def wU:List Int:=[31,28,31,30,31,30,31,31,30,31,30,31]
def bB(y m:Int):Int:=if m=2/\iz y=true then 29 else wU.getD (m - 1).toNat 0
def lb(y:Int):Int:=(y - 1)/ 4 - (y - 1)/ 100+(y - 1)/ 400
def cv(y:Int):Int:=365*(y - 2000)+lb y - lb 2000
def aY(y m:Int):Int:=((P7 (m - 1).toNat).map λ(i:Nat)=>bB y (1+(i:Int))).sum
def p8(y m n:Int):Int:=cv y+aY y m+n - 1
structure nX (d y m n:Int):Prop where
 m1:1<=m
 m12:m<=12
 n1:1<=n
 nl:n<=bB y m
 eq:p8 y m n=d
theorem JX(y:Int):0<=ld y/\ld y<=1:=by unfold ld;split <;> omega
theorem sW(y:Int):iz y=true↔(y % 400=0\/(y % 4=0/\y % 100≠0)):=by
 unfold iz;simp
theorem BC(y:Int):cv (y+1)=cv y+365+ld y:=by
 unfold cv lb ld;by_cases h:iz y=true
 ·rw [VF h];have:=(sW y).mp h;omega
 ·rw [VE h];have:=mt (sW y).mpr h;omega
theorem BD{a b:Int}(h:a+1<=b):cv (a+1)<=cv b:=by
 unfold cv lb;omega
theorem wV(y:Int):bB y 2=28+ld y:=by
 unfold bB ld;by_cases h:iz y=true
 ·rw [VF ⟨rfl,h⟩,VF h];rfl
 ·rw [VE (λz=>h z.2),VE h];rfl
theorem wX{y m:Int}(h:m≠2):bB y m=wU.getD (m - 1).toNat 0:=by
 unfold bB;rw [VE (λz=>h z.1)]
theorem wY(y:Int):bB y 1=31/\bB y 3=31/\bB y 4=30/\bB y 5=31/\bB y 6=30/\bB y 7=31/\bB y 8=31/\bB y 9=30/\bB y 10=31/\bB y 11=30/\bB y 12=31:=by
 refine⟨?_,?_,?_,?_,?_,?_,?_,?_,?_,?_,?_⟩ <;> (rw [wX VC];rfl)
theorem wZ{m:Int}(h1:1<=m)(h2:m<=12):m=1\/m=2\/m=3\/m=4\/m=5\/m=6\/m=7\/m=8\/m=9\/m=10\/m=11\/m=12:=by
 obtain⟨k,e⟩:=QD (show 0<=m - 1 by omega);have e:m=(k:Int)+1:=VD
 have hk:k < 12:=VD
 have key:∀k:Fin 12,((k.1:Nat):Int)+1=1\/((k.1:Nat):Int)+1=2\/((k.1:Nat):Int)+1=3\/((k.1:Nat):Int)+1=4\/((k.1:Nat):Int)+1=5\/((k.1:Nat):Int)+1=6\/((k.1:Nat):Int)+1=7\/((k.1:Nat):Int)+1=8\/((k.1:Nat):Int)+1=9\/((k.1:Nat):Int)+1=10\/((k.1:Nat):Int)+1=11\/((k.1:Nat):Int)+1=12:=VB
 rw [e];exact key ⟨k,hk⟩
theorem JY{y m:Int}(h1:1<=m)(h2:m<=12):28<=bB y m/\bB y m<=31:=by
 obtain⟨m1,m3,m4,m5,m6,m7,m8,m9,m10,m11,m12⟩:=wY y;have m2:28<=bB y 2/\bB y 2<=31:=by
  have:=JX y;rw [wV];clear m1 m3 m4 m5 m6 m7 m8 m9 m10 m11 m12 h1 h2;omega
 have k:∀{z:Int},z=31\/z=30->28<=z/\z<=31:=λh=>by rcases h with h | h <;> rw [h] <;> decide
 rcases wZ h1 h2 with h | h | h | h | h | h | h | h | h | h | h | h <;> subst h
 ·exact k (.inl m1)
 ·exact m2
 ·exact k (.inl m3)
 ·exact k (.inr m4)
 ·exact k (.inl m5)
 ·exact k (.inr m6)
 ·exact k (.inl m7)
 ·exact k (.inl m8)
 ·exact k (.inr m9)
 ·exact k (.inl m10)
 ·exact k (.inr m11)
 ·exact k (.inl m12)
theorem xa(y:Int):aY y 1=0:=rfl
theorem eT{y m:Int}(h:1<=m):aY y (m+1)=aY y m+bB y m:=by
 unfold aY;have e:(m+1 - 1).toNat=(m - 1).toNat+1:=VD
 rw [e,T2,OO,List.sum_append];have e2:(1:Int)+(((m - 1).toNat:Nat):Int)=m:=VD
 simp only [Ol,Pw,Ru,List.sum_nil,e2];omega
theorem JZ{a b c:Int}(l:Int)(h:a+b=c):a+(b+l)=c+l:=VD
theorem jf{a b c:Int}(l:Int)(h:a+b=c):a+l+b=c+l:=VD
theorem xb(y:Int):aY y 1=0/\aY y 2=31/\aY y 3=59+ld y/\aY y 4=90+ld y/\aY y 5=120+ld y/\aY y 6=151+ld y/\aY y 7=181+ld y/\aY y 8=212+ld y/\aY y 9=243+ld y/\aY y 10=273+ld y/\aY y 11=304+ld y/\aY y 12=334+ld y/\aY y 13=365+ld y:=by
 obtain⟨m1,m3,m4,m5,m6,m7,m8,m9,m10,m11,m12⟩:=wY y;have e2:aY y 2=31:=by rw [show aY y 2=aY y 1+bB y 1 from eT (m:=1) VC,m1];rfl
 have e3:aY y 3=59+ld y:=by rw [show aY y 3=aY y 2+bB y 2 from eT (m:=2) VC,e2,wV];exact JZ _ rfl
 have e4:aY y 4=90+ld y:=by rw [show aY y 4=aY y 3+bB y 3 from eT (m:=3) VC,e3,m3];exact jf _ rfl
 have e5:aY y 5=120+ld y:=by rw [show aY y 5=aY y 4+bB y 4 from eT (m:=4) VC,e4,m4];exact jf _ rfl
 have e6:aY y 6=151+ld y:=by rw [show aY y 6=aY y 5+bB y 5 from eT (m:=5) VC,e5,m5];exact jf _ rfl
 have e7:aY y 7=181+ld y:=by rw [show aY y 7=aY y 6+bB y 6 from eT (m:=6) VC,e6,m6];exact jf _ rfl
 have e8:aY y 8=212+ld y:=by rw [show aY y 8=aY y 7+bB y 7 from eT (m:=7) VC,e7,m7];exact jf _ rfl
 have e9:aY y 9=243+ld y:=by rw [show aY y 9=aY y 8+bB y 8 from eT (m:=8) VC,e8,m8];exact jf _ rfl
 have e10:aY y 10=273+ld y:=by rw [show aY y 10=aY y 9+bB y 9 from eT (m:=9) VC,e9,m9];exact jf _ rfl
 have e11:aY y 11=304+ld y:=by rw [show aY y 11=aY y 10+bB y 10 from eT (m:=10) VC,e10,m10];exact jf _ rfl
 have e12:aY y 12=334+ld y:=by rw [show aY y 12=aY y 11+bB y 11 from eT (m:=11) VC,e11,m11];exact jf _ rfl
 have e13:aY y 13=365+ld y:=by rw [show aY y 13=aY y 12+bB y 12 from eT (m:=12) VC,e12,m12];exact jf _ rfl
 exact⟨xa y,e2,e3,e4,e5,e6,e7,e8,e9,e10,e11,e12,e13⟩
theorem BE{y m:Int}(h1:1<=m):∀k:Nat,m+k<=13->aY y m<=aY y (m+k)
 | 0,_=>by simp
 | k+1,h=>by
  have ih:=BE (y:=y) h1 k VD;have e:m+((k+1:Nat):Int)=(m+k)+1:=VD
  rw [e,eT VD];have:=JY (y:=y) (m:=m+k) VD VD;omega
theorem xc{y m m':Int}(h1:1<=m)(h2:m<=m')(h3:m'<=13):aY y m<=aY y m':=by
 have:=BE (y:=y) h1 (m' - m).toNat VD;rw [show m+(((m' - m).toNat:Nat):Int)=m' by omega] at this;exact this
theorem BF{y m:Int}(h1:1<=m)(h2:m<=12):0<=aY y m/\aY y m+bB y m<=365+ld y:=by
 have a:=xc (y:=y) (m:=1) (m':=m) VC h1 VD;have b:=xc (y:=y) (m:=m+1) (m':=13) VD VD VC;rw [eT h1] at b;have c:=(xb y).1;have e:=(xb y).2.2.2.2.2.2.2.2.2.2.2.2;omega
theorem BG{y m m':Int}(h1:1<=m)(h2:m < m')(h3:m'<=12):aY y m+bB y m<=aY y m':=by
 have b:=xc (y:=y) (m:=m+1) (m':=m') VD VD VD;rw [eT h1] at b;exact b
theorem nX.in{d y m n:Int}(h:nX d y m n):cv y<=d/\d < cv (y+1):=by
 have:=BF (y:=y) h.m1 h.m12;have:=h.n1;have:=h.nl;have e:=h.eq;have:=BC y;unfold p8 at e;omega
theorem nX.uniq{d y m n y' m' n':Int}(h:nX d y m n)(h':nX d y' m' n'):y=y'/\m=m'/\n=n':=by
 have a:=h.in;have b:=h'.in;have ey:y=y':=by
  rcases UO y y' with z | z | z
  ·have:=BD (a:=y) (b:=y') VD;omega
  ·exact z
  ·have:=BD (a:=y') (b:=y) VD;omega
 subst ey;have e:=h.eq;have e':=h'.eq;unfold p8 at e e';have em:m=m':=by
  rcases UO m m' with z | z | z
  ·have:=BG (y:=y) h.m1 z h'.m12;have:=h.nl;have:=h'.n1;omega
  ·exact z
  ·have:=BG (y:=y) h'.m1 z h.m12;have:=h'.nl;have:=h.n1;omega
 subst em;exact⟨rfl,rfl,VD⟩
def ri(d:Int):Int:=
 if d < cv (2000+d*400 / 146097) then 2000+d*400 / 146097 - 1
 else if cv (2000+d*400 / 146097+1)<=d then 2000+d*400 / 146097+1
 else 2000+d*400 / 146097
theorem J0(d:Int):cv (ri d)<=d/\d < cv (ri d+1):=by
 unfold ri;have e:2000+d*400 / 146097 - 1+1=2000+d*400 / 146097:=VD
 by_cases h:d < cv (2000+d*400 / 146097)
 ·rw [VF h,e];refine⟨?_,h⟩;unfold cv lb at*;omega
 ·rw [VE h];by_cases h2:cv (2000+d*400 / 146097+1)<=d
  ·rw [VF h2];refine⟨h2,?_⟩;unfold cv lb at*;omega
  ·rw [VE h2];omega
def uM(y m n k:Int):Int:=p8 ((y*12+m - 1+k)/ 12) ((y*12+m - 1+k)% 12+1) (min n (bB ((y*12+m - 1+k)/ 12) ((y*12+m - 1+k)% 12+1)))
theorem J1(y:Int):365*(y - 2000)+(y - 2000+3)/ 4 - (y - 2000+99)/ 100+(y - 2000+399)/ 400=cv y:=by
 unfold cv lb;omega
theorem length_eq(y m:Int)(h1:1<=m)(h2:m<=12):(if m=2/\(y % 4≠0\/(y % 100=0/\y % 400≠0)) then(28:Int) else [31,29,31,30,31,30,31,31,30,31,30,31].getD (m - 1).toNat 0)=bB y m:=by
 by_cases h:m=2
 ·subst h;rw [wV];unfold ld;by_cases l:iz y=true
  ·rw [VF l,VE (by have:=(sW y).mp l;omega)];rfl
  ·rw [VE l,VF (by have:=mt (sW y).mpr l;omega)];rfl
 ·rw [wX h,VE (λz=>h z.1)];rcases wZ h1 h2 with z | z | z | z | z | z | z | z | z | z | z | z <;> subst z <;> first | rfl | exact absurd rfl h
def fst(M:Int):Int:=p8 (M / 12) (M % 12+1) 1
def Dn(M n:Int):Int:=fst M+n - 1
end Day
namespace L2
open PySem PySem.Spec PyProof.Rows PySem.W
def d2(m:Nat):List Nat:=[48+m / 10,48+m % 10]
open PySem PySem.Spec PyProof.Rows PySem.W PySem.Calls
section
variable {X:Cx} {H0:Hp} {O0:Ex}
def nY(t:DT):DB:=λδ Q=>t δ λd=>∃ds,d= .list ds/\Q (!ds.isEmpty)
theorem uN{e:VT}{t:DT}(h:DE X H0 O0 e t)(he:∀whole,isTrue e X.env whole=(do let v<-whole;WZ e.pos;WR [v] (truthy v)):=by intro _;rfl):PT X e (b5 X.K H0 O0 (nY t)):=
 (FH h he).imp λσ H Q ⟨O,δ,Qd,w,q,k⟩=>⟨O,δ,_,w,q,λd v H' uu33 s r=>by
  obtain⟨ds,e,qb⟩:=uu33;subst e;obtain⟨a,vs,rfl,hs,r⟩:=(Sh.dt r).lst;refine⟨_,.inl ⟨vs,hs,rfl⟩,?_⟩;have:(!vs.isEmpty)=!ds.isEmpty:=by cases r <;> rfl
  rw [this];exact k _ H' qb s⟩
theorem uO{K:Og}{H:Hp}{O:Ex}{z:Str}:∀{kv:List (au×V)}{ks:List Str}{ds:List VI},kv.map (·.1)=ks.map P4->ak K H O (kv.map (·.2)) ds->br ks ds z=none->dW kv (.inr z)=none
 | [],_,ds,_,_,e=>rfl
 | _::_,[],ds,h,_,_=>by cases h
 | p::kv,k::ks,ds,h,hd,e=>by
  rw [Ol] at hd;cases hd with
  | cons h1 h2=>
   simp only [Ol,Pe] at h;obtain⟨p1,p2⟩:=p;obtain⟨rfl,h⟩:=h;unfold br at e;by_cases hk:k=z
   ·rw [VF hk] at e;cases e
   ·rw [VE hk] at e;rw [qV (λq=>hk (ja.mp q))];exact uO h h2 e
def nZ(to tk:DT):DT:=λδ Q=>to δ λx=>∃ks ds,x=fW ks ds/\tk δ λy=>∃z,y= .str z/\Q ((br ks ds z).getD .none)
theorem J3{o e:VT}{to tk:DT}{apos cpos:Pos}(hu:X.A.units+64 < Wa)(ho:DE X H0 O0 o to)(he:DE X H0 O0 e tk)(m:M1 X o "get" apos e cpos):DE X H0 O0 (.Call (.Attribute o "get" apos) [e] [] cpos) (nZ to tk):=
 (AA VD ho he m).imp λσ H Q uu34=>by
  obtain⟨O,δ,Qd,w,q,k⟩:=uu34;refine⟨O,δ,_,w,q,λx vx H1 ⟨ks,ds,ex,q1⟩ s1 r1=>?_⟩;subst ex;cases r1 with
  | @dic a ob kv ks' kp ds h e1 e2 n rr=>
   have ek:ks'=ks:=by
    have:ks'.map Oj=ks.map Oj:=e2.symm;exact rg this
   subst ek;refine⟨a,rfl,.inl ⟨kv,.inr ⟨_,h⟩⟩,O,δ,_,w.mono s1,q1,λy vy H2 ⟨z,ey,q2⟩ s2 r2=>?_⟩;subst ey;cases r2;refine⟨_,cQ.z (k:= .inr z) (s2 _ _ h),k _ _ _ q2 (s1.trans s2) ?_⟩;cases hd:br ks' ds z with
   | none=>rw [uO e1 rr hd];exact .non
   | some d=>
    obtain⟨v,hv,dv⟩:=sU e1 rr hd;rw [hv];exact dv.mono s2
def n8(to tk tx:DT):DT:=λδ Q=>to δ λx=>∃ks ds,x=fW ks ds/\tk δ λy=>tx δ λu=>∃z,y= .str z/\Q ((br ks ds z).getD u)
theorem J4{o e f:VT}{to tk tx:DT}{apos cpos:Pos}(hu:X.A.units+64 < Wa)(ho:DE X H0 O0 o to)(he:DE X H0 O0 e tk)(hf:DE X H0 O0 f tx)(m:M2 X o "get" apos e f cpos):DE X H0 O0 (.Call (.Attribute o "get" apos) [e,f] [] cpos) (n8 to tk tx):=
 (HW VD ho he hf m).imp λσ H Q uu37=>by
  obtain⟨O,δ,Qd,w,q,k⟩:=uu37;refine⟨O,δ,_,w,q,λx vx H1 ⟨ks,ds,ex,q1⟩ s1 r1=>?_⟩;subst ex;cases r1 with
  | @dic a ob kv ks' kp ds h e1 e2 n rr=>
   have ek:ks'=ks:=by
    have:ks'.map Oj=ks.map Oj:=e2.symm;exact rg this
   subst ek;refine⟨a,rfl,.inl ⟨kv,.inr ⟨_,h⟩⟩,O,δ,_,w.mono s1,q1,λy vy H2 q2 s2 r2=>?_⟩;refine⟨O,δ,_,(w.mono s1).mono s2,q2,λu vu H3 ⟨z,ey,q3⟩ s3 r3=>?_⟩;subst ey;cases r2;refine⟨_,cQ.z (k:= .inr z) (s3 _ _ (s2 _ _ h)),k _ _ _ q3 ((s1.trans s2).trans s3) ?_⟩;cases hd:br ks' ds z with
   | none=>rw [uO e1 rr hd];exact r3
   | some d=>
    obtain⟨v,hv,dv⟩:=sU e1 rr hd;rw [hv];exact(dv.mono s2).mono s3
end
theorem Dt.dicE{K:Og}{H:Hp}{O:Ex}{v:V}{ks:List Str}{ds:List VI}(h:Dt K H O v (fW ks ds)):∃a ob kv,v= .ref a/\H a=some (.frz ob (.dK kv))/\kv.map (·.1)=ks.map P4/\¬O a/\ak K H O (kv.map (·.2)) ds:=by
 cases h with
 | @dic a ob kv ks' kp ds h e1 e2 n rr=>
  have ek:ks'=ks:=rg e2.symm;subst ek;exact⟨a,ob,kv,rfl,h,e1,n,rr⟩
theorem BH{K:Og}{H:Hp}{O:Ex}{z:Str}{kv:List (au×V)}{ks:List Str}{ds:List VI}(e1:kv.map (·.1)=ks.map P4)(r:ak K H O (kv.map (·.2)) ds):(dW kv (.inr z)).isSome=(br ks ds z).isSome:=by
 cases hd:br ks ds z with
 | none=>rw [uO e1 r hd];rfl
 | some d=>
  obtain⟨v,hv,_⟩:=sU e1 r hd;rw [hv];rfl
section
variable {X:Cx} {H0:Hp} {O0:Ex}
def iA(neg:Bool)(tk to:DT):DT:=λδ Q=>tk δ λy=>to δ λx=>∃z ks ds,y= .str z/\x=fW ks ds/\Q (.bool (if neg then !(br ks ds z).isSome else(br ks ds z).isSome))
theorem J5{o e:VT}{tk to:DT}(hu:X.A.units+64 < Wa)(ho:DE X H0 O0 o to)(he:DE X H0 O0 e tk):PC X .In e o (up X.K H0 O0 (iA false tk to)):=λXl s σ H Q I ⟨O,δ,Qd,w,q,k⟩=>
 HN VD he ho Xl s σ H Q I ⟨O,δ,_,w,q,λy uy H2 q2 s2 r2=>⟨O,δ,_,w.mono s2,q2,λx ux H3 uu41 s3 r3=>by
  obtain⟨z,ks,ds,ey,ex,q3⟩:=uu41;subst ey ex;cases r2;obtain⟨a,ob,kv,rfl,h,e1,n,rr⟩:=r3.dicE;exact⟨a,_,rfl,cQ.z (k:= .inr z) h,by rw [BH e1 rr];exact k _ _ _ q3 (s2.trans s3) (.bl _)⟩⟩⟩
theorem J6{o e:VT}{tk to:DT}(hu:X.A.units+64 < Wa)(ho:DE X H0 O0 o to)(he:DE X H0 O0 e tk):PC X .NotIn e o (up X.K H0 O0 (iA true tk to)):=λXl s σ H Q I ⟨O,δ,Qd,w,q,k⟩=>
 Ax VD he ho Xl s σ H Q I ⟨O,δ,_,w,q,λy uy H2 q2 s2 r2=>⟨O,δ,_,w.mono s2,q2,λx ux H3 uu43 s3 r3=>by
  obtain⟨z,ks,ds,ey,ex,q3⟩:=uu43;subst ey ex;cases r2;obtain⟨a,ob,kv,rfl,h,e1,n,rr⟩:=r3.dicE;exact⟨a,_,rfl,cQ.z (k:= .inr z) h,by rw [BH e1 rr];exact k _ _ _ q3 (s2.trans s3) (.bl _)⟩⟩⟩
theorem Oc{o e:VT}{tk to:DT}{pos:Pos}(hu:X.A.units+64 < Wa)(ho:DE X H0 O0 o to)(he:DE X H0 O0 e tk)(hm:Wf .In o=false:=by rfl):PT X (.Compare e [.In] [o] pos) (b5 X.K H0 O0 (dR (iA false tk to))):=
 (tF (J5 hu ho he) hm).imp λσ H Q uu44=>by obtain⟨O,δ,Qd,w,q,k⟩:=uu44;exact⟨O,δ,_,w,q,λd v H' uu45 s r=>by obtain⟨b,e,qb⟩:=uu45;subst e;cases r;exact⟨b,rfl,k b H' qb s⟩⟩
theorem J7{o e:VT}{tk to:DT}{pos:Pos}(hu:X.A.units+64 < Wa)(ho:DE X H0 O0 o to)(he:DE X H0 O0 e tk)(hm:Wf .NotIn o=false:=by rfl):PT X (.Compare e [.NotIn] [o] pos) (b5 X.K H0 O0 (dR (iA true tk to))):=
 (tF (J6 hu ho he) hm).imp λσ H Q uu46=>by obtain⟨O,δ,Qd,w,q,k⟩:=uu46;exact⟨O,δ,_,w,q,λd v H' uu47 s r=>by obtain⟨b,e,qb⟩:=uu47;subst e;cases r;exact⟨b,rfl,k b H' qb s⟩⟩
theorem BI{X:Cx}{pos:Pos}:PE X (.Dict [] [] pos) (λ_ H Q=>∀p o,H p=none->Q (.ref p) (ai H p (.frz o (.dK [])))):=λXl s σ H Q I h=>by
 have I1:=I.laid (a:=s.heap.objs.size) (o:= .dK []) (t':=s.toks) (λ_ _ q=>Ou _ q) (Oi _) (Ay s.heap I.big);obtain⟨o,I2⟩:=I1.fast bA;rw [E5] at I2;exact wpAny_Dict_empty ⟨.ref s.heap.objs.size,_,I2,rfl,h _ o (I.hok.fresh (Oi _))⟩
end
mutual
def cS:VI->Bool
 | .list ds=>fF ds
 | .tuple ds=>fF ds
 | .none=>true
 | .bool _=>true
 | .int _=>true
 | .str _=>true
 | _=>false
def fF:List VI->Bool
 | []=>true
 | d::ds=>cS d && fF ds
end
def Gp(C:VM)(H:Hp)(O O1:Ex):Prop:=∀a,O a->O1 a\/(∃o kv,H a=some (.frz o (.dK kv)))\/∃dx fs,H a=some (.ins C dx fs)
theorem Gp.ne{C:VM}{H:Hp}{O O1:Ex}(g:Gp C H O O1){a:VM}{u:HO}(h:Rd H a u)(n:¬O1 a)(h1:∀kv,u≠ .dK kv)(h2:∀dx fs,u≠ .ins C dx fs)(h3:∀o kv,u≠ .frz o (.dK kv)):¬O a:=λz=>by
 rcases g a z with q | ⟨o,kv,q⟩ | ⟨dx,fs,q⟩
 ·exact n q
 ·rcases h with h | ⟨o',h⟩ <;> rw [q] at h <;> cases h
  ·exact h3 _ _ rfl
  ·exact h1 _ rfl
 ·rcases h with h | ⟨o',h⟩ <;> rw [q] at h <;> cases h;exact h2 _ _ rfl
mutual
theorem Dt.cln{K:Og}{C:VM}{H:Hp}{O O1:Ex}(g:Gp C H O O1):∀{v:V}{d:VI},Dt K H O1 v d->cS d=true->Dt K H O v d
 | _,_,.non,_=>.non
 | _,_,.bl b,_=>.bl b
 | _,_,.int i,_=>.int i
 | _,_,.str x,_=>.str x
 | _,_,.tup h n r,c=>.tup h (g.ne h n (λ_ z=>nomatch z) (λ_ _ z=>nomatch z) (λ_ _ z=>nomatch z)) (ak.cln g r (by simpa [cS] using c))
 | _,_,.tupK h r,c=>.tupK h (ak.cln g r (by simpa [cS] using c))
 | _,_,.lst h n r,c=>.lst h (g.ne h n (λ_ z=>nomatch z) (λ_ _ z=>nomatch z) (λ_ _ z=>nomatch z)) (ak.cln g r (by simpa [cS] using c))
 | _,_,.pack _ _,c=>by simp [cS] at c
 | _,_,.purse _ _,c=>by simp [cS] at c
 | _,_,.dct0 _ _,c=>by simp [cS] at c
 | _,_,.obj _ _ _ _,c=>by simp [cS] at c
 | _,_,.dic _ _ _ _ _,c=>by simp [cS] at c
 | _,_,.scr _ _,c=>by simp [cS] at c
theorem ak.cln{K:Og}{C:VM}{H:Hp}{O O1:Ex}(g:Gp C H O O1):∀{vs:List V}{ds:List VI},ak K H O1 vs ds->fF ds=true->ak K H O vs ds
 | _,_,.nil,_=>.nil
 | _,_,.cons h r,c=>by
  rw [fF,Pz] at c;exact .cons (Dt.cln g h c.1) (ak.cln g r c.2)
end
def xf(C:VM)(d:VI):Prop:=cS d=true\/∃C' kp ds,C'≠C/\d=fA C' kp ds/\fF ds=true
theorem Dt.clnO{K:Og}{C:VM}{H:Hp}{O O1:Ex}(g:Gp C H O O1){v:V}{d:VI}(h:Dt K H O1 v d)(c:xf C d):Dt K H O v d:=by
 rcases c with c | ⟨C',kp,ds,ne,rfl,c⟩
 ·exact h.cln g c
 ·generalize e:fA C' kp ds=x at h;cases h with
  | @obj a C2 dx fs kp' ds' h1 h2 n r=>
   simp only [fA,UM,Pe,SK,PZ,PM,Qv,and_true,true_and] at e;obtain⟨e1,e2,e3⟩:=e;have e1:C'=C2:=by exact_mod_cast e1
   subst e1 e2 e3;refine .obj h1 h2 ?_ (r.cln g c);exact g.ne (.inl h1) n (λ_ z=>nomatch z) (λ_ _ z=>by cases z;exact ne rfl) (λ_ _ z=>nomatch z)
  | _=>first | cases e | simp [fA] at e
theorem bQ.thaw{P:VW}{w:VX}{H:Hp}{h:VY}(x:bQ P w H h){g:VM}{o:Obj}{kv:List (au×V)}(e:H g=some (.frz o (.dK kv))):bQ P w (ai H g (.dK kv)) h:=λb u q=>by
 by_cases hb:b=g
 ·subst hb;rw [bA] at q;cases q;obtain⟨_,z⟩:=x b _ e;exact z
 ·rw [aC hb] at q;exact(x b u q).stay (λ_ _ _ r=>r) (λc r=>by rw [aC (λz=>by rw [z,e] at r;cases r)];exact r) λc xs r=>by rw [aC (λz=>by rw [z,e] at r;cases r)];exact r
theorem ah.thaw{X:Cx}{Xl:List (VM×Obj)}{σ:St}{H:Hp}{s:VN}(I:ah X Xl σ H s){g:VM}{o:Obj}{kv:List (au×V)}(e:H g=some (.frz o (.dK kv)))(hX:∀o u,X.H₀ g≠some (.frz o u)):ah X Xl σ (ai H g (.dK kv)) s:=by
 have ne:∀{b:VM},H b=none->b≠g:=λn z=>by rw [z,e] at n;cases n
 refine⟨I.ok,I.os,I.bare,⟨I.base.keep,I.base.slot,λb o' h1 h2 h3=>?_,I.base.there,λb xs q=>?_,λb o' u q=>?_,λb ps q=>?_⟩,I.loc,I.cell,?_,λx c q=>?_,λp hp=>?_,I.hok.thaw e,I.len⟩
 ·have:=I.base.free b o' h1 h2 h3;rw [aC (ne this)];exact this
 ·have:=I.base.tups b xs q;rw [aC (λz=>by rw [z,e] at this;cases this)];exact this
 ·have:=I.base.frzs b o' u q;rw [aC (λz=>hX o' u (by rw [<-z];exact q))];exact this
 ·obtain⟨m,this⟩:=I.base.tbls b ps q;exact⟨m,by rw [aC (λz=>by rw [z,e] at this;cases this)];exact this⟩
 ·rw [aC (ne I.free)];exact I.free
 ·rw [aC (ne (I.freeC x c q))];exact I.freeC x c q
 ·obtain⟨a,b,c⟩:=I.pin p hp;exact⟨a,by rw [aC (ne b)];exact b,c⟩
section
variable {X:Cx} {CX:eY} {k:Nat} {f C:VM} {fd:VU} {ps:List Str} {sp:Sp} {E:XK} {x m:Str} {p pos apos:Pos} {e o:VT} {es:List VT} {ta:TE} {t:TA}
def J8(X:Cx)(C:VM)(m:Str)(sp:Sp)(E:XK)(ta:TE)(t:TA):TE:=λσ H Q=>ta σ H λx H1=>∃a dx fs,x= .ref a/\H1 a=some (.ins C dx fs)/\fs.lookup m=none/\
 t σ H1 λvs H2=>∃g u og ou gv uv,g≠u/\H2 g=some (.frz og (.dK gv))/\H2 u=some (.frz ou (.dK uv))/\(∀o z,X.H₀ g≠some (.frz o z))/\(∀o z,X.H₀ u≠some (.frz o z))/\
  sp (x::vs) (ai (ai H2 g (.dK gv)) u (.dK uv)) (λv H3=>∃gv' uv',H3 g=some (.dK gv')/\H3 u=some (.dK uv')/\∀og' ou',Q v (ai (ai H3 g (.frz og' (.dK gv'))) u (.frz ou' (.dK uv')))) E
theorem J9{pl:Sem Bool}(he:PE X o ta)(c:dE X.K C)(hm:ic X.K C m f)(F:aD X.prog X.w X.K X.mg X.base CX k f fd ps sp)(hr:bw k X.A)(hb:aK X.K fd ps [])(hx:gL CX X E)(ha:PA X (e::es) t)
 (hst:VQ (e::es) X.env=(false,eval e X.env)::VQ es X.env:=by rfl)(hpl:(V4 pos (VQ es X.env)).any (·.1)=false:=by rfl)
 (ht:eval (.Call (.Attribute o m apos) (e::es) [] pos) X.env=(do
  let ov<-eval o X.env
  WZ apos.atName
  let (f,first)<-WR [ov] (W0 ov m pl)
  callWith pos f first (V4 pos (VQ (e::es) X.env)) (Wu pos (Wj [] X.env))):=by rfl):
 PE X (.Call (.Attribute o m apos) (e::es) [] pos) (J8 X C m sp E ta t):=by
 intro Xl s σ H Q I h;refine R4 (pl:=pl) (aG (he Xl s σ H _ I h) λu s1 ⟨x,H1,I1,rx,a,dx,fs,ex,ea,l,q⟩=>?_) ht;subst ex;obtain rfl:u=O9 a:=rx;refine tQ I1 ea c hm l ?_;refine Sx (first:=[.ref a]) (h₀:=X.base) I.ok.mod.kin hm.kp (aG (ha pos Xl s1 σ H1 _ I1 q) λus s2 ⟨vs,H2,I2,r,q2⟩=>⟨I2.kIn,?_⟩) hst hpl;obtain⟨g,u,og,ou,gv,uv,ne,hg,hu,xg,xu,q2⟩:=q2;have I3:=(I2.thaw hg xg).thaw (g:=u) (o:=ou) (kv:=uv) (by rw [aC (Ne.symm ne)];exact hu) xu;refine aG (sJ (us:= .ref a::us) (vs:= .ref a::vs) (dvs:=[]) (ds:=[]) F hr hb .nil hx I3 (.cons rfl r) (by rw [Pj];exact q2)) λv s3 z=>?_;obtain⟨y,H4,I4,ry,gv',uv',g4,u4,q4⟩:=z;obtain⟨og',I5⟩:=I4.fast g4;obtain⟨ou',I6⟩:=I5.fast (a:=u) (kv:=uv') (by rw [aC (Ne.symm ne)];exact u4);exact⟨y,_,I6,ry,q4 og' ou'⟩
end
section
variable {X:Cx} {H0:Hp} {O0:Ex}
theorem BJ{fs:List (Str×V)}{ks:List Str}{m:Str}(h:fs.map (λp=>Oj p.1)=ks.map Oj)(hm:m ∉ ks):fs.lookup m=none:=by
 have e:fs.map (·.1)=ks:=by
  apply rg;rw [<-h,OI];rfl
 subst e
 induction fs with
 | nil=>rfl
 | cons p fs ih=>
  obtain⟨g,x⟩:=p;simp only [Ol,Ox,not_or] at hm;rw [Pg,show(m==g)=false by simpa using hm.1];exact ih (by rw [OI];rfl) hm.2
def rj(C:VM)(m:Str)(F:List VI->(VI->Prop)->Prop)(to:DT)(t:DA):DT:=λδ Q=>to δ λx=>∃(ks:List Str)(ds:List VI),x=fA C (ks.map .str) ds/\m ∉ ks/\t δ λes=>F (x::es) Q
theorem Ka{K:Og}{C:VM}{m:Str}{F:List VI->(VI->Prop)->Prop}{to:DT}{t:DA}{E:XK}:∀σ H Q,up K H0 O0 (rj C m F to t) σ H Q->sI C m (aW K F) [] E (up K H0 O0 to) (gN K H0 O0 t) σ H Q:=
 λσ H Q uu50=>by obtain⟨O,δ,Qd,w,q,k⟩:=uu50;exact⟨O,δ,_,w,q,λx v H1 uu51 s1 r1=>by
  obtain⟨ks,ds,ex,hm,q1⟩:=uu51;have r0:=r1;subst ex;obtain⟨a,dx,fs,rfl,h1,h2,r⟩:=r1.objI;exact⟨a,dx,fs,rfl,h1,BJ h2.symm hm,O,δ,_,w.mono s1,q1,λes vs H2 q2 s2 r2=>⟨O,_,Qd,(w.mono (s1.trans s2)).trk,by rw [Pj];exact .cons (r0.mono s2) r2,q2,λd v H3 q3 s3 r3=>k d v H3 q3 (s1.trans (s2.trans s3)) r3⟩⟩⟩
theorem uP{K:Og}{C:VM}{m:Str}{F:List VI->(VI->Prop)->Prop}{to:DT}{E:XK}:∀σ H Q,up K H0 O0 (rj C m F to gO) σ H Q->sI C m (aW K F) [] E (up K H0 O0 to) qL σ H Q:=
 λσ H Q uu52=>by obtain⟨O,δ,Qd,w,q,k⟩:=uu52;exact⟨O,δ,_,w,q,λx v H1 uu53 s1 r1=>by
  obtain⟨ks,ds,ex,hm,q1⟩:=uu53;have r0:=r1;subst ex;obtain⟨a,dx,fs,rfl,h1,h2,r⟩:=r1.objI;exact⟨a,dx,fs,rfl,h1,BJ h2.symm hm,O,_,Qd,(w.mono s1).trk,.cons r0 .nil,q1,λd v H3 q3 s3 r3=>k d v H3 q3 (s1.trans s3) r3⟩⟩
end
def p9:Dl->Bool
 | []=>true
 | some (.r _ _ _ _ _ _ _)::_=>false
 | _::r=>p9 r
theorem BK{l C g u:VM}{fd:List (Str×VI)}{gd ud:List (au×VI)}:∀{δ:Dl}{j:Nat},p9 δ=true->δ[j]?≠some (some (.r l C g u fd gd ud))
 | [],_,_,z=>by simp at z
 | y::r,0,h,z=>by
  simp at z;subst z;simp [p9] at h
 | y::r,j+1,h,z=>by
  have h':p9 r=true:=by
   unfold p9 at h;split at h
   ·rename_i q;cases q
   ·cases h
   ·rename_i q;cases q;exact h
  exact BK (δ:=r) (j:=j) h' (by simpa using z)
section
variable {K:Og} {H0 H H':Hp} {O0 O:Ex} {σ:St} {δ:Dl}
theorem gM.goN{O':Ex}{x:Option V}{y:Option Sl}(h:gM K H O0 O x y)(nr:∀l C g u fd gd ud,y≠some (.r l C g u fd gd ud))(S:aS H H' O O')(kp:∀l o z,y=some z->z.own->x=some (.ref l)->O l->¬O0 l->H l=some o->O' l/\H' l=some o)(kp3:∀a o,O0 a->H a=some o->H' a=some o):gM K H' O0 O' x y:=by
 match y,h with
 | none,_=>exact Qi
 | some (.v d),⟨v,e,r⟩=>exact⟨v,e,r.step S⟩
 | some (.o ds),⟨l,vs,e,a,b,c,r⟩=>exact⟨l,vs,e,(kp l _ _ rfl trivial e a b c).1,b,(kp l _ _ rfl trivial e a b c).2,r.step S⟩
 | some (.k ds),⟨l,vs,e,a,b,c,r⟩=>exact⟨l,vs,e,(kp l _ _ rfl trivial e a b c).1,b,(kp l _ _ rfl trivial e a b c).2,r.step S⟩
 | some (.i l C ds),⟨dx,vs,e,a,b,c,r1,r2⟩=>exact⟨dx,vs,e,(kp l _ _ rfl trivial e a b c).1,b,(kp l _ _ rfl trivial e a b c).2,r1,r2.step S⟩
 | some (.r l C g u fd gd ud),_=>exact absurd rfl (nr l C g u fd gd ud)
 | some (.b ds),⟨l,vs,e,a,c,r⟩=>exact⟨l,vs,e,a,kp3 _ _ a c,r.step S⟩
theorem Kb{i j:Nat}(h:j≠i):(δ.set i none)[j]?=δ[j]?:=OF (Ne.symm h)
theorem Wd.putR(w:Wd K H0 O0 H O σ δ){i:Nat}{l C g u:VM}{fd:List (Str×VI)}{gd ud gd' ud':List (au×VI)}{gv uv:List (au×V)}{og ou:Obj}(e:δ[i]?=some (some (.r l C g u fd gd ud)))(nr:p9 (δ.set i none)=true)(hg:bJ K H O gv gd')(hu:bJ K H O uv ud'):
 Wd K H0 O0 (ai (ai H g (.frz og (.dK gv))) u (.frz ou (.dK uv))) O σ (δ.set i (some (.r l C g u fd gd' ud')))/\aS H (ai (ai H g (.frz og (.dK gv))) u (.frz ou (.dK uv))) O O:=by
 obtain⟨x1,x2,x3,dx,fs,og0,ou0,gv0,uv0,hl,hf,ne,⟨g1,g2,g3,_⟩,u1,u2,u3,_⟩:=w.sl i _ e;have g0:H0 g=none:=(w.new g g1).resolve_left g2;have u0:H0 u=none:=(w.new u u1).resolve_left u2;have li:i < δ.length:=(OB.mp e).1;have at_:∀{b:VM},b≠g->b≠u->(ai (ai H g (.frz og (.dK gv))) u (.frz ou (.dK uv))) b=H b:=λh1 h2=>by rw [aC h2,aC h1]
 have S:aS H (ai (ai H g (.frz og (.dK gv))) u (.frz ou (.dK uv))) O O:=⟨λb o q n=>by rw [at_ (λz=>n (by rw [z];exact g1)) (λz=>n (by rw [z];exact u1))];exact q,λ_ _ n=>n⟩;have gg:(ai (ai H g (.frz og (.dK gv))) u (.frz ou (.dK uv))) g=some (.frz og (.dK gv)):=by rw [aC ne,bA]
 have lg:l≠g:=λz=>by rw [z,g3] at hl;cases hl
 have lu:l≠u:=λz=>by rw [z,u3] at hl;cases hl
 refine⟨⟨λb o q=>by rw [at_ (λz=>by rw [z,g0] at q;cases q) (λz=>by rw [z,u0] at q;cases q)];exact w.same b o q,w.sub,w.new,λb z=>?_,by simp [w.len],λj y q=>?_,λj k y z b e1 y1' e2 z2 e3 e4=>?_⟩,S⟩
 ·by_cases q1:b=g
  ·rw [q1,gg];exact λz=>nomatch z
  ·by_cases q2:b=u
   ·rw [q2,bA];exact λz=>nomatch z
   ·rw [at_ q1 q2];exact w.trk b z
 ·by_cases hj:j=i
  ·subst hj;rw [OU li] at q;cases q;exact⟨x1,x2,x3,dx,fs,og,ou,gv,uv,by rw [at_ lg lu];exact hl,⟨hf.1,hf.2.step S⟩,ne,⟨g1,g2,gg,hg.step S⟩,u1,u2,bA,hu.step S⟩
  ·rw [OF (Ne.symm hj)] at q;refine(w.sl j y q).goN (λl' C' g' u' fd' gd' ud' z=>?_) S (λb o z hz ho e' a1 a2 a3=>⟨a1,?_⟩) λb o a1 a3=>?_
   ·subst z;exact BK nr (by rw [Kb hj];exact q)
   ·subst hz;have nf:=w.nofrz q ho (fB e');rw [at_ (λz=>nf _ _ (by rw [z];exact g3)) (λz=>nf _ _ (by rw [z];exact u3))];exact a3
   ·rw [at_ (λz=>g2 (by rw [<-z];exact a1)) (λz=>u2 (by rw [<-z];exact a1))];exact a3
 ·have eO:∀{j:Nat}{y:Sl},(δ.set i (some (.r l C g u fd gd' ud')))[j]?=some (some y)->y.own->∃y',δ[j]?=some (some y')/\y'.own:=λ{j y} q hq=>by
   by_cases hj:j=i
   ·subst hj;exact⟨_,e,trivial⟩
   ·rw [OF (Ne.symm hj)] at q;exact⟨_,q,hq⟩
  obtain⟨_,q1,r1⟩:=eO e1 y1';obtain⟨_,q2,r2⟩:=eO e2 z2;exact w.dis j k _ _ b q1 r1 q2 r2 e3 e4
theorem Wd.setR(w:Wd K H0 O0 H O σ δ){i:Nat}{O':Ex}{l C g u:VM}{fd:List (Str×VI)}{gd ud:List (au×VI)}(sm:aw H H')(sb:∀a,O a->O' a)(nw:∀a,O' a->O a\/H a=none)(tr:∀a,O' a->H' a≠none)(h1:O' l)(h2:¬O l)(R:vV K H' O O' l C g u fd gd ud):
 Wd K H0 O0 H' O' (σ.set i (some (.ref l))) (δ.set i (some (.r l C g u fd gd ud)))/\aS H H' O O':=by
 have S:aS H H' O O':=⟨λb o e _=>sm b o e,λb hb hn z=>(nw b z).elim hn hb⟩;have hl:H l=none:=(nw l h1).resolve_left h2;have none0:∀{a:VM},H a=none->H0 a=none:=λ{a} h=>by
  cases e:H0 a with
  | none=>rfl
  | some o=>rw [w.same _ _ e] at h;cases h
 have n0:∀{a:VM},¬O a->¬O0 a:=λh z=>h (w.sub _ z);refine⟨⟨w.same.trans sm,λa z=>sb a (w.sub a z),λa z=>(nw a z).elim (w.new a) λq=>.inr (none0 q),tr,by simp [w.len],λj y e=>?_,λj k y z a e1 y1 e2 z2 e3 e4=>?_⟩,S⟩
 ·by_cases hj:j=i
  ·subst hj;have li:j < δ.length:=by
    have:=(OB.mp e).1;simpa using this
   rw [OU li] at e;cases e;rw [OU (by rw [w.len];exact li)];obtain⟨dx,fs,og,ou,gv,uv,r1,r2,r3,⟨a1,a2,a3⟩,b1,b2,b3⟩:=R;exact⟨rfl,h1,n0 h2,dx,fs,og,ou,gv,uv,r1,r2,r3,⟨a1,n0 a2,a3⟩,b1,n0 b2,b3⟩
  ·rw [OF (Ne.symm hj)] at e⊢;exact(w.sl j y e).go S (λl o _ _ a _ c=>⟨sb _ a,sm _ _ c⟩) (λa o u a1 _ a3=>⟨sb _ a1,sm _ _ a3⟩) λa o _ a3=>sm _ _ a3
 ·have no:∀{j:Nat}{y:Sl},j≠i->δ[j]?=some (some y)->y.own->σ[j]?≠some (some (.ref l)):=λ{j y} _ e h z=>by
   obtain⟨l',x1,x2,_⟩:=w.adr e h;rw [z] at x1;cases x1;exact h2 x2
  by_cases hj:j=i
  ·by_cases hk:k=i
   ·rw [hj,hk]
   ·exfalso;rw [hj] at e3;have li:i < σ.length:=by
     have:=(OB.mp e3).1;simpa using this
    rw [OU li] at e3;cases e3;rw [OF (Ne.symm hk)] at e2 e4;exact no hk e2 z2 e4
  ·by_cases hk:k=i
   ·exfalso;rw [hk] at e4;have li:i < σ.length:=by
     have:=(OB.mp e4).1;simpa using this
    rw [OU li] at e4;cases e4;rw [OF (Ne.symm hj)] at e1 e3;exact no hj e1 y1 e3
   ·rw [OF (Ne.symm hj)] at e1 e3;rw [OF (Ne.symm hk)] at e2 e4;exact w.dis j k _ _ a e1 y1 e2 z2 e3 e4
end
def fY(m:Str)(ks:List Str):Bool:=ks.all (λk=>!(k==cm) && !(k==dG) && !(k==m)) && !(m==cm) && !(m==dG)
theorem xh{fs gs:List (Str×V)}{m:Str}(h:∀p∈fs,p.1≠m):(fs++gs).lookup m=gs.lookup m:=by
 induction fs with
 | nil=>rfl
 | cons p fs ih=>
  obtain⟨k,v⟩:=p;have hk:k≠m:=h (k,v) Pa;rw [PN,Pg,show(m==k)=false by simpa using Ne.symm hk];exact ih λq hq=>h q (OT _ hq)
theorem uQ{K:Og}{H:Hp}{O:Ex}{fs:List (Str×V)}{fd:List (Str×VI)}{m:Str}(hf:ij K H O fs fd)(h:fY m (fd.map (·.1))=true):(∀p∈fs,p.1≠cm/\p.1≠dG/\p.1≠m)/\m≠cm/\m≠dG:=by
 unfold fY at h;simp only [Pz,Q9,Qc,beq_eq_false_iff_ne] at h;refine⟨λp hp=>?_,h.1.2,h.2⟩;have hm:p.1∈fd.map (·.1):=by rw [<-hf.1];exact List.mem_map_of_mem hp
 obtain⟨⟨a,b⟩,c⟩:=h.1.1 _ hm;exact⟨a,b,c⟩
theorem BL:cm≠dG:=VB
section
variable {K:Og} {H:Hp} {O:Ex} {fs:List (Str×V)} {fd:List (Str×VI)} {m:Str} {g u:VM}
theorem BM(hf:ij K H O fs fd)(h:fY m (fd.map (·.1))=true):(fs++[(cm,V.ref g),(dG,V.ref u)]).lookup cm=some (.ref g):=by
 rw [xh λp hp=>((uQ hf h).1 p hp).1];simp [Pg]
theorem Kc(hf:ij K H O fs fd)(h:fY m (fd.map (·.1))=true):(fs++[(cm,V.ref g),(dG,V.ref u)]).lookup dG=some (.ref u):=by
 rw [xh λp hp=>((uQ hf h).1 p hp).2.1,Pg,show(dG==cm)=false by simpa using Ne.symm BL];simp [Pg]
theorem BN(hf:ij K H O fs fd)(h:fY m (fd.map (·.1))=true):(fs++[(cm,V.ref g),(dG,V.ref u)]).lookup m=none:=by
 obtain⟨a,b,c⟩:=uQ hf h;rw [xh λp hp=>(a p hp).2.2,Pg,show(m==cm)=false by simpa using b,Pg,show(m==dG)=false by simpa using c];rfl
end
def BO(K:Og)(C:VM):Sp:=λvs H Q _=>∃l dx fs g u gv uv a x y z,vs=[.ref l,.ref a]/\H l=some (.ins C dx fs)/\fs.lookup cm=some (.ref g)/\fs.lookup dG=some (.ref u)/\g≠u/\H g=some (.dK gv)/\H u=some (.dK uv)/\
 bC K H a [.str x,y,z]/\gv.length < VV/\uv.length < VV/\((z= .non/\Q .non (ai H g (.dK (putK gv (.inr x) y))))\/∃s,z= .str s/\Q .non (ai (ai H g (.dK (putK gv (.inr x) y))) u (.dK (putK uv (.inr s) (.bl true)))))
section
variable {X:Cx} {H0:Hp} {O0:Ex}
def xi(C:VM)(i:Nat)(m:Str)(t:DT):DS:=λE δ=>∃l g u fd gd ud,δ[i]?=some (some (.r l C g u fd gd ud))/\p9 (δ.set i none)=true/\fY m (fd.map (·.1))=true/\t δ λd=>∃x y z,d= .tuple [.str x,y,z]/\gd.length < VV/\ud.length < VV/\
 ((z= .none/\E.nx (δ.set i (some (.r l C g u fd (fS gd (.inr x) y) ud))))\/∃s,z= .str s/\E.nx (δ.set i (some (.r l C g u fd (fS gd (.inr x) y) (fS ud (.inr s) (.bool true))))))
theorem BP{C f:VM}{i k:Nat}{m:Str}{o e:VT}{t:DT}{fdt:VU}{ps:List Str}{pl:Sem Bool}{E:XK}{apos cpos pos:Pos}(hX:∀b,H0 b=none->∀o z,X.H₀ b≠some (.frz o z))(ho:PE X o (dh i))(c:dE X.K C)(hm:ic X.K C m f)(F:aD X.prog X.w X.K X.mg X.base CX0 k f fdt ps (BO X.K C))(hr:bw k X.A)(hb:aK X.K fdt ps [])(hx:gL CX0 X E)
 (he:DE X H0 O0 e t)(hst:VQ [e] X.env=(false,eval e X.env)::VQ [] X.env:=by rfl)(hpl:(V4 cpos (VQ [] X.env)).any (·.1)=false:=by rfl)
 (ht:eval (.Call (.Attribute o m apos) [e] [] cpos) X.env=(do
  let ov<-eval o X.env
  WZ apos.atName
  let (f,first)<-WR [ov] (W0 ov m pl)
  callWith cpos f first (V4 cpos (VQ [e] X.env)) (Wu cpos (Wj [] X.env))):=by rfl)
 (hs:V5 (.Call (.Attribute o m apos) [e] [] cpos) none pos.line X.env=pure false:=by rfl):PS X (.Expr (.Call (.Attribute o m apos) [e] [] cpos) pos) (bz X.K H0 O0 (xi C i m t)):=
 (tG (J9 (pl:=pl) ho c hm F hr hb hx (bF he ck hst) hst hpl ht) hs).imp λD σ H uu54=>by
  obtain⟨O,δ,E,w,⟨l,g,u,fd,gd,ud,ei,nr,rk,q⟩,k1,k2,k3,k4⟩:=uu54;obtain⟨x1,x2,x3,dx,fs,og,ou,gv,uv,hl,hf,ne,⟨g1,g2,g3,g4⟩,u1,u2,u3,u4⟩:=w.sl i _ ei;refine⟨_,fB x1,l,dx,_,rfl,hl,BN hf rk,O,δ,_,w,q,λd v H1 ⟨x,y,z,ed,l1,l2,q1⟩ s1 r1=>?_⟩;subst ed;obtain⟨a,xs,rfl,sq,rs⟩:=(Sh.dt r1).tup;have hxs:∃y' z',xs=[.str x,y',z']/\Dt X.K H1 O y' y/\Dt X.K H1 O z' z:=by
   cases rs with
   | cons a1 r=>
    cases r with
    | cons a2 r=>
     cases r with
     | cons a3 r=>
      cases r;cases a1;exact⟨_,_,rfl,a2,a3⟩
  obtain⟨y',z',rfl,dy,dz⟩:=hxs;have w1:=w.mono s1;have hl1:=s1 _ _ hl;have g31:=s1 _ _ g3;have u31:=s1 _ _ u3;have lg:l≠g:=λz=>by rw [z,g3] at hl;cases hl
  have lu:l≠u:=λz=>by rw [z,u3] at hl;cases hl
  have ug:u≠g:=Ne.symm ne;have g0:H0 g=none:=(w.new g g1).resolve_left g2;have u0:H0 u=none:=(w.new u u1).resolve_left u2;have sqk:bC X.K (ai (ai H1 g (.dK gv)) u (.dK uv)) a [.str x,y',z']:=by
   rcases sq with(h | ⟨ob,h⟩) | h
   ·exact .inl (.inl (by rw [aC (λz=>by rw [z,u31] at h;cases h),aC (λz=>by rw [z,g31] at h;cases h)];exact h))
   ·exact .inl (.inr ⟨ob,by rw [aC (λz=>by rw [z,u31] at h;cases h),aC (λz=>by rw [z,g31] at h;cases h)];exact h⟩)
   ·exact .inr h
  refine⟨g,u,og,ou,gv,uv,ne,g31,u31,hX g g0,hX u u0,l,dx,_,g,u,gv,uv,a,x,y',z',rfl,by rw [aC lu,aC lg];exact hl1,BM hf rk,Kc hf rk,ne,by rw [aC ne,bA],bA,sqk,by rw [g4.length];exact l1,by rw [u4.length];exact l2,?_⟩;rcases q1 with⟨rfl,q1⟩ | ⟨s,rfl,q1⟩
  ·cases dz;refine .inl ⟨rfl,putK gv (.inr x) y',uv,bA,by rw [aC ug,bA],λog' ou'=>?_⟩;obtain⟨w2,S2⟩:=w1.putR (og:=og') (ou:=ou') (gv:=putK gv (.inr x) y') (uv:=uv) ei nr ((g4.mono s1).put (.inr x) dy) (u4.mono s1);have eh:ai (ai (ai (ai (ai H1 g (.dK gv)) u (.dK uv)) g (.dK (putK gv (.inr x) y'))) g (.frz og' (.dK (putK gv (.inr x) y')))) u (.frz ou' (.dK uv))=ai (ai H1 g (.frz og' (.dK (putK gv (.inr x) y')))) u (.frz ou' (.dK uv)):=by
    funext b;unfold ai;by_cases b1:b=u
    ·simp [b1]
    ·by_cases b2:b=g <;> simp [b1,b2]
   rw [eh];exact k1 _ _ _ _ q1 w2 (aS.trans (.same s1) S2)
  ·cases dz;refine .inr ⟨s,rfl,putK gv (.inr x) y',putK uv (.inr s) (.bl true),by rw [aC ne,bA],bA,λog' ou'=>?_⟩;obtain⟨w2,S2⟩:=w1.putR (og:=og') (ou:=ou') (gv:=putK gv (.inr x) y') (uv:=putK uv (.inr s) (.bl true)) ei nr ((g4.mono s1).put (.inr x) dy) ((u4.mono s1).put (.inr s) (.bl true));have eh:ai (ai (ai (ai (ai (ai H1 g (.dK gv)) u (.dK uv)) g (.dK (putK gv (.inr x) y'))) u (.dK (putK uv (.inr s) (.bl true)))) g (.frz og' (.dK (putK gv (.inr x) y')))) u (.frz ou' (.dK (putK uv (.inr s) (.bl true))))=ai (ai H1 g (.frz og' (.dK (putK gv (.inr x) y')))) u (.frz ou' (.dK (putK uv (.inr s) (.bl true)))):=by
    funext b;unfold ai;by_cases b1:b=u
    ·simp [b1]
    ·by_cases b2:b=g <;> simp [b1,b2]
   rw [eh];exact k1 _ _ _ _ q1 w2 (aS.trans (.same s1) S2)
abbrev xj(C:VM)(fd:List (Str×VI))(gks uks:List Str)(gd ud:List (au×VI)):VI:=fA C ((fd.map (·.1)++[cm,dG]).map .str) (fd.map (·.2)++[fW gks (gd.map (·.2)),fW uks (ud.map (·.2))])
def xk(C:VM)(i:Nat)(m:Str)(F:List VI->(VI->Prop)->Prop)(t:DA):DT:=λδ Q=>∃l g u fd gd ud,δ[i]?=some (some (.r l C g u fd gd ud))/\fY m (fd.map (·.1))=true/\∃gks uks:List Str,gd.map (·.1)=gks.map P4/\ud.map (·.1)=uks.map P4/\
 t δ λes=>F (xj C fd gks uks gd ud::es) λd=>xf C d/\Q d
theorem Kd{K:Og}{C:VM}{i:Nat}{m:Str}{F:List VI->(VI->Prop)->Prop}{t:DA}{E:XK}:∀σ H Q,up K H0 O0 (xk C i m F t) σ H Q->sI C m (aW K F) [] E (dh i) (gN K H0 O0 t) σ H Q:=
 λσ H Q uu56=>by
  obtain⟨O,δ,Qd,w,⟨l,g,u,fd,gd,ud,ei,rk,gks,uks,ek,eu,q⟩,k⟩:=uu56;obtain⟨x1,x2,x3,dx,fs,og,ou,gv,uv,hl,hf,ne,⟨g1,g2,g3,g4⟩,u1,u2,u3,u4⟩:=w.sl i _ ei;refine⟨_,fB x1,l,dx,_,rfl,hl,BN hf rk,O,δ,_,w,q,λes vs H1 q1 s1 r1=>?_⟩;have o1:aS H1 H1 O (λa=>O a/\a≠l/\a≠g/\a≠u):=⟨λ_ _ z _=>z,λ_ _ n z=>n z.1⟩;refine⟨λa=>O a/\a≠l/\a≠g/\a≠u,_,_,λa z=>(w.mono s1).trk a z.1,?_,q1,λd v H2 ⟨c2,q2⟩ s2 r2=>k d v H2 q2 (s1.trans s2) (r2.clnO (C:=C) (λa z=>?_) c2)⟩
  ·rw [Pj];refine .cons (.obj (s1 _ _ hl) ?_ (λz=>z.2.1 rfl) ?_) (r1.step o1)
   ·rw [OO,OO,<-hf.1,OI];rfl
   ·rw [OO];refine((hf.2.mono s1).step o1).append (.cons (.dic (s1 _ _ g3) (by rw [g4.keys];exact ek) rfl (λz=>z.2.2.1 rfl) ((g4.vals.mono s1).step o1)) (.cons (.dic (s1 _ _ u3) (by rw [u4.keys];exact eu) rfl (λz=>z.2.2.2 rfl) ((u4.vals.mono s1).step o1)) .nil))
  ·by_cases a1:a=l
   ·exact .inr (.inr ⟨dx,_,by rw [a1];exact(s1.trans s2) _ _ hl⟩)
   ·by_cases a2:a=g
    ·exact .inr (.inl ⟨og,gv,by rw [a2];exact(s1.trans s2) _ _ g3⟩)
    ·by_cases a3:a=u
     ·exact .inr (.inl ⟨ou,uv,by rw [a3];exact(s1.trans s2) _ _ u3⟩)
     ·exact .inl ⟨z,a1,a2,a3⟩
def xm(C:VM)(i:Nat)(tk:DT):DT:=λδ Q=>tk δ λy=>∃z,y= .str z/\∃l g u fd gd ud,δ[i]?=some (some (.r l C g u fd gd ud))/\fY "mark" (fd.map (·.1))=true/\Q (.bool (!(fD gd (.inr z)).isSome))
theorem Ke{C:VM}{i:Nat}{o e:VT}{tk:DT}{pos:Pos}(hu:X.A.units+64 < Wa)(hc:dE X.K C)(hn:cj X.K C cm)(ho:PE X o (dh i))(he:DE X H0 O0 e tk)(hbs:Wh o cm X.env (eval o X.env)=eval o X.env:=by rfl):PC X .NotIn e (.Attribute o cm pos) (up X.K H0 O0 (xm C i tk)):=λXl s σ H Q I ⟨O,δ,Qd,w,q,k⟩=>
 Ax VD he (tR ho hbs) Xl s σ H Q I ⟨O,δ,_,w,q,λy uy H2 uu59 s2 r2=>by
  obtain⟨z,ez,l,g,u,fd,gd,ud,ei,rk,q2⟩:=uu59;subst ez;cases r2;obtain⟨x1,x2,x3,dx,fs,og,ou,gv,uv,hl,hf,ne,⟨g1,g2,g3,g4⟩,u1,u2,u3,u4⟩:=(w.mono s2).sl i _ ei;exact⟨_,fB x1,l,C,dx,_,.ref g,rfl,hl,hc,hn,BM hf rk,g,_,rfl,cQ.z (k:= .inr z) g3,by rw [g4.none];exact k _ _ _ q2 s2 (.bl _)⟩⟩
theorem Kf{C:VM}{i:Nat}{o e:VT}{tk:DT}{pos pos':Pos}(hu:X.A.units+64 < Wa)(hc:dE X.K C)(hn:cj X.K C cm)(ho:PE X o (dh i))(he:DE X H0 O0 e tk)(hbs:Wh o cm X.env (eval o X.env)=eval o X.env:=by rfl)(hm:Wf .NotIn (.Attribute o cm pos')=false:=by rfl):PT X (.Compare e [.NotIn] [.Attribute o cm pos'] pos) (b5 X.K H0 O0 (dR (xm C i tk))):=
 (tF (Ke hu hc hn ho he hbs) hm).imp λσ H Q uu60=>by obtain⟨O,δ,Qd,w,q,k⟩:=uu60;exact⟨O,δ,_,w,q,λd v H' uu61 s r=>by obtain⟨b,e,qb⟩:=uu61;subst e;cases r;exact⟨b,rfl,k b H' qb s⟩⟩
end
section
variable {K:Og}
def xp(K:Og)(F:List VI->List VI->(VI->Prop)->Prop):Sp:=λvs H Q _=>∃O vs' l ws ds es Qd,vs=vs'++[.ref l]/\(∀a,O a->H a≠none)/\ak K H O vs' ds/\O l/\H l=some (.lst ws)/\ak K H O ws es/\F ds es Qd/\∀d v H',Qd d->aw H H'->Dt K H' O v d->Q v H'
def n9(N:List Str)(ds es:List VI):Dl:=ds.map (λd=>some (.v d))++(some (.b es)::OL (N.length - (ds.length+1)) none)
theorem BQ{H:Hp}{O:Ex}{N:List Str}{vs ws:List V}{ds es:List VI}{l:VM}(tr:∀a,O a->H a≠none)(r:ak K H O vs ds)(ol:O l)(hl:H l=some (.lst ws))(rs:ak K H O ws es):Wd K H O H O (start N (vs++[.ref l])) (n9 N ds es):=by
 have ln:=r.length;have at1:∀(i:Nat) y,(n9 N ds es)[i]?=some y->(∃d,ds[i]?=some d/\y=some (.v d))\/(i=ds.length/\y=some (.b es))\/y=none:=λi y e=>by
  unfold n9 at e;by_cases h:i < ds.length
  ·rw [PH (by simpa using h),OD] at e;cases q:ds[i]? with
   | none=>rw [q] at e;cases e
   | some d=>rw [q] at e;exact .inl ⟨d,rfl,(Ph e).symm⟩
  ·rw [Qf (by simpa using QN h),Oe,List.getElem?_cons] at e;split at e
   ·rename_i z;exact .inr (.inl ⟨VD,(Ph e).symm⟩)
   ·rw [Q4] at e;split at e
    ·exact .inr (.inr (Ph e).symm)
    ·cases e
 refine⟨aw.refl _,λ_ z=>z,λ_ z=>.inl z,tr,by simp [start,n9,ln],λi y e=>?_,λi j ds' es l e1=>?_⟩
 ·rcases at1 i y e with⟨d,hd,rfl⟩ | ⟨rfl,rfl⟩ | rfl
  ·obtain⟨v,hv,rv⟩:=r.getD hd;refine⟨v,?_,rv⟩;have hi:=(OB.mp hv).1;unfold start;rw [PH (by simp;omega),OD,PH hi,hv];rfl
  ·refine⟨l,ws,?_,ol,hl,rs⟩;unfold start;rw [PH (by simp;omega),OD,Qf VD,<-ln,Rm];rfl
  ·exact Qi
 ·rcases at1 i _ e1 with⟨d,_,z⟩ | ⟨_,z⟩ | z
  ·cases z;intro h;exact h.elim
  ·cases z;intro h;exact h.elim
  ·cases z
end
section
variable {P:VW} {w:VX} {K:Og} {mg:Str->Option VJ} {base:VY}
theorem aQ.okB{x qual:Str}{st:VZ}{f:VM}{fd:VU}{N ps:List Str}{k:Nat}{F:List VI->List VI->(VI->Prop)->Prop}(Fu:aQ K x qual st f fd)(S:aV N ps (ag st))(len:∀ds es Q,F ds es Q->ds.length+1=ps.length)
 (hbody:∀(cdv:VJ) (A:V0) (outer:List Env) (s:VN) (H:Hp) (O:Ex) (ds es:List VI) (Q:VI->Prop) (E:XK),bw k (A.deeper (WI qual (ag st) s.heap.objs.size f cdv))->(∀a,O a->H a≠none)->F ds es Q->
  ∃t,bX (ie CX0 P w K mg base N qual (ag st) f cdv A outer s H E).nox (ar st) (bz K H O t)/\t {nx:=λ_=>Q .none,rt:=Q} (n9 N ds es)):aD P w K mg base CX0 (k+1) f fd ps (xp K F):=by
 refine Fu.ok S (λvs H Q E h=>?_) (λcdv A outer s H vs Q E hr h=>?_)
 ·obtain⟨O,vs',l,ws,ds,es,Qd,rfl,_,r,_,_,_,q,_⟩:=h;rw [OG,r.length];exact len _ _ _ q
 ·obtain⟨O,vs',l,ws,ds,es,Qd,rfl,tr,r,ol,hl,rs,q,k⟩:=h;obtain⟨t,ht,q'⟩:=hbody cdv A outer s H O ds es Qd E hr tr q;refine⟨_,ht,O,_,_,BQ tr r ol hl rs,q',λO' δ' σ' H' z w' S'=>?_,λd v H' z s' r'=>k d v H' z s' r',λ_ _ _ _ z=>z.elim,λ_ _ _ _ z=>z.elim⟩;exact k _ _ _ z w'.same .non
def xq(K:Og)(C:VM)(F:List VI->List VI->(List (Str×VI)->List (au×VI)->List (au×VI)->Prop)->Prop):Sp:=λvs H Q _=>∃x dx vs' l ws H1 O ds es Qd,vs= .ref x::(vs'++[.ref l])/\H=ai (ai H1 dx (.own x)) x (.ins C dx [])/\H1 x=none/\H1 dx=none/\dx≠x/\
 (∀a,O a->H1 a≠none)/\ak K H1 O vs' ds/\O l/\H1 l=some (.lst ws)/\ak K H1 O ws es/\F ds es Qd/\
 ∀fd gd ud g u O' H',Qd fd gd ud->aw H1 H'->(∀a,O a->O' a)->(∀a,O' a->O a\/H1 a=none)->(∀a,O' a->H' a≠none)->O' x->¬O x->vV K H' O O' x C g u fd gd ud->Q .non H'
def xt(N:List Str)(l C:VM)(ds es:List VI):Dl:=some (.i l C [])::(n9 N (.none::ds) es).tail
theorem Kg{H1:Hp}{O:Ex}{N:List Str}{vs ws:List V}{ds es:List VI}{x dx C l:VM}(tr:∀l,O l->H1 l≠none)(r:ak K H1 O vs ds)(ol:O l)(hl:H1 l=some (.lst ws))(rs:ak K H1 O ws es)(hx:H1 x=none)(hdx:H1 dx=none)(ne:dx≠x):
 Wd K H1 O (ai (ai H1 dx (.own x)) x (.ins C dx [])) (λl=>O l\/l=x) (start N (.ref x::(vs++[.ref l]))) (xt N x C ds es):=by
 have w0:=BQ (N:=N) tr (.cons .non r) ol hl rs;have w1:=w0.mono (aw.new (o:=HO.own x) hdx);have hx1:(ai H1 dx (.own x)) x=none:=by rw [aC (Ne.symm ne)];exact hx
 have:=w1.setY (i:=0) (p:=x) (ho:= .ins C dx []) (y0:= .i x C []) trivial hx1 λO' S a b=>⟨dx,[],rfl,a,b,bA,rfl,.nil⟩;exact this
theorem aQ.okRn{x qual:Str}{st:VZ}{f C:VM}{fd:VU}{N ps:List Str}{k:Nat}{F:List VI->List VI->(List (Str×VI)->List (au×VI)->List (au×VI)->Prop)->Prop}(Fu:aQ K x qual st f fd)(S:aV N ps (ag st))(len:∀ds es Q,F ds es Q->ds.length+2=ps.length)
 (hbody:∀(cdv:VJ) (A:V0) (outer:List Env) (s:VN) (H H1:Hp) (O:Ex) (ds es:List VI) (Q:List (Str×VI)->List (au×VI)->List (au×VI)->Prop) (E:XK) (l:VM),bw k (A.deeper (WI qual (ag st) s.heap.objs.size f cdv))->(∀a,O a->H1 a≠none)->(∀b,H1 b=none->∀o z,H b≠some (.frz o z))->F ds es Q->
  ∃t,bX (ie CX0 P w K mg base N qual (ag st) f cdv A outer s H E).nox (ar st) (bz K H1 O t)/\t {nx:=λδ=>∃g u fd gd ud,δ[0]?=some (some (.r l C g u fd gd ud))/\Q fd gd ud,rt:=λ_=>False} (xt N l C ds es)):aD P w K mg base CX0 (k+1) f fd ps (xq K C F):=by
 refine Fu.ok S (λvs H Q E h=>?_) (λcdv A outer s H vs Q E hr h=>?_)
 ·obtain⟨x,dx,vs',l,ws,H1,O,ds,es,Qd,rfl,_,_,_,_,_,r,_,_,_,q,_⟩:=h;have:=len _ _ _ q;rw [OC,OG,r.length,QQ];omega
 ·obtain⟨x,dx,vs',l,ws,H1,O,ds,es,Qd,rfl,rfl,hx,hdx,ne,tr,r,ol,hl,rs,q,k⟩:=h;obtain⟨t,ht,q'⟩:=hbody cdv A outer s (ai (ai H1 dx (.own x)) x (.ins C dx [])) H1 O ds es Qd E x hr tr (λb hb o z=>by
   unfold ai;by_cases b1:b=x
   ·simp [b1]
   ·by_cases b2:b=dx
    ·simp [b1,b2,ne]
    ·simp [b1,b2,hb]) q
  refine⟨_,ht,_,_,_,Kg tr r ol hl rs hx hdx ne,q',λO' δ' σ' H' z w' S'=>?_,λd v H' z s' r'=>z.elim,λ_ _ _ _ z=>z.elim,λ_ _ _ _ z=>z.elim⟩;obtain⟨g,u,fd,gd,ud,e,z⟩:=z;obtain⟨a1,a2,a3,R⟩:=w'.sl 0 _ e;exact k fd gd ud g u O' H' z w'.same w'.sub w'.new w'.trk a2 a3 R
end
section
variable {X:Cx} {H0:Hp} {O0:Ex}
def BR(C:VM)(i j:Nat)(F:List VI->List VI->(List (Str×VI)->List (au×VI)->List (au×VI)->Prop)->Prop)(t1 t2:DT):DS:=λE δ=>t1 δ λd1=>t2 δ λd2=>∃es,δ[j]?=some (some (.b es))/\F [d1,d2] es λfd gd ud=>∀l g u,E.nx (δ.set i (some (.r l C g u fd gd ud)))
theorem Wd.lent{K:Og}{H:Hp}{O:Ex}{σ:St}{δ:Dl}(w:Wd K H0 O0 H O σ δ){j:Nat}{es:List VI}(e:δ[j]?=some (some (.b es))):∃l ws,σ[j]?=some (some (.ref l))/\O0 l/\H l=some (.lst ws)/\ak K H O ws es:=by
 obtain⟨l,ws,a,b,c,d⟩:=w.sl j _ e;exact⟨l,ws,fB a,b,c,d⟩
theorem Kh{C f:VM}{i j k:Nat}{x y:Str}{a b c:VT}{t1 t2:DT}{fdt:VU}{ps:List Str}{E:XK}{F:List VI->List VI->(List (Str×VI)->List (au×VI)->List (au×VI)->Prop)->Prop}{p cpos pos pos':Pos}(hN:X.N.Nodup)(hi:X.N[i]?=some x)(hxl:gK X.env.scope x)
 (M:Mk X.K C f)(Fk:aD X.prog X.w X.K X.mg X.base CX0 k f fdt ps (xq X.K C F))(hr:bw (k+1) X.A)(hg:Gl X y)(hm:X.mg y=some (.ref C))(hb:aK X.K fdt ps [])(hx:gL CX0 X E)(ha:DE X H0 O0 a t1)(hb2:DE X H0 O0 b t2)(hcv:PE X c (dh j))
 (hdb:(y==("__debug__":Str))=false:=by decide)(he:VQ [a,b,c] X.env=(false,eval a X.env)::VQ [b,c] X.env:=by rfl)(he2:VQ [b,c] X.env=(false,eval b X.env)::VQ [c] X.env:=by rfl)(he3:VQ [c] X.env=(false,eval c X.env)::VQ [] X.env:=by rfl)(hpl:(V4 cpos (VQ [b,c] X.env)).any (·.1)=false:=by rfl)
 (hs:V5 (.Call (.Name y p) [a,b,c] [] cpos) (some (.Name x pos')) pos.line X.env=pure false:=by rfl)(hf:X.fn x=true\/X.env.scope.names.lookup x=some .local:=by first | exact .inl rfl | exact .inr rfl | assumption):
 PS X (.Assign [.Name x pos'] (.Call (.Name y p) [a,b,c] [] cpos) pos) (bz X.K H0 O0 (BR C i j F t1 t2)):=
 (eJ hN hi hxl (tT M Fk hr hg hm hb .nil hx (bF ha (bF hb2 (bF hcv ck he3) he2) he) hdb he hpl) hs hf).imp λD σ H uu62=>by
  obtain⟨O,δ,E,w,q,k1,k2,k3,k4⟩:=uu62;refine⟨O,δ,_,w,q,λd1 v1 H1 q1 s1 r1=>⟨O,δ,_,w.mono s1,q1,λd2 v2 H2 ⟨es,ej,q2⟩ s2 r2=>?_⟩⟩;have w2:=w.mono (s1.trans s2);obtain⟨l,ws,h1,h2,h3,h4⟩:=w2.lent ej;refine⟨_,h1,λxx dx hxx hdx ne=>⟨xx,dx,[v1,v2],l,ws,H2,O,[d1,d2],es,_,rfl,rfl,hxx,hdx,ne,w2.trk,.cons (r1.mono s2) (.cons r2 .nil),w2.sub _ h2,h3,h4,q2,λfd gd ud g u O' H' qf sm sb nw tr o1 o2 R=>⟨rfl,?_⟩⟩⟩;obtain⟨w3,S3⟩:=w2.setR (i:=i) sm sb nw tr o1 o2 R;exact k1 _ _ _ _ (qf xx g u) w3 (aS.trans (.same (s1.trans s2)) S3)
def xv(C:VM)(i:Nat)(t:DS):DS:=λE δ=>∃l fd,δ[i]?=some (some (.i l C fd))/\fY "mark" (fd.map (·.1))=true/\fd.length < 900/\∀g u,t E (δ.set i (some (.r l C g u fd [] [])))
theorem xy{f:Str}{v:V}:∀{fs:List (Str×V)},(∀p∈fs,p.1≠f)->dD f v fs=fs++[(f,v)]
 | [],_=>rfl
 | (g,x)::fs,h=>by
  rw [dD,VE (h (g,x) Pa),xy λp hp=>h p (OT _ hp)];rfl
theorem Ki{C:VM}{i:Nat}{o1 o2:VT}{rest:List VZ}{t:DS}{p1 p2 q1 q2 r1 r2:Pos}(hc:dE X.K C)(hn1:cj X.K C cm)(hn2:cj X.K C dG)(ho1:PE X o1 (dh i))(ho2:PE X o2 (dh i))(h:bX X rest (bz X.K H0 O0 t))
 (hs1:V5 (.Dict [] [] p1) (some (.Attribute o1 cm q1)) r1.line X.env=pure false:=by rfl)(hs2:V5 (.Dict [] [] p2) (some (.Attribute o2 dG q2)) r2.line X.env=pure false:=by rfl):
 bX X (.Assign [.Attribute o1 cm q1] (.Dict [] [] p1) r1:: .Assign [.Attribute o2 dG q2] (.Dict [] [] p2) r2::rest) (bz X.K H0 O0 (xv C i t)):=
 (di (vK ho1 BI hs1) (di (vK ho2 BI hs2) h)).imp λD σ H uu64=>by
  obtain⟨O,δ,E,w,⟨l,fd,ei,rk,hl,q⟩,k1,k2,k3,k4⟩:=uu64;obtain⟨dx,fs,x1,x2,x3,h1,hf⟩:=w.ownI ei;obtain⟨kk,_,_⟩:=uQ hf rk;have lf:fs.length=fd.length:=by have:=congrArg S9 hf.1;simpa using this
  have li:i < δ.length:=(OB.mp ei).1;intro g og hg;have lg:l≠g:=λz=>by rw [z,hg] at h1;cases h1
  refine⟨_,x1,l,C,dx,fs,rfl,by rw [aC lg];exact h1,hc,hn1,VD,?_⟩;rw [xy λp hp=>(kk p hp).1];intro u ou hu;have lu:l≠u:=λz=>by rw [z,bA] at hu;cases hu
  have gu:g≠u:=λz=>by rw [<-z,aC (Ne.symm lg),bA] at hu;cases hu
  have hu0:H u=none:=by rw [aC (Ne.symm lu),aC (Ne.symm gu)] at hu;exact hu
  refine⟨_,x1,l,C,dx,fs++[(cm,.ref g)],rfl,by rw [aC lu,bA],hc,hn2,by simp;omega,?_⟩;rw [xy λp hp=>(ON.mp hp).elim (λz=>(kk p z).2.1) λz=>by
   simp only [OS] at z;subst z;exact BL]
  rw [RY];have eh:ai (ai (ai (ai H g (.frz og (.dK []))) l (.ins C dx (fs++[(cm,.ref g)]))) u (.frz ou (.dK []))) l (.ins C dx (fs++([(cm,.ref g)]++[(dG,.ref u)])))=ai (ai (ai H g (.frz og (.dK []))) u (.frz ou (.dK []))) l (.ins C dx (fs++[(cm,.ref g),(dG,.ref u)])):=by
   funext b;unfold ai;by_cases b1:b=l
   ·simp [b1]
   ·by_cases b2:b=u <;> simp [b1,b2]
  rw [eh];have sm:aw H (ai (ai H g (.frz og (.dK []))) u (.frz ou (.dK []))):=(aw.new hg).trans (aw.new (by rw [aC (Ne.symm gu)];exact hu0));have w1:=w.mono sm;have g0:H0 g=none:=by
   cases e:H0 g with
   | none=>rfl
   | some o=>rw [w.same _ _ e] at hg;cases hg
  have u0:H0 u=none:=by
   cases e:H0 u with
   | none=>rfl
   | some o=>rw [w.same _ _ e] at hu0;cases hu0
  have ng:¬O g:=λz=>w.trk g z hg;have nu:¬O u:=λz=>w.trk u z hu0;generalize hH2:ai (ai H g (.frz og (.dK []))) u (.frz ou (.dK []))=H2 at sm w1⊢;have g2:H2 g=some (.frz og (.dK [])):=by rw [<-hH2,aC gu,bA]
  have u2:H2 u=some (.frz ou (.dK [])):=by rw [<-hH2,bA]
  have out:∀b,H b≠none->b≠g/\b≠u:=λb hb=>⟨λz=>hb (by rw [z];exact hg),λz=>hb (by rw [z];exact hu0)⟩;have S:aS H (ai H2 l (.ins C dx (fs++[(cm,.ref g),(dG,.ref u)]))) O (λa=>O a\/a=g\/a=u):=⟨λb o e n=>by rw [aC (λz=>n (by rw [z];exact x2))];exact sm b o e,λb hb n z=>by
   rcases z with z | z | z
   ·exact n z
   ·exact(out b hb).1 z
   ·exact(out b hb).2 z⟩
  refine⟨λa=>O a\/a=g\/a=u,δ.set i (some (.r l C g u fd [] [])),E,⟨λb o e=>?_,λa z=>.inl (w.sub a z),λa z=>?_,λa z=>?_,by simp [w.len],λj y e=>?_,λj k y z a e1 y1 e2 z2 e3 e4=>?_⟩,q g u,λO2 δ2 σ2 H2 z2 w2 S2=>k1 O2 δ2 σ2 H2 z2 w2 (S.trans S2),k2,λO2 δ2 σ2 H2 z2 w2 S2=>k3 O2 δ2 σ2 H2 z2 w2 (S.trans S2),λO2 δ2 σ2 H2 z2 w2 S2=>k4 O2 δ2 σ2 H2 z2 w2 (S.trans S2)⟩
  ·have l0:H0 l=none:=(w.new l x2).resolve_left x3;rw [aC (λz=>by rw [z,l0] at e;cases e)];exact w1.same b o e
  ·rcases z with z | z | z
   ·exact w.new a z
   ·rw [z];exact .inr g0
   ·rw [z];exact .inr u0
  ·by_cases al:a=l
   ·rw [al,bA];exact λz=>nomatch z
   ·rw [aC al];rcases z with z | z | z
    ·exact w1.trk a z
    ·rw [z,g2];exact λz=>nomatch z
    ·rw [z,u2];exact λz=>nomatch z
  ·by_cases hj:j=i
   ·subst hj;rw [OU li] at e;cases e;exact⟨by rw [x1];rfl,.inl x2,x3,dx,fs,og,ou,[],[],bA,⟨hf.1,hf.2.step S⟩,gu,⟨.inr (.inl rfl),λz=>ng (w.sub _ z),by rw [aC (Ne.symm lg)];exact g2,.nil⟩,.inr (.inr rfl),λz=>nu (w.sub _ z),by rw [aC (Ne.symm lu)];exact u2,.nil⟩
   ·rw [OF (Ne.symm hj)] at e;refine(w.sl j y e).go S (λb o ho' e' a1 a2 a3=>⟨.inl a1,?_⟩) (λb o z a1 a2 a3=>⟨.inl a1,?_⟩) λb o a1 a3=>?_
    ·have nb:b≠l:=λz=>by
      subst z
      match y,ho',e with
      | some z,ho',e=>exact hj (w.dis j i z _ b e (by cases z <;> first | trivial | cases ho') ei trivial (fB e') x1)
     rw [aC nb];exact sm _ _ a3
    ·rw [aC (λz=>by rw [z,h1] at a3;cases a3)];exact sm _ _ a3
    ·rw [aC (λz=>x3 (by rw [<-z];exact a1))];exact sm _ _ a3
  ·have eO:∀{j:Nat}{y:Sl},(δ.set i (some (.r l C g u fd [] [])))[j]?=some (some y)->y.own->∃y',δ[j]?=some (some y')/\y'.own:=λ{j y} q hq=>by
    by_cases hj:j=i
    ·subst hj;exact⟨_,ei,trivial⟩
    ·rw [OF (Ne.symm hj)] at q;exact⟨_,q,hq⟩
   obtain⟨_,q1,r1⟩:=eO e1 y1;obtain⟨_,q2,r2⟩:=eO e2 z2;exact w.dis j k _ _ a q1 r1 q2 r2 e3 e4
def uR(j:Nat)(dg:DG)(tb:DS):DS:=λE δ=>∃es,δ[j]?=some (some (.b es))/\iu dg tb E es δ
theorem Kj{j:Nat}{tg iter:VT}{g:TG}{dg:DG}{tb:DS}{body:List VZ}{pos:Pos}(h0:∀a,O0 a->H0 a≠none)(hp:WO (VS X.prog X.w) X.A X.env X.xe)(hc:X.calm=true)(hi:PE X iter (dh j))(hg:PG X tg g)(gd:GD X.K g dg)(hb:bX X body (bz X.K H0 O0 tb))(hs:∀x,V2 iter X.env x=pure x:=by intro _;rfl):
 PS X (.For tg iter body [] pos) (bz X.K H0 O0 (uR j dg tb)):=
 (sC hp hc (tK hi) hg hb hs).imp λD σ H uu65=>by
  obtain⟨O,δ,E,w,⟨es,ej,Iv,q0,qs,qe⟩,k1,k2,k3,k4⟩:=uu65;obtain⟨l,vs,h1,h2,h3,r⟩:=w.lent ej;have hl0:H0 l=some (.lst vs):=by
   cases e:H0 l with
   | none=>exact absurd e (h0 l h2)
   | some o=>rw [w.same _ _ e] at h3;rw [h3]
  refine⟨_,h1,l,rfl,⟨vs,.inl (.inl h3)⟩,?_⟩;have S:dn (qJ X.K l) (λH'=>qR H l H') vs:=dn.list (.inl (.inl h3));have hP:∀H',aw H0 H'->qR H l H':=λH' s o e=>by rw [h3] at e;cases e;exact s _ _ hl0
  refine⟨λi m σ' H'=>∃O' δ',m=vs.length - i/\i<=vs.length/\Wd X.K H0 O0 H' O' σ' δ'/\aS H H' O O'/\Iv i δ',⟨vs.length,O,δ,VH,Pc _,w,aS.refl _ _,q0⟩,?_⟩;rintro i m σ1 H1 ⟨O1,δ1,rfl,hi,w1,S1,q1⟩;by_cases hlt:i < vs.length
  ·refine .inr ⟨S.go i H1 (hP _ w1.same) hlt,λσ' H'=>∃O' δ',Wd X.K H0 O0 H' O' σ' δ'/\aS H H' O O'/\Iv (i+1) δ',λσ' H' uu66=>by obtain⟨O',δ',w',S',q'⟩:=uu66;exact⟨vs.length - (i+1),VD,O',δ',rfl,hlt,w',S',q'⟩,λx H' y=>?_⟩;have yy:=S.yl i H1 x H' (hP _ w1.same) hlt y;clear y;obtain⟨e,y⟩:=yy;subst e;obtain⟨d,ed,rd⟩:=r.get y;refine gd H0 O0 _ O1 σ1 δ1 x d _ _ w1 (rd.step S1) (qs i d δ1 ed q1) λδ2 σ2 q2 w2=>?_;refine⟨O1,δ2,_,w2,q2,λO' δ' σ' H' z w' S'=>⟨O',δ',w',S1.trans S',z⟩,k2,λO' δ' σ' H' z w' S'=>k1 O' δ' σ' H' z w' (S1.trans S'),λO' δ' σ' H' z w' S'=>⟨O',δ',w',S1.trans S',z⟩⟩
  ·have e:i=vs.length:=VD
   subst e;refine .inl ⟨S.st _ H1 (hP _ w1.same) (Oi _),?_⟩;rw [r.length] at q1;exact k1 O1 δ1 σ1 H1 (qe δ1 q1) w1 S1
def BS(j:Nat)(F:List VI->List VI->(VI->Prop)->Prop)(t1 t2 t3:DT):DT:=λδ Q=>t1 δ λd1=>t2 δ λd2=>t3 δ λd3=>∃es,δ[j]?=some (some (.o es))/\F [d1,d2,d3] es Q
theorem Kk{f:VM}{j k:Nat}{x:Str}{a b c y:VT}{t1 t2 t3:DT}{fdt:VU}{ps:List Str}{E:XK}{F:List VI->List VI->(VI->Prop)->Prop}{p pos:Pos}
 (Fk:aD X.prog X.w X.K X.mg X.base CX0 k f fdt ps (xp X.K F))(hr:bw k X.A)(hg:Gl X x)(hm:X.mg x=some (.ref f))(hk:Oo X.K (.ref f)=true)(hb:aK X.K fdt ps [])(hx:gL CX0 X E)(ha:DE X H0 O0 a t1)(hb2:DE X H0 O0 b t2)(hc:DE X H0 O0 c t3)(hy:PE X y (dh j))
 (hdb:(x==("__debug__":Str))=false:=by decide)(he:VQ [a,b,c,y] X.env=(false,eval a X.env)::VQ [b,c,y] X.env:=by rfl)(he2:VQ [b,c,y] X.env=(false,eval b X.env)::VQ [c,y] X.env:=by rfl)(he3:VQ [c,y] X.env=(false,eval c X.env)::VQ [y] X.env:=by rfl)(he4:VQ [y] X.env=(false,eval y X.env)::VQ [] X.env:=by rfl)(hpl:(V4 pos (VQ [b,c,y] X.env)).any (·.1)=false:=by rfl):
 DE X H0 O0 (.Call (.Name x p) [a,b,c,y] [] pos) (BS j F t1 t2 t3):=
 (aH Fk hr hg hm hk hb .nil hx (bF ha (bF hb2 (bF hc (bF hy ck he4) he3) he2) he) hdb he hpl).imp λσ H Q uu67=>by
  obtain⟨O,δ,Qd,w,q,k⟩:=uu67;refine⟨O,δ,_,w,q,λd1 v1 H1 q1 s1 r1=>⟨O,δ,_,w.mono s1,q1,λd2 v2 H2 q2 s2 r2=>⟨O,δ,_,w.mono (s1.trans s2),q2,λd3 v3 H3 ⟨es,ej,q3⟩ s3 r3=>?_⟩⟩⟩;have w3:=w.mono (s1.trans (s2.trans s3));obtain⟨l,ws,h1,h2,h3,h4,h5⟩:=w3.own ej;exact⟨_,h1,O,[v1,v2,v3],l,ws,[d1,d2,d3],es,Qd,rfl,w3.trk,.cons (r1.mono (s2.trans s3)) (.cons (r2.mono s3) (.cons r3 .nil)),h2,h4,h5,q3,λd v H4 q4 s4 r4=>k d v H4 q4 (s1.trans (s2.trans (s3.trans s4))) r4⟩
end
section
variable {x y z w:Option Sl} {l:Dl} {i j k m:Nat} {P:VI->Prop}
theorem qa:cf j ((x::l).set 0 y) P=cf j (y::l) P:=rfl
theorem qc:cf j ((x::l).set (i+1) y) P=cf j (x::l.set i y) P:=rfl
theorem qg:cf j (((x::l).set 0 y).set k z) P=cf j ((y::l).set k z) P:=rfl
theorem qh:cf j (((x::l).set (i+1) y).set k z) P=cf j ((x::l.set i y).set k z) P:=rfl
theorem qi:cf j ((((x::l).set 0 y).set k z).set m w) P=cf j (((y::l).set k z).set m w) P:=rfl
theorem qj:cf j ((((x::l).set (i+1) y).set k z).set m w) P=cf j (((x::l.set i y).set k z).set m w) P:=rfl
end
end L2
namespace K23
open PySem L2
def bf(i:Nat):VZ:=PySem.Challenge.pw_goneday_k23_there_on_days.main.body.getD i (.Pass ⟨0,0,0,0⟩)
abbrev km:VZ:=bf 8
abbrev kn:VZ:=bf 9
abbrev ko:VZ:=bf 10
abbrev kq:VZ:=bf 11
abbrev kr:VZ:=bf 12
abbrev ku:VZ:=bf 13
abbrev jg:VZ:=bf 14
abbrev kx:VZ:=bf 15
abbrev jh:VZ:=L2.inClass (bf 17) 0
abbrev kz:VZ:=bf 18
abbrev ji:VZ:=bf 19
abbrev kA:VZ:=bf 20
abbrev jj:VZ:=bf 21
abbrev iB:VZ:=bf 22
abbrev jk:VZ:=bf 23
abbrev jm:VZ:=bf 24
abbrev jn:VZ:=bf 26
abbrev jo:VZ:=bf 27
abbrev jq:VZ:=bf 28
abbrev kB:VZ:=bf 29
abbrev jr:VZ:=bf 30
abbrev js:VZ:=bf 31
abbrev jt:VZ:=bf 32
abbrev kC:VZ:=bf 33
abbrev ju:VZ:=bf 35
abbrev kD:VZ:=bf 36
abbrev jv:VZ:=bf 37
abbrev jw:VZ:=bf 38
abbrev jx:VZ:=bf 39
abbrev kE:VZ:=bf 41
abbrev jy:VZ:=bf 42
abbrev iC:VZ:=bf 43
abbrev kF:VZ:=L2.inClass (bf 45) 0
abbrev kG:VZ:=L2.inClass (bf 45) 1
abbrev kH:VZ:=L2.inClass (bf 45) 2
abbrev jz:VZ:=L2.inClass (bf 46) 0
abbrev kI:VZ:=L2.inClass (bf 46) 1
abbrev kJ:VZ:=L2.inClass (bf 46) 2
abbrev g8:VZ:=L2.inClass (bf 46) 3
abbrev jA:VZ:=bf 47
abbrev kK:VZ:=bf 48
abbrev kL:VZ:=bf 49
abbrev jB:VZ:=bf 50
abbrev kM:VZ:=bf 51
abbrev jC:VZ:=bf 53
abbrev kN:VZ:=bf 54
abbrev iD:VZ:=bf 55
abbrev kO:VZ:=bf 57
abbrev kP:VZ:=bf 58
abbrev g9:VZ:=bf 59
abbrev kQ:VZ:=bf 60
abbrev kR:VZ:=bf 61
abbrev kT:VZ:=bf 62
abbrev kU:VZ:=bf 63
abbrev kW:VZ:=bf 64
abbrev kX:VZ:=bf 65
abbrev jD:VZ:=bf 66
abbrev kY:VZ:=bf 67
abbrev kZ:VZ:=bf 68
abbrev jE:VZ:=bf 69
abbrev lh:VZ:=bf 70
abbrev iE:VZ:=bf 71
abbrev jF:VZ:=bf 72
abbrev lq:VZ:=bf 73
abbrev iF:VZ:=bf 74
abbrev gE:VZ:=bf 75
set_option genInjectivity false in
set_option genSizeOfSpec false in
structure cz where
 a_A:VM
 d_A:VU
 a_B:VM
 d_B:VU
 a_C:VM
 d_C:VU
 a_D:VM
 d_D:VU
 a_E:VM
 d_E:VU
 a_F:VM
 d_F:VU
 a_G:VM
 d_G:VU
 a_H:VM
 d_H:VU
 a_I:VM
 d_I:VU
 a_J:VM
 d_J:VU
 a_K:VM
 d_K:VU
 a_L:VM
 d_L:VU
 a_M:VM
 d_M:VU
 a_N:VM
 d_N:VU
 a_O:VM
 d_O:VU
 a_P:VM
 d_P:VU
 a_Q:VM
 d_Q:VU
 a_R:VM
 d_R:VU
 a_S:VM
 d_S:VU
 a_T:VM
 d_T:VU
 a_U:VM
 d_U:VU
 a_V:VM
 d_V:VU
 a_W:VM
 d_W:VU
 a_X:VM
 d_X:VU
 a_Y:VM
 d_Y:VU
 a_Z:VM
 d_Z:VU
 a_a:VM
 d_a:VU
 a_b:VM
 d_b:VU
 a_c:VM
 d_c:VU
 a_d:VM
 d_d:VU
 a_e:VM
 d_e:VU
 a_f:VM
 d_f:VU
 a_g:VM
 d_g:VU
 a_h:VM
 d_h:VU
 a_i:VM
 d_i:VU
 a_j:VM
 d_j:VU
 a_k:VM
 d_k:VU
 a_l:VM
 d_l:VU
 a_m:VM
 d_m:VU
 a_n:VM
 d_n:VU
 a_o:VM
 d_o:VU
 a_p:VM
 d_p:VU
 a_q:VM
 d_q:VU
 a_r:VM
 d_r:VU
 a_s:VM
 d_s:VU
 a_t:VM
 d_t:VU
 a_u:VM
 d_u:VU
 a_v:VM
 d_v:VU
 a_w:VM
 d_w:VU
 a_x:VM
 d_x:VU
 a_y:VM
 d_y:VU
 a_z:VM
 d_z:VU
 a_AA:VM
 d_AA:VU
 a_AB:VM
 d_AB:VU
 a_AC:VM
 d_AC:VU
 a_AD:VM
 d_AD:VU
 a_AE:VM
 d_AE:VU
 a_AF:VM
 d_AF:VU
 a_AG:VM
 d_AG:VU
 a_AH:VM
 d_AH:VU
 a_AI:VM
 d_AI:VU
 a_AJ:VM
 d_AJ:VU
 a_AK:VM
 d_AK:VU
 a_AL:VM
 d_AL:VU
 a_AM:VM
 d_AM:VU
 a_AN:VM
 d_AN:VU
 u_MONTH_DAYS:VJ
 u_FIRST_YEAR:VJ
 u_ROUND_DAYS:VJ
 u_ROUND_YEARS:VJ
 u_NoPaper:VM
 u_Paper:VM
 u_Look:VM
 u_Round:VM
structure Txt (K:Og) (mg:Str->Option VJ) (t:cz):Prop where
 F_A:aQ K "is_leap" "is_leap" km t.a_A t.d_A
 m_A:mg "is_leap"=some (.ref t.a_A)
 b_A:aK K t.d_A ["year"] []
 F_B:aQ K "month_length" "month_length" kn t.a_B t.d_B
 m_B:mg "month_length"=some (.ref t.a_B)
 b_B:aK K t.d_B ["year","month"] []
 F_C:aQ K "leaps_before" "leaps_before" ko t.a_C t.d_C
 m_C:mg "leaps_before"=some (.ref t.a_C)
 b_C:aK K t.d_C ["year"] []
 F_D:aQ K "year_start" "year_start" kq t.a_D t.d_D
 m_D:mg "year_start"=some (.ref t.a_D)
 b_D:aK K t.d_D ["year"] []
 F_E:aQ K "year_of" "year_of" kr t.a_E t.d_E
 m_E:mg "year_of"=some (.ref t.a_E)
 b_E:aK K t.d_E ["day"] []
 F_F:aQ K "parts_of" "parts_of" ku t.a_F t.d_F
 m_F:mg "parts_of"=some (.ref t.a_F)
 b_F:aK K t.d_F ["day"] []
 F_G:aQ K "number_of" "number_of" jg t.a_G t.d_G
 m_G:mg "number_of"=some (.ref t.a_G)
 b_G:aK K t.d_G ["year","month","day"] []
 F_H:aQ K "later" "later" kx t.a_H t.d_H
 m_H:mg "later"=some (.ref t.a_H)
 b_H:aK K t.d_H ["day","many","unit"] []
 F_I:aQ K "__init__" "Paper.__init__" jh t.a_I t.d_I
 b_I:aK K t.d_I ["self","deeds","name"] []
 F_J:aQ K "place_of" "place_of" kz t.a_J t.d_J
 m_J:mg "place_of"=some (.ref t.a_J)
 b_J:aK K t.d_J ["deed"] []
 F_K:aQ K "comings" "comings" ji t.a_K t.d_K
 m_K:mg "comings"=some (.ref t.a_K)
 b_K:aK K t.d_K ["deeds"] []
 F_L:aQ K "coming_of" "coming_of" kA t.a_L t.d_L
 m_L:mg "coming_of"=some (.ref t.a_L)
 b_L:aK K t.d_L ["deeds","paper"] []
 F_M:aQ K "papers" "papers" jj t.a_M t.d_M
 m_M:mg "papers"=some (.ref t.a_M)
 b_M:aK K t.d_M ["deeds"] []
 F_N:aQ K "maker_comings" "maker_comings" iB t.a_N t.d_N
 m_N:mg "maker_comings"=some (.ref t.a_N)
 b_N:aK K t.d_N ["deeds","coming"] []
 F_O:aQ K "makers" "makers" jk t.a_O t.d_O
 m_O:mg "makers"=some (.ref t.a_O)
 b_O:aK K t.d_O ["deeds","paper"] []
 F_P:aQ K "line_of" "line_of" jm t.a_P t.d_P
 m_P:mg "line_of"=some (.ref t.a_P)
 b_P:aK K t.d_P ["deeds","paper"] []
 F_Q:aQ K "latest" "latest" jn t.a_Q t.d_Q
 m_Q:mg "latest"=some (.ref t.a_Q)
 b_Q:aK K t.d_Q ["deeds","words","day"] []
 F_R:aQ K "rules_on" "rules_on" jo t.a_R t.d_R
 m_R:mg "rules_on"=some (.ref t.a_R)
 b_R:aK K t.d_R ["deeds","day"] []
 F_S:aQ K "holds_on" "holds_on" jq t.a_S t.d_S
 m_S:mg "holds_on"=some (.ref t.a_S)
 b_S:aK K t.d_S ["deeds","day"] []
 F_T:aQ K "is_told" "is_told" kB t.a_T t.d_T
 m_T:mg "is_told"=some (.ref t.a_T)
 b_T:aK K t.d_T ["target","coming"] []
 F_U:aQ K "holding" "holding" jr t.a_U t.d_U
 m_U:mg "holding"=some (.ref t.a_U)
 b_U:aK K t.d_U ["holds","line"] []
 F_V:aQ K "happened" "happened" js t.a_V t.d_V
 m_V:mg "happened"=some (.ref t.a_V)
 b_V:aK K t.d_V ["paper","happening"] []
 F_W:aQ K "base_of" "base_of" jt t.a_W t.d_W
 m_W:mg "base_of"=some (.ref t.a_W)
 b_W:aK K t.d_W ["paper","since","day"] []
 F_X:aQ K "reckoned" "reckoned" kC t.a_X t.d_X
 m_X:mg "reckoned"=some (.ref t.a_X)
 b_X:aK K t.d_X ["paper","parts","day"] []
 F_Y:aQ K "rules_over" "rules_over" ju t.a_Y t.d_Y
 m_Y:mg "rules_over"=some (.ref t.a_Y)
 b_Y:aK K t.d_Y ["paper","rules","day"] []
 F_Z:aQ K "has_gone" "has_gone" kD t.a_Z t.d_Z
 m_Z:mg "has_gone"=some (.ref t.a_Z)
 b_Z:aK K t.d_Z ["gone","paper","day"] []
 F_a:aQ K "staying" "staying" jv t.a_a t.d_a
 m_a:mg "staying"=some (.ref t.a_a)
 b_a:aK K t.d_a ["paper","rules","day","gone"] []
 F_b:aQ K "going" "going" jw t.a_b t.d_b
 m_b:mg "going"=some (.ref t.a_b)
 b_b:aK K t.d_b ["paper","rules","day","gone"] []
 F_c:aQ K "leave_rules" "leave_rules" jx t.a_c t.d_c
 m_c:mg "leave_rules"=some (.ref t.a_c)
 b_c:aK K t.d_c ["kind","rules"] []
 F_d:aQ K "bases" "bases" kE t.a_d t.d_d
 m_d:mg "bases"=some (.ref t.a_d)
 b_d:aK K t.d_d ["since","paper"] []
 F_e:aQ K "reckonings" "reckonings" jy t.a_e t.d_e
 m_e:mg "reckonings"=some (.ref t.a_e)
 b_e:aK K t.d_e ["ready","parts"] []
 F_f:aQ K "turning_days" "turning_days" iC t.a_f t.d_f
 m_f:mg "turning_days"=some (.ref t.a_f)
 b_f:aK K t.d_f ["deeds"] []
 F_g:aQ K "__init__" "Look.__init__" kF t.a_g t.d_g
 b_g:aK K t.d_g ["self","day","paper","to_stay","to_go","bars","leave"] []
 F_h:aQ K "lets_go" "Look.lets_go" kG t.a_h t.d_h
 b_h:aK K t.d_h ["self"] []
 F_i:aQ K "as_row" "Look.as_row" kH t.a_i t.d_i
 b_i:aK K t.d_i ["self"] []
 F_j:aQ K "__init__" "Round.__init__" jz t.a_j t.d_j
 b_j:aK K t.d_j ["self","deeds","day","done"] []
 F_k:aQ K "mark" "Round.mark" kI t.a_k t.d_k
 b_k:aK K t.d_k ["self","row"] []
 F_l:aQ K "unused" "Round.unused" kJ t.a_l t.d_l
 b_l:aK K t.d_l ["self","kind"] []
 F_m:aQ K "look" "Round.look" g8 t.a_m t.d_m
 b_m:aK K t.d_m ["self","paper","line"] []
 F_n:aQ K "shelf_of" "shelf_of" jA t.a_n t.d_n
 m_n:mg "shelf_of"=some (.ref t.a_n)
 b_n:aK K t.d_n ["deeds"] []
 F_o:aQ K "looks_on" "looks_on" kK t.a_o t.d_o
 m_o:mg "looks_on"=some (.ref t.a_o)
 b_o:aK K t.d_o ["deeds","shelf","day","done"] []
 F_p:aQ K "walk" "walk" kL t.a_p t.d_p
 m_p:mg "walk"=some (.ref t.a_p)
 b_p:aK K t.d_p ["deeds","days","done"] []
 F_q:aQ K "rows_of" "rows_of" jB t.a_q t.d_q
 m_q:mg "rows_of"=some (.ref t.a_q)
 b_q:aK K t.d_q ["looks"] []
 F_r:aQ K "plan_looks" "plan_looks" kM t.a_r t.d_r
 m_r:mg "plan_looks"=some (.ref t.a_r)
 b_r:aK K t.d_r ["deeds"] []
 F_s:aQ K "plan" "plan" jC t.a_s t.d_s
 m_s:mg "plan"=some (.ref t.a_s)
 b_s:aK K t.d_s ["deeds"] []
 F_t:aQ K "days_of" "days_of" kN t.a_t t.d_t
 m_t:mg "days_of"=some (.ref t.a_t)
 b_t:aK K t.d_t ["deeds"] []
 F_u:aQ K "there" "there" iD t.a_u t.d_u
 m_u:mg "there"=some (.ref t.a_u)
 b_u:aK K t.d_u ["deeds","day"] []
 F_v:aQ K "_law_cell" "_law_cell" kO t.a_v t.d_v
 m_v:mg "_law_cell"=some (.ref t.a_v)
 b_v:aK K t.d_v ["_law_script","_law_k"] []
 F_w:aQ K "_law_numbers" "_law_numbers" kP t.a_w t.d_w
 m_w:mg "_law_numbers"=some (.ref t.a_w)
 b_w:aK K t.d_w ["_law_cell_here","_law_many"] []
 F_x:aQ K "_law_pool" "_law_pool" g9 t.a_x t.d_x
 m_x:mg "_law_pool"=some (.ref t.a_x)
 b_x:aK K t.d_x ["_law_x","_law_many"] []
 F_y:aQ K "_law_first" "_law_first" kQ t.a_y t.d_y
 m_y:mg "_law_first"=some (.ref t.a_y)
 b_y:aK K t.d_y ["_law_year"] []
 F_z:aQ K "_law_lengths" "_law_lengths" kR t.a_z t.d_z
 m_z:mg "_law_lengths"=some (.ref t.a_z)
 b_z:aK K t.d_z ["_law_year"] []
 F_AA:aQ K "_law_day" "_law_day" kT t.a_AA t.d_AA
 m_AA:mg "_law_day"=some (.ref t.a_AA)
 b_AA:aK K t.d_AA ["_law_x","_law_far_here"] []
 F_AB:aQ K "_law_since" "_law_since" kU t.a_AB t.d_AB
 m_AB:mg "_law_since"=some (.ref t.a_AB)
 b_AB:aK K t.d_AB ["_law_x","_law_words"] []
 F_AC:aQ K "_law_parts" "_law_parts" kW t.a_AC t.d_AC
 m_AC:mg "_law_parts"=some (.ref t.a_AC)
 b_AC:aK K t.d_AC ["_law_xs","_law_kinds","_law_words","_law_far_here"] []
 F_AD:aQ K "_law_quarrel" "_law_quarrel" kX t.a_AD t.d_AD
 m_AD:mg "_law_quarrel"=some (.ref t.a_AD)
 b_AD:aK K t.d_AD ["_law_one","_law_other"] []
 F_AE:aQ K "_law_deed" "_law_deed" jD t.a_AE t.d_AE
 m_AE:mg "_law_deed"=some (.ref t.a_AE)
 b_AE:aK K t.d_AE ["_law_sort","_law_xs","_law_pools_here","_law_far_here"] []
 F_AF:aQ K "_law_pools" "_law_pools" kY t.a_AF t.d_AF
 m_AF:mg "_law_pools"=some (.ref t.a_AF)
 b_AF:aK K t.d_AF ["_law_x"] []
 F_AG:aQ K "_law_sorts" "_law_sorts" kZ t.a_AG t.d_AG
 m_AG:mg "_law_sorts"=some (.ref t.a_AG)
 b_AG:aK K t.d_AG [] []
 F_AH:aQ K "_law_deeds" "_law_deeds" jE t.a_AH t.d_AH
 m_AH:mg "_law_deeds"=some (.ref t.a_AH)
 b_AH:aK K t.d_AH ["_law_script","_law_at","_law_far_here"] []
 F_AI:aQ K "_law_row" "_law_row" lh t.a_AI t.d_AI
 m_AI:mg "_law_row"=some (.ref t.a_AI)
 b_AI:aK K t.d_AI ["_law_deeds_here","_law_name"] []
 F_AJ:aQ K "_law_order" "_law_order" iE t.a_AJ t.d_AJ
 m_AJ:mg "_law_order"=some (.ref t.a_AJ)
 b_AJ:aK K t.d_AJ ["_law_deeds_here"] []
 F_AK:aQ K "_law_is" "_law_is" jF t.a_AK t.d_AK
 m_AK:mg "_law_is"=some (.ref t.a_AK)
 b_AK:aK K t.d_AK ["_law_found","_law_due"] []
 F_AL:aQ K "_law_far" "_law_far" lq t.a_AL t.d_AL
 m_AL:mg "_law_far"=some (.ref t.a_AL)
 b_AL:aK K t.d_AL ["_law_script","_law_at"] []
 F_AM:aQ K "_law_there" "_law_there" iF t.a_AM t.d_AM
 m_AM:mg "_law_there"=some (.ref t.a_AM)
 b_AM:aK K t.d_AM ["_law_deeds_here","_law_rows","_law_day_here"] []
 F_AN:aQ K "law" "law" gE t.a_AN t.d_AN
 m_AN:mg "law"=some (.ref t.a_AN)
 b_AN:aK K t.d_AN ["_law_script"] []
 bt_AN:∀(s:VN)(u:VJ),BindsTo s t.d_AN ⟨[u],[]⟩ [("_law_script",u)]
 c_MONTH_DAYS:mg "MONTH_DAYS"=some t.u_MONTH_DAYS
 e_MONTH_DAYS:∃a,t.u_MONTH_DAYS= .ref a/\∀H,bC K H a [V.int 31,V.int 28,V.int 31,V.int 30,V.int 31,V.int 30,V.int 31,V.int 31,V.int 30,V.int 31,V.int 30,V.int 31]
 c_FIRST_YEAR:mg "FIRST_YEAR"=some t.u_FIRST_YEAR
 r_FIRST_YEAR:aO (.int 2000) t.u_FIRST_YEAR
 c_ROUND_DAYS:mg "ROUND_DAYS"=some t.u_ROUND_DAYS
 r_ROUND_DAYS:aO (.int 146097) t.u_ROUND_DAYS
 c_ROUND_YEARS:mg "ROUND_YEARS"=some t.u_ROUND_YEARS
 r_ROUND_YEARS:aO (.int 400) t.u_ROUND_YEARS
 c_NoPaper:mg "NoPaper"=some (.ref t.u_NoPaper)
 c_Paper:mg "Paper"=some (.ref t.u_Paper)
 c_Look:mg "Look"=some (.ref t.u_Look)
 c_Round:mg "Round"=some (.ref t.u_Round)
 cl_Paper:dE K t.u_Paper
 mk_Paper:Mk K t.u_Paper t.a_I
 na_Paper_name:cj K t.u_Paper "name"
 na_Paper_coming:cj K t.u_Paper "coming"
 na_Paper_kind:cj K t.u_Paper "kind"
 na_Paper_makers:cj K t.u_Paper "makers"
 na_Paper_happenings:cj K t.u_Paper "happenings"
 cl_Look:dE K t.u_Look
 mk_Look:Mk K t.u_Look t.a_g
 na_Look_day:cj K t.u_Look "day"
 na_Look_paper:cj K t.u_Look "paper"
 na_Look_to_stay:cj K t.u_Look "to_stay"
 na_Look_to_go:cj K t.u_Look "to_go"
 na_Look_bars:cj K t.u_Look "bars"
 na_Look_leave:cj K t.u_Look "leave"
 mt_Look_lets_go:ic K t.u_Look "lets_go" t.a_h
 mt_Look_as_row:ic K t.u_Look "as_row" t.a_i
 cl_Round:dE K t.u_Round
 mk_Round:Mk K t.u_Round t.a_j
 na_Round_day:cj K t.u_Round "day"
 na_Round_rules:cj K t.u_Round "rules"
 na_Round_holds:cj K t.u_Round "holds"
 na_Round_leaves:cj K t.u_Round "leaves"
 na_Round_gone:cj K t.u_Round "gone"
 na_Round_used:cj K t.u_Round "used"
 mt_Round_mark:ic K t.u_Round "mark" t.a_k
 mt_Round_unused:ic K t.u_Round "unused" t.a_l
 mt_Round_look:ic K t.u_Round "look" t.a_m
 n_abs:mg "abs"=none
 n_all:mg "all"=none
 n_any:mg "any"=none
 n_bool:mg "bool"=none
 n_enumerate:mg "enumerate"=none
 n_int:mg "int"=none
 n_isinstance:mg "isinstance"=none
 n_len:mg "len"=none
 n_list:mg "list"=none
 n_max:mg "max"=none
 n_min:mg "min"=none
 n_range:mg "range"=none
 n_set:mg "set"=none
 n_sorted:mg "sorted"=none
 n_str:mg "str"=none
 n_sum:mg "sum"=none
 n_tuple:mg "tuple"=none
theorem Kl:aV ["year"] ["year"] (ag km):=⟨rfl,rfl,rfl,VB,rfl,VB,VB⟩
theorem Km:aV ["year","month"] ["year","month"] (ag kn):=⟨rfl,rfl,rfl,VB,rfl,VB,VB⟩
theorem BU:aV ["year","past"] ["year"] (ag ko):=⟨rfl,rfl,rfl,VB,rfl,VB,VB⟩
theorem Kn:aV ["year"] ["year"] (ag kq):=⟨rfl,rfl,rfl,VB,rfl,VB,VB⟩
theorem BV:aV ["day","year"] ["day"] (ag kr):=⟨rfl,rfl,rfl,VB,rfl,VB,VB⟩
theorem rn:aV ["day","year","left","month"] ["day"] (ag ku):=⟨rfl,rfl,rfl,VB,rfl,VB,VB⟩
theorem BW:aV ["year","month","day","before"] ["year","month","day"] (ag jg):=⟨rfl,rfl,rfl,VB,rfl,VB,VB⟩
theorem ro:aV ["day","many","unit","months","parts","place","year","month"] ["day","many","unit"] (ag kx):=⟨rfl,rfl,rfl,VB,rfl,VB,VB⟩
theorem BX:aV ["self","deeds","name","coming"] ["self","deeds","name"] (ag jh):=⟨rfl,rfl,rfl,VB,rfl,VB,VB⟩
theorem Ko:aV ["deed"] ["deed"] (ag kz):=⟨rfl,rfl,rfl,VB,rfl,VB,VB⟩
theorem Kp:aV ["deeds"] ["deeds"] (ag ji):=⟨rfl,rfl,rfl,VB,rfl,VB,VB⟩
theorem BY:aV ["deeds","paper","deed"] ["deeds","paper"] (ag kA):=⟨rfl,rfl,rfl,VB,rfl,VB,VB⟩
theorem Kq:aV ["deeds"] ["deeds"] (ag jj):=⟨rfl,rfl,rfl,VB,rfl,VB,VB⟩
theorem BZ:aV ["deeds","coming","named"] ["deeds","coming"] (ag iB):=⟨rfl,rfl,rfl,VB,rfl,VB,VB⟩
theorem Kr:aV ["deeds","paper"] ["deeds","paper"] (ag jk):=⟨rfl,rfl,rfl,VB,rfl,VB,VB⟩
theorem uS:aV ["deeds","paper","line","place"] ["deeds","paper"] (ag jm):=⟨rfl,rfl,rfl,VB,rfl,VB,VB⟩
theorem uT:aV ["deeds","words","day","found","deed","known"] ["deeds","words","day"] (ag jn):=⟨rfl,rfl,rfl,VB,rfl,VB,VB⟩
theorem Ks:aV ["deeds","day"] ["deeds","day"] (ag jo):=⟨rfl,rfl,rfl,VB,rfl,VB,VB⟩
theorem Kt:aV ["deeds","day"] ["deeds","day"] (ag jq):=⟨rfl,rfl,rfl,VB,rfl,VB,VB⟩
theorem Ku:aV ["target","coming"] ["target","coming"] (ag kB):=⟨rfl,rfl,rfl,VB,rfl,VB,VB⟩
theorem rA:aV ["holds","line","names","hold","target","deep","reached"] ["holds","line"] (ag jr):=⟨rfl,rfl,rfl,VB,rfl,VB,VB⟩
theorem Kv:aV ["paper","happening"] ["paper","happening"] (ag js):=⟨rfl,rfl,rfl,VB,rfl,VB,VB⟩
theorem B0:aV ["paper","since","day","days"] ["paper","since","day"] (ag jt):=⟨rfl,rfl,rfl,VB,rfl,VB,VB⟩
theorem B1:aV ["paper","parts","day","base"] ["paper","parts","day"] (ag kC):=⟨rfl,rfl,rfl,VB,rfl,VB,VB⟩
theorem Kw:aV ["paper","rules","day"] ["paper","rules","day"] (ag ju):=⟨rfl,rfl,rfl,VB,rfl,VB,VB⟩
theorem B2:aV ["gone","paper","day","went"] ["gone","paper","day"] (ag kD):=⟨rfl,rfl,rfl,VB,rfl,VB,VB⟩
theorem rB:aV ["paper","rules","day","gone","left","calls","rule","parts","due"] ["paper","rules","day","gone"] (ag jv):=⟨rfl,rfl,rfl,VB,rfl,VB,VB⟩
theorem rC:aV ["paper","rules","day","gone","away","calls","rule","parts","due"] ["paper","rules","day","gone"] (ag jw):=⟨rfl,rfl,rfl,VB,rfl,VB,VB⟩
theorem Kx:aV ["kind","rules"] ["kind","rules"] (ag jx):=⟨rfl,rfl,rfl,VB,rfl,VB,VB⟩
theorem B3:aV ["since","paper","days"] ["since","paper"] (ag kE):=⟨rfl,rfl,rfl,VB,rfl,VB,VB⟩
theorem xA:aV ["ready","parts","days","paper"] ["ready","parts"] (ag jy):=⟨rfl,rfl,rfl,VB,rfl,VB,VB⟩
theorem uU:aV ["deeds","ready","days","deed"] ["deeds"] (ag iC):=⟨rfl,rfl,rfl,VB,rfl,VB,VB⟩
theorem Ky:aV ["self","day","paper","to_stay","to_go","bars","leave"] ["self","day","paper","to_stay","to_go","bars","leave"] (ag kF):=⟨rfl,rfl,rfl,VB,rfl,VB,VB⟩
theorem Kz:aV ["self"] ["self"] (ag kG):=⟨rfl,rfl,rfl,VB,rfl,VB,VB⟩
theorem KA:aV ["self"] ["self"] (ag kH):=⟨rfl,rfl,rfl,VB,rfl,VB,VB⟩
theorem xB:aV ["self","deeds","day","done","leaves","row"] ["self","deeds","day","done"] (ag jz):=⟨rfl,rfl,rfl,VB,rfl,VB,VB⟩
theorem KC:aV ["self","row"] ["self","row"] (ag kI):=⟨rfl,rfl,rfl,VB,rfl,VB,VB⟩
theorem B4:aV ["self","kind","deed"] ["self","kind"] (ag kJ):=⟨rfl,rfl,rfl,VB,rfl,VB,VB⟩
theorem rD:aV ["self","paper","line","to_stay","to_go","asking","leave","bars"] ["self","paper","line"] (ag g8):=⟨rfl,rfl,rfl,VB,rfl,VB,VB⟩
theorem KD:aV ["deeds"] ["deeds"] (ag jA):=⟨rfl,rfl,rfl,VB,rfl,VB,VB⟩
theorem rE:aV ["deeds","shelf","day","done","here","told","paper","line","look"] ["deeds","shelf","day","done"] (ag kK):=⟨rfl,rfl,rfl,VB,rfl,VB,VB⟩
theorem rF:aV ["deeds","days","done","shelf","rows","told","day","looks"] ["deeds","days","done"] (ag kL):=⟨rfl,rfl,rfl,VB,rfl,VB,VB⟩
theorem KH:aV ["looks"] ["looks"] (ag jB):=⟨rfl,rfl,rfl,VB,rfl,VB,VB⟩
theorem KI:aV ["deeds"] ["deeds"] (ag kM):=⟨rfl,rfl,rfl,VB,rfl,VB,VB⟩
theorem xC:aV ["deeds","rows","row"] ["deeds"] (ag jC):=⟨rfl,rfl,rfl,VB,rfl,VB,VB⟩
theorem sX:aV ["deeds","days","paper","day","leave"] ["deeds"] (ag kN):=⟨rfl,rfl,rfl,VB,rfl,VB,VB⟩
theorem xD:aV ["deeds","day","days","come"] ["deeds","day"] (ag iD):=⟨rfl,rfl,rfl,VB,rfl,VB,VB⟩
theorem uV:aV ["_law_script","_law_k","_law_state","_law_cell_here"] ["_law_script","_law_k"] (ag kO):=⟨rfl,rfl,rfl,VB,rfl,VB,VB⟩
theorem oe:aV ["_law_cell_here","_law_many","_law_found","_law_state","_law_digits","_law_k"] ["_law_cell_here","_law_many"] (ag kP):=⟨rfl,rfl,rfl,VB,rfl,VB,VB⟩
theorem oh:aV ["_law_x","_law_many","_law_letters","_law_words","_law_size","_law_at","_law_stem","_law_ends"] ["_law_x","_law_many"] (ag g9):=⟨rfl,rfl,rfl,VB,rfl,VB,VB⟩
theorem B5:aV ["_law_year","_law_past"] ["_law_year"] (ag kQ):=⟨rfl,rfl,rfl,VB,rfl,VB,VB⟩
theorem B6:aV ["_law_year","_law_leap"] ["_law_year"] (ag kR):=⟨rfl,rfl,rfl,VB,rfl,VB,VB⟩
theorem xE:aV ["_law_x","_law_far_here","_law_month","_law_ahead"] ["_law_x","_law_far_here"] (ag kT):=⟨rfl,rfl,rfl,VB,rfl,VB,VB⟩
theorem KJ:aV ["_law_x","_law_words"] ["_law_x","_law_words"] (ag kU):=⟨rfl,rfl,rfl,VB,rfl,VB,VB⟩
theorem qm:aV ["_law_xs","_law_kinds","_law_words","_law_far_here","_law_kind","_law_sort","_law_unit","_law_many"] ["_law_xs","_law_kinds","_law_words","_law_far_here"] (ag kW):=⟨rfl,rfl,rfl,VB,rfl,VB,VB⟩
theorem KL:aV ["_law_one","_law_other"] ["_law_one","_law_other"] (ag kX):=⟨rfl,rfl,rfl,VB,rfl,VB,VB⟩
theorem oi:aV ["_law_sort","_law_xs","_law_pools_here","_law_far_here","_law_names","_law_kinds","_law_words","_law_rules","_law_day_here","_law_some","_law_target"] ["_law_sort","_law_xs","_law_pools_here","_law_far_here"] (ag jD):=⟨rfl,rfl,rfl,VB,rfl,VB,VB⟩
theorem B7:aV ["_law_x","_law_names"] ["_law_x"] (ag kY):=⟨rfl,rfl,rfl,VB,rfl,VB,VB⟩
theorem B8:aV ["_law_found"] [] (ag kZ):=⟨rfl,rfl,rfl,VB,rfl,VB,VB⟩
theorem lr:aV ["_law_script","_law_at","_law_far_here","_law_head","_law_pools_here","_law_found","_law_k","_law_sort","_law_xs","_law_deed_here","_law_turn"] ["_law_script","_law_at","_law_far_here"] (ag jE):=⟨rfl,rfl,rfl,VB,rfl,VB,VB⟩
theorem B9:aV ["_law_deeds_here","_law_name","_law_deed_here"] ["_law_deeds_here","_law_name"] (ag lh):=⟨rfl,rfl,rfl,VB,rfl,VB,VB⟩
theorem KN:aV ["_law_deeds_here"] ["_law_deeds_here"] (ag iE):=⟨rfl,rfl,rfl,VB,rfl,VB,VB⟩
theorem KO:aV ["_law_found","_law_due"] ["_law_found","_law_due"] (ag jF):=⟨rfl,rfl,rfl,VB,rfl,VB,VB⟩
theorem KP:aV ["_law_script","_law_at"] ["_law_script","_law_at"] (ag lq):=⟨rfl,rfl,rfl,VB,rfl,VB,VB⟩
theorem rG:aV ["_law_deeds_here","_law_rows","_law_day_here","_law_gone","_law_name","_law_at","_law_leave","_law_some"] ["_law_deeds_here","_law_rows","_law_day_here"] (ag iF):=⟨rfl,rfl,rfl,VB,rfl,VB,VB⟩
theorem lx:aV ["_law_script","_law_deeds_here","_law_other","_law_xs","_law_rows","_law_others","_law_days","_law_asked","_law_day_here"] ["_law_script"] (ag gE):=⟨rfl,rfl,rfl,VB,rfl,VB,VB⟩
theorem KQ{α:Type}{us:List α}(h:us.length=0):us=[]:=TX.mp h
theorem cY{α:Type}{us:List α}(h:us.length=1):∃a,us=[a]:=List.length_eq_one_iff.mp h
theorem cF{α:Type}{us:List α}(h0:us.length=2):∃a b,us=[a,b]:=by
 cases us with
 | nil=>cases h0
 | cons a us=>
  obtain⟨b,z0⟩:=cY (us:=us) (SE h0);exact⟨a,b,by rw [z0]⟩
theorem gF{α:Type}{us:List α}(h0:us.length=3):∃a b c,us=[a,b,c]:=by
 cases us with
 | nil=>cases h0
 | cons a us=>
  obtain⟨b,c,z0⟩:=cF (us:=us) (SE h0);exact⟨a,b,c,by rw [z0]⟩
theorem qo{α:Type}{us:List α}(h0:us.length=4):∃a b c d,us=[a,b,c,d]:=by
 cases us with
 | nil=>cases h0
 | cons a us=>
  obtain⟨b,c,d,z0⟩:=gF (us:=us) (SE h0);exact⟨a,b,c,d,by rw [z0]⟩
theorem KR{α:Type}{us:List α}(h0:us.length=5):∃a b c d p,us=[a,b,c,d,p]:=by
 cases us with
 | nil=>cases h0
 | cons a us=>
  obtain⟨b,c,d,p,z0⟩:=qo (us:=us) (SE h0);exact⟨a,b,c,d,p,by rw [z0]⟩
theorem KS{α:Type}{us:List α}(h0:us.length=6):∃a b c d p q,us=[a,b,c,d,p,q]:=by
 cases us with
 | nil=>cases h0
 | cons a us=>
  obtain⟨b,c,d,p,q,z0⟩:=KR (us:=us) (SE h0);exact⟨a,b,c,d,p,q,by rw [z0]⟩
theorem KU{α:Type}{us:List α}(h0:us.length=7):∃a b c d p q r,us=[a,b,c,d,p,q,r]:=by
 cases us with
 | nil=>cases h0
 | cons a us=>
  obtain⟨b,c,d,p,q,r,z0⟩:=KS (us:=us) (SE h0);exact⟨a,b,c,d,p,q,r,by rw [z0]⟩
theorem txt_mk{K:Og}{h:VY}{mg:Str->Option VJ}(X:K.In h)(G:h.Ns VP mg)
 {f0 f1 f2 f3 f4 f5 f6 f7 f8 f9 f10 f11 f12 f13 f14 f15 f16 f17 f18 f19 f20 f21 f22 f23 f24 f25 f26 f27 f28 f29 f30 f31 f32 f33 f34 f35 f36 f37 f38 f39 f40 f41 f42 f43 f44 f45 f46 f47 f48 f49 f50 f51 f52 f53 f54 f55 f56 f57 f58 f59 f60 f61 f62 f63 f64 f65:VM}{od0 an0 od1 an1 od2 an2 od3 an3 od4 an4 od5 an5 od6 an6 od7 an7 od8 an8 od9 an9 od10 an10 od11 an11 od12 an12 od13 an13 od14 an14 od15 an15 od16 an16 od17 an17 od18 an18 od19 an19 od20 an20 od21 an21 od22 an22 od23 an23 od24 an24 od25 an25 od26 an26 od27 an27 od28 an28 od29 an29 od30 an30 od31 an31 od32 an32 od33 an33 od34 an34 od35 an35 od36 an36 od37 an37 od38 an38 od39 an39 od40 an40 od41 an41 od42 an42 od43 an43 od44 an44 od45 an45 od46 an46 od47 an47 od48 an48 od49 an49 od50 an50 od51 an51 od52 an52 od53 an53 od54 an54 od55 an55 od56 an56 od57 an57 od58 an58 od59 an59 od60 an60 od61 an61 od62 an62 od63 an63 od64 an64 od65 an65:Option VM}{sl0 sl1 sl2 sl3 sl4 sl5 sl6 sl7 sl8 sl9 sl10 sl11 sl12 sl13 sl14 sl15 sl16 sl17 sl18 sl19 sl20 sl21 sl22 sl23 sl24 sl25 sl26 sl27 sl28 sl29 sl30 sl31 sl32 sl33 sl34 sl35 sl36 sl37 sl38 sl39 sl40 sl41 sl42 sl43 sl44 sl45 sl46 sl47 sl48 sl49 sl50 sl51 sl52 sl53 sl54 sl55 sl56 sl57 sl58 sl59 sl60 sl61 sl62 sl63 sl64 sl65:Array (Option VJ)}{oc0 kV0 dc0 pm0 cd0 ct0 oc1 kV1 dc1 pm1 cd1 ct1 oc2 kV2 dc2 pm2 cd2 ct2 oc3 kV3 dc3 pm3 cd3 ct3 oc4 kV4 dc4 pm4 cd4 ct4 oc5 kV5 dc5 pm5 cd5 ct5 oc6 kV6 dc6 pm6 cd6 ct6 oc7 kV7 dc7 pm7 cd7 ct7 oc8 kV8 dc8 pm8 cd8 ct8 oc9 kV9 dc9 pm9 cd9 ct9 oc10 kV10 dc10 pm10 cd10 ct10 oc11 kV11 dc11 pm11 cd11 ct11 oc12 kV12 dc12 pm12 cd12 ct12 oc13 kV13 dc13 pm13 cd13 ct13 oc14 kV14 dc14 pm14 cd14 ct14 oc15 kV15 dc15 pm15 cd15 ct15 oc16 kV16 dc16 pm16 cd16 ct16 oc17 kV17 dc17 pm17 cd17 ct17 oc18 kV18 dc18 pm18 cd18 ct18 oc19 kV19 dc19 pm19 cd19 ct19 oc20 kV20 dc20 pm20 cd20 ct20 oc21 kV21 dc21 pm21 cd21 ct21 oc22 kV22 dc22 pm22 cd22 ct22 oc23 kV23 dc23 pm23 cd23 ct23 oc24 kV24 dc24 pm24 cd24 ct24 oc25 kV25 dc25 pm25 cd25 ct25 oc26 kV26 dc26 pm26 cd26 ct26 oc27 kV27 dc27 pm27 cd27 ct27 oc28 kV28 dc28 pm28 cd28 ct28 oc29 kV29 dc29 pm29 cd29 ct29 oc30 kV30 dc30 pm30 cd30 ct30 oc31 kV31 dc31 pm31 cd31 ct31 oc32 kV32 dc32 pm32 cd32 ct32 oc33 kV33 dc33 pm33 cd33 ct33 oc34 kV34 dc34 pm34 cd34 ct34 oc35 kV35 dc35 pm35 cd35 ct35 oc36 kV36 dc36 pm36 cd36 ct36 oc37 kV37 dc37 pm37 cd37 ct37 oc38 kV38 dc38 pm38 cd38 ct38 oc39 kV39 dc39 pm39 cd39 ct39 oc40 kV40 dc40 pm40 cd40 ct40 oc41 kV41 dc41 pm41 cd41 ct41 oc42 kV42 dc42 pm42 cd42 ct42 oc43 kV43 dc43 pm43 cd43 ct43 oc44 kV44 dc44 pm44 cd44 ct44 oc45 kV45 dc45 pm45 cd45 ct45 oc46 kV46 dc46 pm46 cd46 ct46 oc47 kV47 dc47 pm47 cd47 ct47 oc48 kV48 dc48 pm48 cd48 ct48 oc49 kV49 dc49 pm49 cd49 ct49 oc50 kV50 dc50 pm50 cd50 ct50 oc51 kV51 dc51 pm51 cd51 ct51 oc52 kV52 dc52 pm52 cd52 ct52 oc53 kV53 dc53 pm53 cd53 ct53 oc54 kV54 dc54 pm54 cd54 ct54 oc55 kV55 dc55 pm55 cd55 ct55 oc56 kV56 dc56 pm56 cd56 ct56 oc57 kV57 dc57 pm57 cd57 ct57 oc58 kV58 dc58 pm58 cd58 ct58 oc59 kV59 dc59 pm59 cd59 ct59 oc60 kV60 dc60 pm60 cd60 ct60 oc61 kV61 dc61 pm61 cd61 ct61 oc62 kV62 dc62 pm62 cd62 ct62 oc63 kV63 dc63 pm63 cd63 ct63 oc64 kV64 dc64 pm64 cd64 ct64 oc65 kV65 dc65 pm65 cd65 ct65:VJ}
 {u_NoPaper u_Paper u_Look u_Round:VM}
 {u_FIRST_YEAR u_ROUND_DAYS u_ROUND_YEARS:VJ}
 {A_MONTH_DAYS:VM}{dd_MONTH_DAYS:Option VM}{its_MONTH_DAYS:Array VJ}{n_MONTH_DAYS:Nat}{sl_MONTH_DAYS:Array (Option VJ)}
 (a0:Ov K VP "is_leap"=some (some (.ref f0)))(l0:K.lookup f0=some ⟨oc0,od0,.func (Oh "is_leap" "is_leap" (av km) (ar km) (ag km) .none kV0 dc0 pm0 an0 cd0 ct0),sl0⟩)(c0:Ow K cd0 "is_leap"=true)(k0:Oo K (.ref f0)=true)
 (a1:Ov K VP "month_length"=some (some (.ref f1)))(l1:K.lookup f1=some ⟨oc1,od1,.func (Oh "month_length" "month_length" (av kn) (ar kn) (ag kn) .none kV1 dc1 pm1 an1 cd1 ct1),sl1⟩)(c1:Ow K cd1 "month_length"=true)(k1:Oo K (.ref f1)=true)
 (a2:Ov K VP "leaps_before"=some (some (.ref f2)))(l2:K.lookup f2=some ⟨oc2,od2,.func (Oh "leaps_before" "leaps_before" (av ko) (ar ko) (ag ko) .none kV2 dc2 pm2 an2 cd2 ct2),sl2⟩)(c2:Ow K cd2 "leaps_before"=true)(k2:Oo K (.ref f2)=true)
 (a3:Ov K VP "year_start"=some (some (.ref f3)))(l3:K.lookup f3=some ⟨oc3,od3,.func (Oh "year_start" "year_start" (av kq) (ar kq) (ag kq) .none kV3 dc3 pm3 an3 cd3 ct3),sl3⟩)(c3:Ow K cd3 "year_start"=true)(k3:Oo K (.ref f3)=true)
 (a4:Ov K VP "year_of"=some (some (.ref f4)))(l4:K.lookup f4=some ⟨oc4,od4,.func (Oh "year_of" "year_of" (av kr) (ar kr) (ag kr) .none kV4 dc4 pm4 an4 cd4 ct4),sl4⟩)(c4:Ow K cd4 "year_of"=true)(k4:Oo K (.ref f4)=true)
 (a5:Ov K VP "parts_of"=some (some (.ref f5)))(l5:K.lookup f5=some ⟨oc5,od5,.func (Oh "parts_of" "parts_of" (av ku) (ar ku) (ag ku) .none kV5 dc5 pm5 an5 cd5 ct5),sl5⟩)(c5:Ow K cd5 "parts_of"=true)(k5:Oo K (.ref f5)=true)
 (a6:Ov K VP "number_of"=some (some (.ref f6)))(l6:K.lookup f6=some ⟨oc6,od6,.func (Oh "number_of" "number_of" (av jg) (ar jg) (ag jg) .none kV6 dc6 pm6 an6 cd6 ct6),sl6⟩)(c6:Ow K cd6 "number_of"=true)(k6:Oo K (.ref f6)=true)
 (a7:Ov K VP "later"=some (some (.ref f7)))(l7:K.lookup f7=some ⟨oc7,od7,.func (Oh "later" "later" (av kx) (ar kx) (ag kx) .none kV7 dc7 pm7 an7 cd7 ct7),sl7⟩)(c7:Ow K cd7 "later"=true)(k7:Oo K (.ref f7)=true)
 (a8:OR K (.ref u_Paper) "__init__"=some (some (.ref f8)))(i8:QG K (.ref f8)=true)(l8:K.lookup f8=some ⟨oc8,od8,.func (Oh "__init__" "Paper.__init__" (av jh) (ar jh) (ag jh) .none kV8 dc8 pm8 an8 cd8 ct8),sl8⟩)(c8:Ow K cd8 "Paper.__init__"=true)(k8:Oo K (.ref f8)=true)
 (a9:Ov K VP "place_of"=some (some (.ref f9)))(l9:K.lookup f9=some ⟨oc9,od9,.func (Oh "place_of" "place_of" (av kz) (ar kz) (ag kz) .none kV9 dc9 pm9 an9 cd9 ct9),sl9⟩)(c9:Ow K cd9 "place_of"=true)(k9:Oo K (.ref f9)=true)
 (a10:Ov K VP "comings"=some (some (.ref f10)))(l10:K.lookup f10=some ⟨oc10,od10,.func (Oh "comings" "comings" (av ji) (ar ji) (ag ji) .none kV10 dc10 pm10 an10 cd10 ct10),sl10⟩)(c10:Ow K cd10 "comings"=true)(k10:Oo K (.ref f10)=true)
 (a11:Ov K VP "coming_of"=some (some (.ref f11)))(l11:K.lookup f11=some ⟨oc11,od11,.func (Oh "coming_of" "coming_of" (av kA) (ar kA) (ag kA) .none kV11 dc11 pm11 an11 cd11 ct11),sl11⟩)(c11:Ow K cd11 "coming_of"=true)(k11:Oo K (.ref f11)=true)
 (a12:Ov K VP "papers"=some (some (.ref f12)))(l12:K.lookup f12=some ⟨oc12,od12,.func (Oh "papers" "papers" (av jj) (ar jj) (ag jj) .none kV12 dc12 pm12 an12 cd12 ct12),sl12⟩)(c12:Ow K cd12 "papers"=true)(k12:Oo K (.ref f12)=true)
 (a13:Ov K VP "maker_comings"=some (some (.ref f13)))(l13:K.lookup f13=some ⟨oc13,od13,.func (Oh "maker_comings" "maker_comings" (av iB) (ar iB) (ag iB) .none kV13 dc13 pm13 an13 cd13 ct13),sl13⟩)(c13:Ow K cd13 "maker_comings"=true)(k13:Oo K (.ref f13)=true)
 (a14:Ov K VP "makers"=some (some (.ref f14)))(l14:K.lookup f14=some ⟨oc14,od14,.func (Oh "makers" "makers" (av jk) (ar jk) (ag jk) .none kV14 dc14 pm14 an14 cd14 ct14),sl14⟩)(c14:Ow K cd14 "makers"=true)(k14:Oo K (.ref f14)=true)
 (a15:Ov K VP "line_of"=some (some (.ref f15)))(l15:K.lookup f15=some ⟨oc15,od15,.func (Oh "line_of" "line_of" (av jm) (ar jm) (ag jm) .none kV15 dc15 pm15 an15 cd15 ct15),sl15⟩)(c15:Ow K cd15 "line_of"=true)(k15:Oo K (.ref f15)=true)
 (a16:Ov K VP "latest"=some (some (.ref f16)))(l16:K.lookup f16=some ⟨oc16,od16,.func (Oh "latest" "latest" (av jn) (ar jn) (ag jn) .none kV16 dc16 pm16 an16 cd16 ct16),sl16⟩)(c16:Ow K cd16 "latest"=true)(k16:Oo K (.ref f16)=true)
 (a17:Ov K VP "rules_on"=some (some (.ref f17)))(l17:K.lookup f17=some ⟨oc17,od17,.func (Oh "rules_on" "rules_on" (av jo) (ar jo) (ag jo) .none kV17 dc17 pm17 an17 cd17 ct17),sl17⟩)(c17:Ow K cd17 "rules_on"=true)(k17:Oo K (.ref f17)=true)
 (a18:Ov K VP "holds_on"=some (some (.ref f18)))(l18:K.lookup f18=some ⟨oc18,od18,.func (Oh "holds_on" "holds_on" (av jq) (ar jq) (ag jq) .none kV18 dc18 pm18 an18 cd18 ct18),sl18⟩)(c18:Ow K cd18 "holds_on"=true)(k18:Oo K (.ref f18)=true)
 (a19:Ov K VP "is_told"=some (some (.ref f19)))(l19:K.lookup f19=some ⟨oc19,od19,.func (Oh "is_told" "is_told" (av kB) (ar kB) (ag kB) .none kV19 dc19 pm19 an19 cd19 ct19),sl19⟩)(c19:Ow K cd19 "is_told"=true)(k19:Oo K (.ref f19)=true)
 (a20:Ov K VP "holding"=some (some (.ref f20)))(l20:K.lookup f20=some ⟨oc20,od20,.func (Oh "holding" "holding" (av jr) (ar jr) (ag jr) .none kV20 dc20 pm20 an20 cd20 ct20),sl20⟩)(c20:Ow K cd20 "holding"=true)(k20:Oo K (.ref f20)=true)
 (a21:Ov K VP "happened"=some (some (.ref f21)))(l21:K.lookup f21=some ⟨oc21,od21,.func (Oh "happened" "happened" (av js) (ar js) (ag js) .none kV21 dc21 pm21 an21 cd21 ct21),sl21⟩)(c21:Ow K cd21 "happened"=true)(k21:Oo K (.ref f21)=true)
 (a22:Ov K VP "base_of"=some (some (.ref f22)))(l22:K.lookup f22=some ⟨oc22,od22,.func (Oh "base_of" "base_of" (av jt) (ar jt) (ag jt) .none kV22 dc22 pm22 an22 cd22 ct22),sl22⟩)(c22:Ow K cd22 "base_of"=true)(k22:Oo K (.ref f22)=true)
 (a23:Ov K VP "reckoned"=some (some (.ref f23)))(l23:K.lookup f23=some ⟨oc23,od23,.func (Oh "reckoned" "reckoned" (av kC) (ar kC) (ag kC) .none kV23 dc23 pm23 an23 cd23 ct23),sl23⟩)(c23:Ow K cd23 "reckoned"=true)(k23:Oo K (.ref f23)=true)
 (a24:Ov K VP "rules_over"=some (some (.ref f24)))(l24:K.lookup f24=some ⟨oc24,od24,.func (Oh "rules_over" "rules_over" (av ju) (ar ju) (ag ju) .none kV24 dc24 pm24 an24 cd24 ct24),sl24⟩)(c24:Ow K cd24 "rules_over"=true)(k24:Oo K (.ref f24)=true)
 (a25:Ov K VP "has_gone"=some (some (.ref f25)))(l25:K.lookup f25=some ⟨oc25,od25,.func (Oh "has_gone" "has_gone" (av kD) (ar kD) (ag kD) .none kV25 dc25 pm25 an25 cd25 ct25),sl25⟩)(c25:Ow K cd25 "has_gone"=true)(k25:Oo K (.ref f25)=true)
 (a26:Ov K VP "staying"=some (some (.ref f26)))(l26:K.lookup f26=some ⟨oc26,od26,.func (Oh "staying" "staying" (av jv) (ar jv) (ag jv) .none kV26 dc26 pm26 an26 cd26 ct26),sl26⟩)(c26:Ow K cd26 "staying"=true)(k26:Oo K (.ref f26)=true)
 (a27:Ov K VP "going"=some (some (.ref f27)))(l27:K.lookup f27=some ⟨oc27,od27,.func (Oh "going" "going" (av jw) (ar jw) (ag jw) .none kV27 dc27 pm27 an27 cd27 ct27),sl27⟩)(c27:Ow K cd27 "going"=true)(k27:Oo K (.ref f27)=true)
 (a28:Ov K VP "leave_rules"=some (some (.ref f28)))(l28:K.lookup f28=some ⟨oc28,od28,.func (Oh "leave_rules" "leave_rules" (av jx) (ar jx) (ag jx) .none kV28 dc28 pm28 an28 cd28 ct28),sl28⟩)(c28:Ow K cd28 "leave_rules"=true)(k28:Oo K (.ref f28)=true)
 (a29:Ov K VP "bases"=some (some (.ref f29)))(l29:K.lookup f29=some ⟨oc29,od29,.func (Oh "bases" "bases" (av kE) (ar kE) (ag kE) .none kV29 dc29 pm29 an29 cd29 ct29),sl29⟩)(c29:Ow K cd29 "bases"=true)(k29:Oo K (.ref f29)=true)
 (a30:Ov K VP "reckonings"=some (some (.ref f30)))(l30:K.lookup f30=some ⟨oc30,od30,.func (Oh "reckonings" "reckonings" (av jy) (ar jy) (ag jy) .none kV30 dc30 pm30 an30 cd30 ct30),sl30⟩)(c30:Ow K cd30 "reckonings"=true)(k30:Oo K (.ref f30)=true)
 (a31:Ov K VP "turning_days"=some (some (.ref f31)))(l31:K.lookup f31=some ⟨oc31,od31,.func (Oh "turning_days" "turning_days" (av iC) (ar iC) (ag iC) .none kV31 dc31 pm31 an31 cd31 ct31),sl31⟩)(c31:Ow K cd31 "turning_days"=true)(k31:Oo K (.ref f31)=true)
 (a32:OR K (.ref u_Look) "__init__"=some (some (.ref f32)))(i32:QG K (.ref f32)=true)(l32:K.lookup f32=some ⟨oc32,od32,.func (Oh "__init__" "Look.__init__" (av kF) (ar kF) (ag kF) .none kV32 dc32 pm32 an32 cd32 ct32),sl32⟩)(c32:Ow K cd32 "Look.__init__"=true)(k32:Oo K (.ref f32)=true)
 (a33:OR K (.ref u_Look) "lets_go"=some (some (.ref f33)))(i33:QG K (.ref f33)=true)(l33:K.lookup f33=some ⟨oc33,od33,.func (Oh "lets_go" "Look.lets_go" (av kG) (ar kG) (ag kG) .none kV33 dc33 pm33 an33 cd33 ct33),sl33⟩)(c33:Ow K cd33 "Look.lets_go"=true)(k33:Oo K (.ref f33)=true)
 (a34:OR K (.ref u_Look) "as_row"=some (some (.ref f34)))(i34:QG K (.ref f34)=true)(l34:K.lookup f34=some ⟨oc34,od34,.func (Oh "as_row" "Look.as_row" (av kH) (ar kH) (ag kH) .none kV34 dc34 pm34 an34 cd34 ct34),sl34⟩)(c34:Ow K cd34 "Look.as_row"=true)(k34:Oo K (.ref f34)=true)
 (a35:OR K (.ref u_Round) "__init__"=some (some (.ref f35)))(i35:QG K (.ref f35)=true)(l35:K.lookup f35=some ⟨oc35,od35,.func (Oh "__init__" "Round.__init__" (av jz) (ar jz) (ag jz) .none kV35 dc35 pm35 an35 cd35 ct35),sl35⟩)(c35:Ow K cd35 "Round.__init__"=true)(k35:Oo K (.ref f35)=true)
 (a36:OR K (.ref u_Round) "mark"=some (some (.ref f36)))(i36:QG K (.ref f36)=true)(l36:K.lookup f36=some ⟨oc36,od36,.func (Oh "mark" "Round.mark" (av kI) (ar kI) (ag kI) .none kV36 dc36 pm36 an36 cd36 ct36),sl36⟩)(c36:Ow K cd36 "Round.mark"=true)(k36:Oo K (.ref f36)=true)
 (a37:OR K (.ref u_Round) "unused"=some (some (.ref f37)))(i37:QG K (.ref f37)=true)(l37:K.lookup f37=some ⟨oc37,od37,.func (Oh "unused" "Round.unused" (av kJ) (ar kJ) (ag kJ) .none kV37 dc37 pm37 an37 cd37 ct37),sl37⟩)(c37:Ow K cd37 "Round.unused"=true)(k37:Oo K (.ref f37)=true)
 (a38:OR K (.ref u_Round) "look"=some (some (.ref f38)))(i38:QG K (.ref f38)=true)(l38:K.lookup f38=some ⟨oc38,od38,.func (Oh "look" "Round.look" (av g8) (ar g8) (ag g8) .none kV38 dc38 pm38 an38 cd38 ct38),sl38⟩)(c38:Ow K cd38 "Round.look"=true)(k38:Oo K (.ref f38)=true)
 (a39:Ov K VP "shelf_of"=some (some (.ref f39)))(l39:K.lookup f39=some ⟨oc39,od39,.func (Oh "shelf_of" "shelf_of" (av jA) (ar jA) (ag jA) .none kV39 dc39 pm39 an39 cd39 ct39),sl39⟩)(c39:Ow K cd39 "shelf_of"=true)(k39:Oo K (.ref f39)=true)
 (a40:Ov K VP "looks_on"=some (some (.ref f40)))(l40:K.lookup f40=some ⟨oc40,od40,.func (Oh "looks_on" "looks_on" (av kK) (ar kK) (ag kK) .none kV40 dc40 pm40 an40 cd40 ct40),sl40⟩)(c40:Ow K cd40 "looks_on"=true)(k40:Oo K (.ref f40)=true)
 (a41:Ov K VP "walk"=some (some (.ref f41)))(l41:K.lookup f41=some ⟨oc41,od41,.func (Oh "walk" "walk" (av kL) (ar kL) (ag kL) .none kV41 dc41 pm41 an41 cd41 ct41),sl41⟩)(c41:Ow K cd41 "walk"=true)(k41:Oo K (.ref f41)=true)
 (a42:Ov K VP "rows_of"=some (some (.ref f42)))(l42:K.lookup f42=some ⟨oc42,od42,.func (Oh "rows_of" "rows_of" (av jB) (ar jB) (ag jB) .none kV42 dc42 pm42 an42 cd42 ct42),sl42⟩)(c42:Ow K cd42 "rows_of"=true)(k42:Oo K (.ref f42)=true)
 (a43:Ov K VP "plan_looks"=some (some (.ref f43)))(l43:K.lookup f43=some ⟨oc43,od43,.func (Oh "plan_looks" "plan_looks" (av kM) (ar kM) (ag kM) .none kV43 dc43 pm43 an43 cd43 ct43),sl43⟩)(c43:Ow K cd43 "plan_looks"=true)(k43:Oo K (.ref f43)=true)
 (a44:Ov K VP "plan"=some (some (.ref f44)))(l44:K.lookup f44=some ⟨oc44,od44,.func (Oh "plan" "plan" (av jC) (ar jC) (ag jC) .none kV44 dc44 pm44 an44 cd44 ct44),sl44⟩)(c44:Ow K cd44 "plan"=true)(k44:Oo K (.ref f44)=true)
 (a45:Ov K VP "days_of"=some (some (.ref f45)))(l45:K.lookup f45=some ⟨oc45,od45,.func (Oh "days_of" "days_of" (av kN) (ar kN) (ag kN) .none kV45 dc45 pm45 an45 cd45 ct45),sl45⟩)(c45:Ow K cd45 "days_of"=true)(k45:Oo K (.ref f45)=true)
 (a46:Ov K VP "there"=some (some (.ref f46)))(l46:K.lookup f46=some ⟨oc46,od46,.func (Oh "there" "there" (av iD) (ar iD) (ag iD) .none kV46 dc46 pm46 an46 cd46 ct46),sl46⟩)(c46:Ow K cd46 "there"=true)(k46:Oo K (.ref f46)=true)
 (a47:Ov K VP "_law_cell"=some (some (.ref f47)))(l47:K.lookup f47=some ⟨oc47,od47,.func (Oh "_law_cell" "_law_cell" (av kO) (ar kO) (ag kO) .none kV47 dc47 pm47 an47 cd47 ct47),sl47⟩)(c47:Ow K cd47 "_law_cell"=true)(k47:Oo K (.ref f47)=true)
 (a48:Ov K VP "_law_numbers"=some (some (.ref f48)))(l48:K.lookup f48=some ⟨oc48,od48,.func (Oh "_law_numbers" "_law_numbers" (av kP) (ar kP) (ag kP) .none kV48 dc48 pm48 an48 cd48 ct48),sl48⟩)(c48:Ow K cd48 "_law_numbers"=true)(k48:Oo K (.ref f48)=true)
 (a49:Ov K VP "_law_pool"=some (some (.ref f49)))(l49:K.lookup f49=some ⟨oc49,od49,.func (Oh "_law_pool" "_law_pool" (av g9) (ar g9) (ag g9) .none kV49 dc49 pm49 an49 cd49 ct49),sl49⟩)(c49:Ow K cd49 "_law_pool"=true)(k49:Oo K (.ref f49)=true)
 (a50:Ov K VP "_law_first"=some (some (.ref f50)))(l50:K.lookup f50=some ⟨oc50,od50,.func (Oh "_law_first" "_law_first" (av kQ) (ar kQ) (ag kQ) .none kV50 dc50 pm50 an50 cd50 ct50),sl50⟩)(c50:Ow K cd50 "_law_first"=true)(k50:Oo K (.ref f50)=true)
 (a51:Ov K VP "_law_lengths"=some (some (.ref f51)))(l51:K.lookup f51=some ⟨oc51,od51,.func (Oh "_law_lengths" "_law_lengths" (av kR) (ar kR) (ag kR) .none kV51 dc51 pm51 an51 cd51 ct51),sl51⟩)(c51:Ow K cd51 "_law_lengths"=true)(k51:Oo K (.ref f51)=true)
 (a52:Ov K VP "_law_day"=some (some (.ref f52)))(l52:K.lookup f52=some ⟨oc52,od52,.func (Oh "_law_day" "_law_day" (av kT) (ar kT) (ag kT) .none kV52 dc52 pm52 an52 cd52 ct52),sl52⟩)(c52:Ow K cd52 "_law_day"=true)(k52:Oo K (.ref f52)=true)
 (a53:Ov K VP "_law_since"=some (some (.ref f53)))(l53:K.lookup f53=some ⟨oc53,od53,.func (Oh "_law_since" "_law_since" (av kU) (ar kU) (ag kU) .none kV53 dc53 pm53 an53 cd53 ct53),sl53⟩)(c53:Ow K cd53 "_law_since"=true)(k53:Oo K (.ref f53)=true)
 (a54:Ov K VP "_law_parts"=some (some (.ref f54)))(l54:K.lookup f54=some ⟨oc54,od54,.func (Oh "_law_parts" "_law_parts" (av kW) (ar kW) (ag kW) .none kV54 dc54 pm54 an54 cd54 ct54),sl54⟩)(c54:Ow K cd54 "_law_parts"=true)(k54:Oo K (.ref f54)=true)
 (a55:Ov K VP "_law_quarrel"=some (some (.ref f55)))(l55:K.lookup f55=some ⟨oc55,od55,.func (Oh "_law_quarrel" "_law_quarrel" (av kX) (ar kX) (ag kX) .none kV55 dc55 pm55 an55 cd55 ct55),sl55⟩)(c55:Ow K cd55 "_law_quarrel"=true)(k55:Oo K (.ref f55)=true)
 (a56:Ov K VP "_law_deed"=some (some (.ref f56)))(l56:K.lookup f56=some ⟨oc56,od56,.func (Oh "_law_deed" "_law_deed" (av jD) (ar jD) (ag jD) .none kV56 dc56 pm56 an56 cd56 ct56),sl56⟩)(c56:Ow K cd56 "_law_deed"=true)(k56:Oo K (.ref f56)=true)
 (a57:Ov K VP "_law_pools"=some (some (.ref f57)))(l57:K.lookup f57=some ⟨oc57,od57,.func (Oh "_law_pools" "_law_pools" (av kY) (ar kY) (ag kY) .none kV57 dc57 pm57 an57 cd57 ct57),sl57⟩)(c57:Ow K cd57 "_law_pools"=true)(k57:Oo K (.ref f57)=true)
 (a58:Ov K VP "_law_sorts"=some (some (.ref f58)))(l58:K.lookup f58=some ⟨oc58,od58,.func (Oh "_law_sorts" "_law_sorts" (av kZ) (ar kZ) (ag kZ) .none kV58 dc58 pm58 an58 cd58 ct58),sl58⟩)(c58:Ow K cd58 "_law_sorts"=true)(k58:Oo K (.ref f58)=true)
 (a59:Ov K VP "_law_deeds"=some (some (.ref f59)))(l59:K.lookup f59=some ⟨oc59,od59,.func (Oh "_law_deeds" "_law_deeds" (av jE) (ar jE) (ag jE) .none kV59 dc59 pm59 an59 cd59 ct59),sl59⟩)(c59:Ow K cd59 "_law_deeds"=true)(k59:Oo K (.ref f59)=true)
 (a60:Ov K VP "_law_row"=some (some (.ref f60)))(l60:K.lookup f60=some ⟨oc60,od60,.func (Oh "_law_row" "_law_row" (av lh) (ar lh) (ag lh) .none kV60 dc60 pm60 an60 cd60 ct60),sl60⟩)(c60:Ow K cd60 "_law_row"=true)(k60:Oo K (.ref f60)=true)
 (a61:Ov K VP "_law_order"=some (some (.ref f61)))(l61:K.lookup f61=some ⟨oc61,od61,.func (Oh "_law_order" "_law_order" (av iE) (ar iE) (ag iE) .none kV61 dc61 pm61 an61 cd61 ct61),sl61⟩)(c61:Ow K cd61 "_law_order"=true)(k61:Oo K (.ref f61)=true)
 (a62:Ov K VP "_law_is"=some (some (.ref f62)))(l62:K.lookup f62=some ⟨oc62,od62,.func (Oh "_law_is" "_law_is" (av jF) (ar jF) (ag jF) .none kV62 dc62 pm62 an62 cd62 ct62),sl62⟩)(c62:Ow K cd62 "_law_is"=true)(k62:Oo K (.ref f62)=true)
 (a63:Ov K VP "_law_far"=some (some (.ref f63)))(l63:K.lookup f63=some ⟨oc63,od63,.func (Oh "_law_far" "_law_far" (av lq) (ar lq) (ag lq) .none kV63 dc63 pm63 an63 cd63 ct63),sl63⟩)(c63:Ow K cd63 "_law_far"=true)(k63:Oo K (.ref f63)=true)
 (a64:Ov K VP "_law_there"=some (some (.ref f64)))(l64:K.lookup f64=some ⟨oc64,od64,.func (Oh "_law_there" "_law_there" (av iF) (ar iF) (ag iF) .none kV64 dc64 pm64 an64 cd64 ct64),sl64⟩)(c64:Ow K cd64 "_law_there"=true)(k64:Oo K (.ref f64)=true)
 (a65:Ov K VP "law"=some (some (.ref f65)))(l65:K.lookup f65=some ⟨oc65,od65,.func (Oh "law" "law" (av gE) (ar gE) (ag gE) .none kV65 dc65 pm65 an65 cd65 ct65),sl65⟩)(c65:Ow K cd65 "law"=true)(k65:Oo K (.ref f65)=true)
 (x_MONTH_DAYS:Ov K VP "MONTH_DAYS"=some (some (.ref A_MONTH_DAYS)))(y_MONTH_DAYS:K.lookup A_MONTH_DAYS=some ⟨.type "tuple",dd_MONTH_DAYS,.seq its_MONTH_DAYS n_MONTH_DAYS,sl_MONTH_DAYS⟩)(z_MONTH_DAYS:aP [V.int 31,V.int 28,V.int 31,V.int 30,V.int 31,V.int 30,V.int 31,V.int 31,V.int 30,V.int 31,V.int 30,V.int 31] its_MONTH_DAYS.toList)(w_MONTH_DAYS:its_MONTH_DAYS.size<=VV)
 (x_FIRST_YEAR:Ov K VP "FIRST_YEAR"=some (some u_FIRST_YEAR))(r_FIRST_YEAR:aO (.int 2000) u_FIRST_YEAR)
 (x_ROUND_DAYS:Ov K VP "ROUND_DAYS"=some (some u_ROUND_DAYS))(r_ROUND_DAYS:aO (.int 146097) u_ROUND_DAYS)
 (x_ROUND_YEARS:Ov K VP "ROUND_YEARS"=some (some u_ROUND_YEARS))(r_ROUND_YEARS:aO (.int 400) u_ROUND_YEARS)
 (x_NoPaper:Ov K VP "NoPaper"=some (some (.ref u_NoPaper)))
 (x_Paper:Ov K VP "Paper"=some (some (.ref u_Paper)))
 (x_Look:Ov K VP "Look"=some (some (.ref u_Look)))
 (x_Round:Ov K VP "Round"=some (some (.ref u_Round)))
 (pg_Paper:Q7 K u_Paper Ut=true)
 (hd_Paper:Rz K u_Paper=true)
 (po_Paper:RX K u_Paper=true)
 (sa_Paper:OR K (.ref u_Paper) "__setattr__"=some (some (.builtin "object.__setattr__")))
 (mk_Paper:Sk K u_Paper=true)
 (kc_Paper:Oo K (.ref u_Paper)=true)
 (na_Paper_name:OR K (.ref u_Paper) "name"=some none)
 (na_Paper_coming:OR K (.ref u_Paper) "coming"=some none)
 (na_Paper_kind:OR K (.ref u_Paper) "kind"=some none)
 (na_Paper_makers:OR K (.ref u_Paper) "makers"=some none)
 (na_Paper_happenings:OR K (.ref u_Paper) "happenings"=some none)
 (pg_Look:Q7 K u_Look Ut=true)
 (hd_Look:Rz K u_Look=true)
 (po_Look:RX K u_Look=true)
 (sa_Look:OR K (.ref u_Look) "__setattr__"=some (some (.builtin "object.__setattr__")))
 (mk_Look:Sk K u_Look=true)
 (kc_Look:Oo K (.ref u_Look)=true)
 (na_Look_day:OR K (.ref u_Look) "day"=some none)
 (na_Look_paper:OR K (.ref u_Look) "paper"=some none)
 (na_Look_to_stay:OR K (.ref u_Look) "to_stay"=some none)
 (na_Look_to_go:OR K (.ref u_Look) "to_go"=some none)
 (na_Look_bars:OR K (.ref u_Look) "bars"=some none)
 (na_Look_leave:OR K (.ref u_Look) "leave"=some none)
 (pg_Round:Q7 K u_Round Ut=true)
 (hd_Round:Rz K u_Round=true)
 (po_Round:RX K u_Round=true)
 (sa_Round:OR K (.ref u_Round) "__setattr__"=some (some (.builtin "object.__setattr__")))
 (mk_Round:Sk K u_Round=true)
 (kc_Round:Oo K (.ref u_Round)=true)
 (na_Round_day:OR K (.ref u_Round) "day"=some none)
 (na_Round_rules:OR K (.ref u_Round) "rules"=some none)
 (na_Round_holds:OR K (.ref u_Round) "holds"=some none)
 (na_Round_leaves:OR K (.ref u_Round) "leaves"=some none)
 (na_Round_gone:OR K (.ref u_Round) "gone"=some none)
 (na_Round_used:OR K (.ref u_Round) "used"=some none)
 (n_abs:Ov K VP "abs"=some none)
 (n_all:Ov K VP "all"=some none)
 (n_any:Ov K VP "any"=some none)
 (n_bool:Ov K VP "bool"=some none)
 (n_enumerate:Ov K VP "enumerate"=some none)
 (n_int:Ov K VP "int"=some none)
 (n_isinstance:Ov K VP "isinstance"=some none)
 (n_len:Ov K VP "len"=some none)
 (n_list:Ov K VP "list"=some none)
 (n_max:Ov K VP "max"=some none)
 (n_min:Ov K VP "min"=some none)
 (n_range:Ov K VP "range"=some none)
 (n_set:Ov K VP "set"=some none)
 (n_sorted:Ov K VP "sorted"=some none)
 (n_str:Ov K VP "str"=some none)
 (n_sum:Ov K VP "sum"=some none)
 (n_tuple:Ov K VP "tuple"=some none):∃t:cz,Txt K mg t:=by
 have F0:=aZ (st:=km) l0 c0 k0;have F1:=aZ (st:=kn) l1 c1 k1;have F2:=aZ (st:=ko) l2 c2 k2;have F3:=aZ (st:=kq) l3 c3 k3;have F4:=aZ (st:=kr) l4 c4 k4;have F5:=aZ (st:=ku) l5 c5 k5;have F6:=aZ (st:=jg) l6 c6 k6;have F7:=aZ (st:=kx) l7 c7 k7;have F8:=aZ (st:=jh) l8 c8 k8;have F9:=aZ (st:=kz) l9 c9 k9;have F10:=aZ (st:=ji) l10 c10 k10;have F11:=aZ (st:=kA) l11 c11 k11;have F12:=aZ (st:=jj) l12 c12 k12;have F13:=aZ (st:=iB) l13 c13 k13;have F14:=aZ (st:=jk) l14 c14 k14;have F15:=aZ (st:=jm) l15 c15 k15;have F16:=aZ (st:=jn) l16 c16 k16;have F17:=aZ (st:=jo) l17 c17 k17;have F18:=aZ (st:=jq) l18 c18 k18;have F19:=aZ (st:=kB) l19 c19 k19;have F20:=aZ (st:=jr) l20 c20 k20;have F21:=aZ (st:=js) l21 c21 k21;have F22:=aZ (st:=jt) l22 c22 k22;have F23:=aZ (st:=kC) l23 c23 k23;have F24:=aZ (st:=ju) l24 c24 k24;have F25:=aZ (st:=kD) l25 c25 k25;have F26:=aZ (st:=jv) l26 c26 k26;have F27:=aZ (st:=jw) l27 c27 k27;have F28:=aZ (st:=jx) l28 c28 k28;have F29:=aZ (st:=kE) l29 c29 k29;have F30:=aZ (st:=jy) l30 c30 k30;have F31:=aZ (st:=iC) l31 c31 k31;have F32:=aZ (st:=kF) l32 c32 k32;have F33:=aZ (st:=kG) l33 c33 k33;have F34:=aZ (st:=kH) l34 c34 k34;have F35:=aZ (st:=jz) l35 c35 k35;have F36:=aZ (st:=kI) l36 c36 k36;have F37:=aZ (st:=kJ) l37 c37 k37;have F38:=aZ (st:=g8) l38 c38 k38;have F39:=aZ (st:=jA) l39 c39 k39;have F40:=aZ (st:=kK) l40 c40 k40;have F41:=aZ (st:=kL) l41 c41 k41;have F42:=aZ (st:=jB) l42 c42 k42;have F43:=aZ (st:=kM) l43 c43 k43;have F44:=aZ (st:=jC) l44 c44 k44;have F45:=aZ (st:=kN) l45 c45 k45
 have F46:=aZ (st:=iD) l46 c46 k46;have F47:=aZ (st:=kO) l47 c47 k47;have F48:=aZ (st:=kP) l48 c48 k48;have F49:=aZ (st:=g9) l49 c49 k49;have F50:=aZ (st:=kQ) l50 c50 k50;have F51:=aZ (st:=kR) l51 c51 k51;have F52:=aZ (st:=kT) l52 c52 k52;have F53:=aZ (st:=kU) l53 c53 k53;have F54:=aZ (st:=kW) l54 c54 k54;have F55:=aZ (st:=kX) l55 c55 k55;have F56:=aZ (st:=jD) l56 c56 k56;have F57:=aZ (st:=kY) l57 c57 k57;have F58:=aZ (st:=kZ) l58 c58 k58;have F59:=aZ (st:=jE) l59 c59 k59;have F60:=aZ (st:=lh) l60 c60 k60;have F61:=aZ (st:=iE) l61 c61 k61;have F62:=aZ (st:=jF) l62 c62 k62;have F63:=aZ (st:=lq) l63 c63 k63;have F64:=aZ (st:=iF) l64 c64 k64;have F65:=aZ (st:=gE) l65 c65 k65;refine⟨⟨f0,Oh "is_leap" "is_leap" (av km) (ar km) (ag km) .none kV0 dc0 pm0 an0 cd0 ct0,f1,Oh "month_length" "month_length" (av kn) (ar kn) (ag kn) .none kV1 dc1 pm1 an1 cd1 ct1,f2,Oh "leaps_before" "leaps_before" (av ko) (ar ko) (ag ko) .none kV2 dc2 pm2 an2 cd2 ct2,f3,Oh "year_start" "year_start" (av kq) (ar kq) (ag kq) .none kV3 dc3 pm3 an3 cd3 ct3,f4,Oh "year_of" "year_of" (av kr) (ar kr) (ag kr) .none kV4 dc4 pm4 an4 cd4 ct4,f5,Oh "parts_of" "parts_of" (av ku) (ar ku) (ag ku) .none kV5 dc5 pm5 an5 cd5 ct5,f6,Oh "number_of" "number_of" (av jg) (ar jg) (ag jg) .none kV6 dc6 pm6 an6 cd6 ct6,f7,Oh "later" "later" (av kx) (ar kx) (ag kx) .none kV7 dc7 pm7 an7 cd7 ct7,f8,Oh "__init__" "Paper.__init__" (av jh) (ar jh) (ag jh) .none kV8 dc8 pm8 an8 cd8 ct8,f9,Oh "place_of" "place_of" (av kz) (ar kz) (ag kz) .none kV9 dc9 pm9 an9 cd9 ct9,f10,Oh "comings" "comings" (av ji) (ar ji) (ag ji) .none kV10 dc10 pm10 an10 cd10 ct10,f11,Oh "coming_of" "coming_of" (av kA) (ar kA) (ag kA) .none kV11 dc11 pm11 an11 cd11 ct11,f12,Oh "papers" "papers" (av jj) (ar jj) (ag jj) .none kV12 dc12 pm12 an12 cd12 ct12,f13,Oh "maker_comings" "maker_comings" (av iB) (ar iB) (ag iB) .none kV13 dc13 pm13 an13 cd13 ct13,f14,Oh "makers" "makers" (av jk) (ar jk) (ag jk) .none kV14 dc14 pm14 an14 cd14 ct14,f15,Oh "line_of" "line_of" (av jm) (ar jm) (ag jm) .none kV15 dc15 pm15 an15 cd15 ct15,f16,Oh "latest" "latest" (av jn) (ar jn) (ag jn) .none kV16 dc16 pm16 an16 cd16 ct16,f17,Oh "rules_on" "rules_on" (av jo) (ar jo) (ag jo) .none kV17 dc17 pm17 an17 cd17 ct17,f18,Oh "holds_on" "holds_on" (av jq) (ar jq) (ag jq) .none kV18 dc18 pm18 an18 cd18 ct18,f19,Oh "is_told" "is_told" (av kB) (ar kB) (ag kB) .none kV19 dc19 pm19 an19 cd19 ct19,f20,Oh "holding" "holding" (av jr) (ar jr) (ag jr) .none kV20 dc20 pm20 an20 cd20 ct20,f21,Oh "happened" "happened" (av js) (ar js) (ag js) .none kV21 dc21 pm21 an21 cd21 ct21,f22,Oh "base_of" "base_of" (av jt) (ar jt) (ag jt) .none kV22 dc22 pm22 an22 cd22 ct22,f23,Oh "reckoned" "reckoned" (av kC) (ar kC) (ag kC) .none kV23 dc23 pm23 an23 cd23 ct23,f24,Oh "rules_over" "rules_over" (av ju) (ar ju) (ag ju) .none kV24 dc24 pm24 an24 cd24 ct24,f25,Oh "has_gone" "has_gone" (av kD) (ar kD) (ag kD) .none kV25 dc25 pm25 an25 cd25 ct25,f26,Oh "staying" "staying" (av jv) (ar jv) (ag jv) .none kV26 dc26 pm26 an26 cd26 ct26,f27,Oh "going" "going" (av jw) (ar jw) (ag jw) .none kV27 dc27 pm27 an27 cd27 ct27,f28,Oh "leave_rules" "leave_rules" (av jx) (ar jx) (ag jx) .none kV28 dc28 pm28 an28 cd28 ct28,f29,Oh "bases" "bases" (av kE) (ar kE) (ag kE) .none kV29 dc29 pm29 an29 cd29 ct29,f30,Oh "reckonings" "reckonings" (av jy) (ar jy) (ag jy) .none kV30 dc30 pm30 an30 cd30 ct30,f31,Oh "turning_days" "turning_days" (av iC) (ar iC) (ag iC) .none kV31 dc31 pm31 an31 cd31 ct31,f32,Oh "__init__" "Look.__init__" (av kF) (ar kF) (ag kF) .none kV32 dc32 pm32 an32 cd32 ct32,f33,Oh "lets_go" "Look.lets_go" (av kG) (ar kG) (ag kG) .none kV33 dc33 pm33 an33 cd33 ct33,f34,Oh "as_row" "Look.as_row" (av kH) (ar kH) (ag kH) .none kV34 dc34 pm34 an34 cd34 ct34,f35,Oh "__init__" "Round.__init__" (av jz) (ar jz) (ag jz) .none kV35 dc35 pm35 an35 cd35 ct35,f36,Oh "mark" "Round.mark" (av kI) (ar kI) (ag kI) .none kV36 dc36 pm36 an36 cd36 ct36,f37,Oh "unused" "Round.unused" (av kJ) (ar kJ) (ag kJ) .none kV37 dc37 pm37 an37 cd37 ct37,f38,Oh "look" "Round.look" (av g8) (ar g8) (ag g8) .none kV38 dc38 pm38 an38 cd38 ct38,f39,Oh "shelf_of" "shelf_of" (av jA) (ar jA) (ag jA) .none kV39 dc39 pm39 an39 cd39 ct39,f40,Oh "looks_on" "looks_on" (av kK) (ar kK) (ag kK) .none kV40 dc40 pm40 an40 cd40 ct40,f41,Oh "walk" "walk" (av kL) (ar kL) (ag kL) .none kV41 dc41 pm41 an41 cd41 ct41,f42,Oh "rows_of" "rows_of" (av jB) (ar jB) (ag jB) .none kV42 dc42 pm42 an42 cd42 ct42,f43,Oh "plan_looks" "plan_looks" (av kM) (ar kM) (ag kM) .none kV43 dc43 pm43 an43 cd43 ct43,f44,Oh "plan" "plan" (av jC) (ar jC) (ag jC) .none kV44 dc44 pm44 an44 cd44 ct44,f45,Oh "days_of" "days_of" (av kN) (ar kN) (ag kN) .none kV45 dc45 pm45 an45 cd45 ct45,f46,Oh "there" "there" (av iD) (ar iD) (ag iD) .none kV46 dc46 pm46 an46 cd46 ct46,f47,Oh "_law_cell" "_law_cell" (av kO) (ar kO) (ag kO) .none kV47 dc47 pm47 an47 cd47 ct47,f48,Oh "_law_numbers" "_law_numbers" (av kP) (ar kP) (ag kP) .none kV48 dc48 pm48 an48 cd48 ct48,f49,Oh "_law_pool" "_law_pool" (av g9) (ar g9) (ag g9) .none kV49 dc49 pm49 an49 cd49 ct49,f50,Oh "_law_first" "_law_first" (av kQ) (ar kQ) (ag kQ) .none kV50 dc50 pm50 an50 cd50 ct50,f51,Oh "_law_lengths" "_law_lengths" (av kR) (ar kR) (ag kR) .none kV51 dc51 pm51 an51 cd51 ct51,f52,Oh "_law_day" "_law_day" (av kT) (ar kT) (ag kT) .none kV52 dc52 pm52 an52 cd52 ct52,f53,Oh "_law_since" "_law_since" (av kU) (ar kU) (ag kU) .none kV53 dc53 pm53 an53 cd53 ct53,f54,Oh "_law_parts" "_law_parts" (av kW) (ar kW) (ag kW) .none kV54 dc54 pm54 an54 cd54 ct54,f55,Oh "_law_quarrel" "_law_quarrel" (av kX) (ar kX) (ag kX) .none kV55 dc55 pm55 an55 cd55 ct55,f56,Oh "_law_deed" "_law_deed" (av jD) (ar jD) (ag jD) .none kV56 dc56 pm56 an56 cd56 ct56,f57,Oh "_law_pools" "_law_pools" (av kY) (ar kY) (ag kY) .none kV57 dc57 pm57 an57 cd57 ct57,f58,Oh "_law_sorts" "_law_sorts" (av kZ) (ar kZ) (ag kZ) .none kV58 dc58 pm58 an58 cd58 ct58,f59,Oh "_law_deeds" "_law_deeds" (av jE) (ar jE) (ag jE) .none kV59 dc59 pm59 an59 cd59 ct59,f60,Oh "_law_row" "_law_row" (av lh) (ar lh) (ag lh) .none kV60 dc60 pm60 an60 cd60 ct60,f61,Oh "_law_order" "_law_order" (av iE) (ar iE) (ag iE) .none kV61 dc61 pm61 an61 cd61 ct61,f62,Oh "_law_is" "_law_is" (av jF) (ar jF) (ag jF) .none kV62 dc62 pm62 an62 cd62 ct62,f63,Oh "_law_far" "_law_far" (av lq) (ar lq) (ag lq) .none kV63 dc63 pm63 an63 cd63 ct63,f64,Oh "_law_there" "_law_there" (av iF) (ar iF) (ag iF) .none kV64 dc64 pm64 an64 cd64 ct64,f65,Oh "law" "law" (av gE) (ar gE) (ag gE) .none kV65 dc65 pm65 an65 cd65 ct65,.ref A_MONTH_DAYS,u_FIRST_YEAR,u_ROUND_DAYS,u_ROUND_YEARS,u_NoPaper,u_Paper,u_Look,u_Round⟩,?_⟩
 exact⟨(F0),
  (Oz X G a0),
  (F0.binds (ps:=["year"]) λ_ _ _ _ _ _ us hl=>by obtain⟨a,rfl⟩:=cY (us:=us) hl;rfl),
  (F1),
  (Oz X G a1),
  (F1.binds (ps:=["year","month"]) λ_ _ _ _ _ _ us hl=>by obtain⟨a,b,rfl⟩:=cF (us:=us) hl;rfl),
  (F2),
  (Oz X G a2),
  (F2.binds (ps:=["year"]) λ_ _ _ _ _ _ us hl=>by obtain⟨a,rfl⟩:=cY (us:=us) hl;rfl),
  (F3),
  (Oz X G a3),
  (F3.binds (ps:=["year"]) λ_ _ _ _ _ _ us hl=>by obtain⟨a,rfl⟩:=cY (us:=us) hl;rfl),
  (F4),
  (Oz X G a4),
  (F4.binds (ps:=["day"]) λ_ _ _ _ _ _ us hl=>by obtain⟨a,rfl⟩:=cY (us:=us) hl;rfl),
  (F5),
  (Oz X G a5),
  (F5.binds (ps:=["day"]) λ_ _ _ _ _ _ us hl=>by obtain⟨a,rfl⟩:=cY (us:=us) hl;rfl),
  (F6),
  (Oz X G a6),
  (F6.binds (ps:=["year","month","day"]) λ_ _ _ _ _ _ us hl=>by obtain⟨a,b,c,rfl⟩:=gF (us:=us) hl;rfl),
  (F7),
  (Oz X G a7),
  (F7.binds (ps:=["day","many","unit"]) λ_ _ _ _ _ _ us hl=>by obtain⟨a,b,c,rfl⟩:=gF (us:=us) hl;rfl),
  (F8),
  (F8.binds (ps:=["self","deeds","name"]) λ_ _ _ _ _ _ us hl=>by obtain⟨a,b,c,rfl⟩:=gF (us:=us) hl;rfl),
  (F9),
  (Oz X G a9),
  (F9.binds (ps:=["deed"]) λ_ _ _ _ _ _ us hl=>by obtain⟨a,rfl⟩:=cY (us:=us) hl;rfl),
  (F10),
  (Oz X G a10),
  (F10.binds (ps:=["deeds"]) λ_ _ _ _ _ _ us hl=>by obtain⟨a,rfl⟩:=cY (us:=us) hl;rfl),
  (F11),
  (Oz X G a11),
  (F11.binds (ps:=["deeds","paper"]) λ_ _ _ _ _ _ us hl=>by obtain⟨a,b,rfl⟩:=cF (us:=us) hl;rfl),
  (F12),
  (Oz X G a12),
  (F12.binds (ps:=["deeds"]) λ_ _ _ _ _ _ us hl=>by obtain⟨a,rfl⟩:=cY (us:=us) hl;rfl),
  (F13),
  (Oz X G a13),
  (F13.binds (ps:=["deeds","coming"]) λ_ _ _ _ _ _ us hl=>by obtain⟨a,b,rfl⟩:=cF (us:=us) hl;rfl),
  (F14),
  (Oz X G a14),
  (F14.binds (ps:=["deeds","paper"]) λ_ _ _ _ _ _ us hl=>by obtain⟨a,b,rfl⟩:=cF (us:=us) hl;rfl),
  (F15),
  (Oz X G a15),
  (F15.binds (ps:=["deeds","paper"]) λ_ _ _ _ _ _ us hl=>by obtain⟨a,b,rfl⟩:=cF (us:=us) hl;rfl),
  (F16),
  (Oz X G a16),
  (F16.binds (ps:=["deeds","words","day"]) λ_ _ _ _ _ _ us hl=>by obtain⟨a,b,c,rfl⟩:=gF (us:=us) hl;rfl),
  (F17),
  (Oz X G a17),
  (F17.binds (ps:=["deeds","day"]) λ_ _ _ _ _ _ us hl=>by obtain⟨a,b,rfl⟩:=cF (us:=us) hl;rfl),
  (F18),
  (Oz X G a18),
  (F18.binds (ps:=["deeds","day"]) λ_ _ _ _ _ _ us hl=>by obtain⟨a,b,rfl⟩:=cF (us:=us) hl;rfl),
  (F19),
  (Oz X G a19),
  (F19.binds (ps:=["target","coming"]) λ_ _ _ _ _ _ us hl=>by obtain⟨a,b,rfl⟩:=cF (us:=us) hl;rfl),
  (F20),
  (Oz X G a20),
  (F20.binds (ps:=["holds","line"]) λ_ _ _ _ _ _ us hl=>by obtain⟨a,b,rfl⟩:=cF (us:=us) hl;rfl),
  (F21),
  (Oz X G a21),
  (F21.binds (ps:=["paper","happening"]) λ_ _ _ _ _ _ us hl=>by obtain⟨a,b,rfl⟩:=cF (us:=us) hl;rfl),
  (F22),
  (Oz X G a22),
  (F22.binds (ps:=["paper","since","day"]) λ_ _ _ _ _ _ us hl=>by obtain⟨a,b,c,rfl⟩:=gF (us:=us) hl;rfl),
  (F23),
  (Oz X G a23),
  (F23.binds (ps:=["paper","parts","day"]) λ_ _ _ _ _ _ us hl=>by obtain⟨a,b,c,rfl⟩:=gF (us:=us) hl;rfl),
  (F24),
  (Oz X G a24),
  (F24.binds (ps:=["paper","rules","day"]) λ_ _ _ _ _ _ us hl=>by obtain⟨a,b,c,rfl⟩:=gF (us:=us) hl;rfl),
  (F25),
  (Oz X G a25),
  (F25.binds (ps:=["gone","paper","day"]) λ_ _ _ _ _ _ us hl=>by obtain⟨a,b,c,rfl⟩:=gF (us:=us) hl;rfl),
  (F26),
  (Oz X G a26),
  (F26.binds (ps:=["paper","rules","day","gone"]) λ_ _ _ _ _ _ us hl=>by obtain⟨a,b,c,d,rfl⟩:=qo (us:=us) hl;rfl),
  (F27),
  (Oz X G a27),
  (F27.binds (ps:=["paper","rules","day","gone"]) λ_ _ _ _ _ _ us hl=>by obtain⟨a,b,c,d,rfl⟩:=qo (us:=us) hl;rfl),
  (F28),
  (Oz X G a28),
  (F28.binds (ps:=["kind","rules"]) λ_ _ _ _ _ _ us hl=>by obtain⟨a,b,rfl⟩:=cF (us:=us) hl;rfl),
  (F29),
  (Oz X G a29),
  (F29.binds (ps:=["since","paper"]) λ_ _ _ _ _ _ us hl=>by obtain⟨a,b,rfl⟩:=cF (us:=us) hl;rfl),
  (F30),
  (Oz X G a30),
  (F30.binds (ps:=["ready","parts"]) λ_ _ _ _ _ _ us hl=>by obtain⟨a,b,rfl⟩:=cF (us:=us) hl;rfl),
  (F31),
  (Oz X G a31),
  (F31.binds (ps:=["deeds"]) λ_ _ _ _ _ _ us hl=>by obtain⟨a,rfl⟩:=cY (us:=us) hl;rfl),
  (F32),
  (F32.binds (ps:=["self","day","paper","to_stay","to_go","bars","leave"]) λ_ _ _ _ _ _ us hl=>by obtain⟨a,b,c,d,p,q,r,rfl⟩:=KU (us:=us) hl;rfl),
  (F33),
  (F33.binds (ps:=["self"]) λ_ _ _ _ _ _ us hl=>by obtain⟨a,rfl⟩:=cY (us:=us) hl;rfl),
  (F34),
  (F34.binds (ps:=["self"]) λ_ _ _ _ _ _ us hl=>by obtain⟨a,rfl⟩:=cY (us:=us) hl;rfl),
  (F35),
  (F35.binds (ps:=["self","deeds","day","done"]) λ_ _ _ _ _ _ us hl=>by obtain⟨a,b,c,d,rfl⟩:=qo (us:=us) hl;rfl),
  (F36),
  (F36.binds (ps:=["self","row"]) λ_ _ _ _ _ _ us hl=>by obtain⟨a,b,rfl⟩:=cF (us:=us) hl;rfl),
  (F37),
  (F37.binds (ps:=["self","kind"]) λ_ _ _ _ _ _ us hl=>by obtain⟨a,b,rfl⟩:=cF (us:=us) hl;rfl),
  (F38),
  (F38.binds (ps:=["self","paper","line"]) λ_ _ _ _ _ _ us hl=>by obtain⟨a,b,c,rfl⟩:=gF (us:=us) hl;rfl),
  (F39),
  (Oz X G a39),
  (F39.binds (ps:=["deeds"]) λ_ _ _ _ _ _ us hl=>by obtain⟨a,rfl⟩:=cY (us:=us) hl;rfl),
  (F40),
  (Oz X G a40),
  (F40.binds (ps:=["deeds","shelf","day","done"]) λ_ _ _ _ _ _ us hl=>by obtain⟨a,b,c,d,rfl⟩:=qo (us:=us) hl;rfl),
  (F41),
  (Oz X G a41),
  (F41.binds (ps:=["deeds","days","done"]) λ_ _ _ _ _ _ us hl=>by obtain⟨a,b,c,rfl⟩:=gF (us:=us) hl;rfl),
  (F42),
  (Oz X G a42),
  (F42.binds (ps:=["looks"]) λ_ _ _ _ _ _ us hl=>by obtain⟨a,rfl⟩:=cY (us:=us) hl;rfl),
  (F43),
  (Oz X G a43),
  (F43.binds (ps:=["deeds"]) λ_ _ _ _ _ _ us hl=>by obtain⟨a,rfl⟩:=cY (us:=us) hl;rfl),
  (F44),
  (Oz X G a44),
  (F44.binds (ps:=["deeds"]) λ_ _ _ _ _ _ us hl=>by obtain⟨a,rfl⟩:=cY (us:=us) hl;rfl),
  (F45),
  (Oz X G a45),
  (F45.binds (ps:=["deeds"]) λ_ _ _ _ _ _ us hl=>by obtain⟨a,rfl⟩:=cY (us:=us) hl;rfl),
  (F46),
  (Oz X G a46),
  (F46.binds (ps:=["deeds","day"]) λ_ _ _ _ _ _ us hl=>by obtain⟨a,b,rfl⟩:=cF (us:=us) hl;rfl),
  (F47),
  (Oz X G a47),
  (F47.binds (ps:=["_law_script","_law_k"]) λ_ _ _ _ _ _ us hl=>by obtain⟨a,b,rfl⟩:=cF (us:=us) hl;rfl),
  (F48),
  (Oz X G a48),
  (F48.binds (ps:=["_law_cell_here","_law_many"]) λ_ _ _ _ _ _ us hl=>by obtain⟨a,b,rfl⟩:=cF (us:=us) hl;rfl),
  (F49),
  (Oz X G a49),
  (F49.binds (ps:=["_law_x","_law_many"]) λ_ _ _ _ _ _ us hl=>by obtain⟨a,b,rfl⟩:=cF (us:=us) hl;rfl),
  (F50),
  (Oz X G a50),
  (F50.binds (ps:=["_law_year"]) λ_ _ _ _ _ _ us hl=>by obtain⟨a,rfl⟩:=cY (us:=us) hl;rfl),
  (F51),
  (Oz X G a51),
  (F51.binds (ps:=["_law_year"]) λ_ _ _ _ _ _ us hl=>by obtain⟨a,rfl⟩:=cY (us:=us) hl;rfl),
  (F52),
  (Oz X G a52),
  (F52.binds (ps:=["_law_x","_law_far_here"]) λ_ _ _ _ _ _ us hl=>by obtain⟨a,b,rfl⟩:=cF (us:=us) hl;rfl),
  (F53),
  (Oz X G a53),
  (F53.binds (ps:=["_law_x","_law_words"]) λ_ _ _ _ _ _ us hl=>by obtain⟨a,b,rfl⟩:=cF (us:=us) hl;rfl),
  (F54),
  (Oz X G a54),
  (F54.binds (ps:=["_law_xs","_law_kinds","_law_words","_law_far_here"]) λ_ _ _ _ _ _ us hl=>by obtain⟨a,b,c,d,rfl⟩:=qo (us:=us) hl;rfl),
  (F55),
  (Oz X G a55),
  (F55.binds (ps:=["_law_one","_law_other"]) λ_ _ _ _ _ _ us hl=>by obtain⟨a,b,rfl⟩:=cF (us:=us) hl;rfl),
  (F56),
  (Oz X G a56),
  (F56.binds (ps:=["_law_sort","_law_xs","_law_pools_here","_law_far_here"]) λ_ _ _ _ _ _ us hl=>by obtain⟨a,b,c,d,rfl⟩:=qo (us:=us) hl;rfl),
  (F57),
  (Oz X G a57),
  (F57.binds (ps:=["_law_x"]) λ_ _ _ _ _ _ us hl=>by obtain⟨a,rfl⟩:=cY (us:=us) hl;rfl),
  (F58),
  (Oz X G a58),
  (F58.binds (ps:=[]) λ_ _ _ _ _ _ us hl=>by cases KQ (us:=us) hl;rfl),
  (F59),
  (Oz X G a59),
  (F59.binds (ps:=["_law_script","_law_at","_law_far_here"]) λ_ _ _ _ _ _ us hl=>by obtain⟨a,b,c,rfl⟩:=gF (us:=us) hl;rfl),
  (F60),
  (Oz X G a60),
  (F60.binds (ps:=["_law_deeds_here","_law_name"]) λ_ _ _ _ _ _ us hl=>by obtain⟨a,b,rfl⟩:=cF (us:=us) hl;rfl),
  (F61),
  (Oz X G a61),
  (F61.binds (ps:=["_law_deeds_here"]) λ_ _ _ _ _ _ us hl=>by obtain⟨a,rfl⟩:=cY (us:=us) hl;rfl),
  (F62),
  (Oz X G a62),
  (F62.binds (ps:=["_law_found","_law_due"]) λ_ _ _ _ _ _ us hl=>by obtain⟨a,b,rfl⟩:=cF (us:=us) hl;rfl),
  (F63),
  (Oz X G a63),
  (F63.binds (ps:=["_law_script","_law_at"]) λ_ _ _ _ _ _ us hl=>by obtain⟨a,b,rfl⟩:=cF (us:=us) hl;rfl),
  (F64),
  (Oz X G a64),
  (F64.binds (ps:=["_law_deeds_here","_law_rows","_law_day_here"]) λ_ _ _ _ _ _ us hl=>by obtain⟨a,b,c,rfl⟩:=gF (us:=us) hl;rfl),
  (F65),
  (Oz X G a65),
  (F65.binds (ps:=["_law_script"]) λ_ _ _ _ _ _ us hl=>by obtain⟨a,rfl⟩:=cY (us:=us) hl;rfl),
  (λs v=>.of_eq rfl),
  (Oz X G x_MONTH_DAYS),
  (⟨A_MONTH_DAYS,rfl,λH=>.inr ⟨_,_,_,y_MONTH_DAYS,rfl,rfl,w_MONTH_DAYS,z_MONTH_DAYS⟩⟩),
  (Oz X G x_FIRST_YEAR),
  (r_FIRST_YEAR),
  (Oz X G x_ROUND_DAYS),
  (r_ROUND_DAYS),
  (Oz X G x_ROUND_YEARS),
  (r_ROUND_YEARS),
  (Oz X G x_NoPaper),
  (Oz X G x_Paper),
  (Oz X G x_Look),
  (Oz X G x_Round),
  (⟨pg_Paper,hd_Paper,po_Paper,sa_Paper⟩),
  (⟨mk_Paper,a8,i8,kc_Paper⟩),
  (na_Paper_name),
  (na_Paper_coming),
  (na_Paper_kind),
  (na_Paper_makers),
  (na_Paper_happenings),
  (⟨pg_Look,hd_Look,po_Look,sa_Look⟩),
  (⟨mk_Look,a32,i32,kc_Look⟩),
  (na_Look_day),
  (na_Look_paper),
  (na_Look_to_stay),
  (na_Look_to_go),
  (na_Look_bars),
  (na_Look_leave),
  (⟨a33,i33,k33⟩),
  (⟨a34,i34,k34⟩),
  (⟨pg_Round,hd_Round,po_Round,sa_Round⟩),
  (⟨mk_Round,a35,i35,kc_Round⟩),
  (na_Round_day),
  (na_Round_rules),
  (na_Round_holds),
  (na_Round_leaves),
  (na_Round_gone),
  (na_Round_used),
  (⟨a36,i36,k36⟩),
  (⟨a37,i37,k37⟩),
  (⟨a38,i38,k38⟩),
  (Pm X G n_abs),
  (Pm X G n_all),
  (Pm X G n_any),
  (Pm X G n_bool),
  (Pm X G n_enumerate),
  (Pm X G n_int),
  (Pm X G n_isinstance),
  (Pm X G n_len),
  (Pm X G n_list),
  (Pm X G n_max),
  (Pm X G n_min),
  (Pm X G n_range),
  (Pm X G n_set),
  (Pm X G n_sorted),
  (Pm X G n_str),
  (Pm X G n_sum),
  (Pm X G n_tuple)⟩
local macro_rules | `(tactic| walk_at "o")=>`(tactic| first | exact T7 rfl | exact SS rfl)
theorem VG{p:Prop}(h:p:=by walk_at "o"):p:=h
local macro_rules | `(tactic| walk_at "d") =>rzT "vq zd zg zf ze sj iQ dh tC qK zk rI ia rU zm zo vF zv tB yS yT yU yX yY yZ zb sH zC qL tU zD zE tJ sh tI G2 G3 G4 G5 G6 G7 G8 G9 jU jV ib L2.start Ol Pw OC Px OL PN PL Pj Qm Qn RL Rq Rm Qe Py Qy Qz P2 exists_eq_left' exists_eq_left exists_and_left exists_and_right V.int.injEq V.bl.injEq V.str.injEq V.ref.injEq Pe and_true true_and RM exists_const decide_eq_true_eq RN RO Rv Rx Qc decide_eq_false_iff_not and_assoc bI QO QE QP L2.cxK L2.cmK or_true true_or"
open Day
theorem Ca:bq (ag jg) ["year","month","day","before"] ["other","year"] 1 [0] ⟨Oq,[ (Of ".0",Xk),(Of "other",Xk),(Of "month_length",OQ),(Of "year",OA)],false,false,[]⟩:=⟨rfl,VB,VB,VB,rfl,VB,VB,VB,rfl⟩
section
variable {P:VW} {w:VX} {K:Og} {mg:Str->Option VJ} {base:VY} {t:cz}
def Cb:Sp:=λvs H Q _=>∃(y:Int),vs=[.int y]/\Q (.bl (iz y)) H
theorem KW(T:Txt K mg t):aD P w K mg base CX0 1 t.a_A t.d_A ["year"] Cb:=by
 refine T.F_A.ok Kl (λvs H Q E h=>?_) (λcdv A outer s H vs Q E hr h=>?_)
 ·obtain⟨y,rfl,_⟩:=h;rfl
 ·obtain⟨y,rfl,k⟩:=h;refine⟨_,(eX (fL (za (tP sE (bM bh (pv 0) bR) bR (aE _)) (vp (y9 (tP sE (bM bh (pv 0) bR) bR (aE _)) (vp (tP FD (bM bh (pv 0) bR) bR (aE _)))))))),?_⟩;walk_at "d";have e:iz y=(decide (y % 400=0) || (decide (y % 4=0) && !decide (y % 100=0))):=rfl;rw [e] at k;by_cases h1:y % 400=0
  ·simpa [h1] using k
  ·by_cases h2:y % 4=0
   ·simpa [h1,h2] using k
   ·simpa [h1,h2] using k
def Cc:Sp:=λvs H Q _=>∃(y m:Int),vs=[.int y,.int m]/\1<=m/\m<=12/\Q (.int (bB y m)) H
theorem xF(T:Txt K mg t):aD P w K mg base CX0 2 t.a_B t.d_B ["year","month"] Cc:=by
 have G_A:=@KW P w _ _ base _ T;refine T.F_B.ok Km (λvs H Q E h=>?_) (λcdv A outer s H vs Q E hr h=>?_)
 ·obtain⟨y,m,rfl,_⟩:=h;rfl
 ·obtain⟨y,m,rfl,h1,h2,k⟩:=h;obtain⟨a,ea,hM⟩:=T.e_MONTH_DAYS;have T_r:aO (.ref a) t.u_MONTH_DAYS:=ea;refine⟨_,(di (qI (PW.pt (yW (oC sE (pv 1) bR (aE _)) (yV (yR (aH G_A (hr.mono VC) rfl T.m_A T.F_A.kp T.b_A .nil aB (bF (pv 0) ck)))))) (eX (fL bR)) qH)
   (eX (fL (jY aF (qG rfl T.c_MONTH_DAYS T_r) (bM eM (pv 1) bR) (λ_ _=>rfl))))),?_⟩
  walk_at "d";simp only [Cb];walk_at "d";have fin:∀{v:Int},v=bB y m->Q (.int v) H:=λe=>by rw [e];exact k
  have tail:bB y m=wU.getD (m - 1).toNat 0->tW K (.ref a) (.int (m - 1)) H Q:=λe=>by
   refine⟨a,_,m - 1,.int (bB y m),rfl,rfl,hM H,?_,k⟩;rw [e];rcases wZ h1 h2 with z | z | z | z | z | z | z | z | z | z | z | z <;> subst z <;> rfl
  by_cases hm:m=2
  ·rw [VF hm];by_cases hl:iz y=true
   ·rw [VF hl];exact fin (by unfold bB;rw [VF ⟨hm,hl⟩])
   ·rw [VE hl];exact tail (by unfold bB;rw [VE (λz=>hl z.2)])
  ·rw [VE hm];exact tail (wX hm)
def Cd:Sp:=λvs H Q _=>∃(y:Int),vs=[.int y]/\Q (.int (lb y)) H
theorem KY(T:Txt K mg t):aD P w K mg base CX0 1 t.a_C t.d_C ["year"] Cd:=by
 refine T.F_C.ok BU (λvs H Q E h=>?_) (λcdv A outer s H vs Q E hr h=>?_)
 ·obtain⟨y,rfl,_⟩:=h;rfl
 ·obtain⟨y,rfl,k⟩:=h;refine⟨_,(di (eJ (i:=1) BU.nd rfl VG (bM eM (pv 0) bR))
   (eX (fL (bM bP (bM eM (bM cT (pv 1) bR) (bM cT (pv 1) bR)) (bM cT (pv 1) bR))))),?_⟩
  walk_at "d";exact k
def uW:Sp:=λvs H Q _=>∃(y:Int),vs=[.int y]/\Q (.int (cv y)) H
theorem xG(T:Txt K mg t):aD P w K mg base CX0 2 t.a_D t.d_D ["year"] uW:=by
 have G_C:=@KY P w _ _ base _ T;refine T.F_D.ok Kn (λvs H Q E h=>?_) (λcdv A outer s H vs Q E hr h=>?_)
 ·obtain⟨y,rfl,_⟩:=h;rfl
 ·obtain⟨y,rfl,k⟩:=h;refine⟨_,(eX (fL (bM eM (bM bP (bM gm bR (bM eM (pv 0) (qG rfl T.c_FIRST_YEAR T.r_FIRST_YEAR))) (aH G_C (hr.mono VC) rfl T.m_C T.F_C.kp T.b_C .nil aB (bF (pv 0) ck))) (aH G_C (hr.mono VC) rfl T.m_C T.F_C.kp T.b_C .nil aB (bF (qG rfl T.c_FIRST_YEAR T.r_FIRST_YEAR) ck))))),?_⟩;walk_at "d";simp only [Cd];walk_at "d";exact k
def Ce:Sp:=λvs H Q _=>∃(d:Int),vs=[.int d]/\Q (.int (ri d)) H
theorem KZ(T:Txt K mg t):aD P w K mg base CX0 3 t.a_E t.d_E ["day"] Ce:=by
 have G_D:=@xG P w _ _ base _ T;refine T.F_E.ok BV (λvs H Q E h=>?_) (λcdv A outer s H vs Q E hr h=>?_)
 ·obtain⟨d,rfl,_⟩:=h;rfl
 ·obtain⟨d,rfl,k⟩:=h;refine⟨_,(di (eJ (i:=1) BV.nd rfl VG (bM bP (qG rfl T.c_FIRST_YEAR T.r_FIRST_YEAR) (bM cT (bM gm (pv 0) (qG rfl T.c_ROUND_YEARS T.r_ROUND_YEARS)) (qG rfl T.c_ROUND_DAYS T.r_ROUND_DAYS))))
   (di (qI (oC iS (aH G_D (hr.mono VC) rfl T.m_D T.F_D.kp T.b_D .nil aB (bF (pv 1) ck)) (pv 0) (aE _)) (eX (fL (bM eM (pv 1) bR))) qH)
   (di (qI (oC jW (aH G_D (hr.mono VC) rfl T.m_D T.F_D.kp T.b_D .nil aB (bF (bM bP (pv 1) bR) ck)) (pv 0) (aE _)) (eX (fL (bM bP (pv 1) bR))) qH)
   (eX (fL (pv 1)))))),?_⟩
  walk_at "d";simp only [uW];walk_at "d";unfold ri at k;split
  ·rename_i h;rw [VF h] at k;exact k
  ·rename_i h;rw [VE h] at k;split
   ·rename_i h;rw [VF h] at k;exact k
   ·rename_i h;rw [VE h] at k;exact k
def K0:Sp:=λvs H Q _=>∃(d:Int),vs=[.int d]/\∀(p:VM)(H':Hp)(y m n:Int),nX d y m n->aw H H'->H p=none->H' p=some (.tup [.int y,.int m,.int n])->Q (.ref p) H'
theorem K1(T:Txt K mg t):aD P w K mg base CX0 4 t.a_F t.d_F ["day"] K0:=by
 have G_E:=@KZ P w _ _ base _ T;have G_D:=@xG P w _ _ base _ T;have G_B:=@xF P w _ _ base _ T;refine T.F_F.ok rn (λvs H Q E h=>?_) (λcdv A outer s H vs Q E hr h=>?_)
 ·obtain⟨d,rfl,_⟩:=h;rfl
 ·obtain⟨d,rfl,k⟩:=h;refine⟨_,(di (eJ (i:=1) rn.nd rfl VG (aH G_E (hr.mono VC) rfl T.m_E T.F_E.kp T.b_E .nil aB (bF (pv 0) ck)))
   (di (eJ (i:=2) rn.nd rfl VG (bM eM (pv 0) (aH G_D (hr.mono VC) rfl T.m_D T.F_D.kp T.b_D .nil aB (bF (pv 1) ck))))
   (di (eJ (i:=3) rn.nd rfl VG bR)
   (di (zh Pk (oC zu (pv 2) (aH G_B (hr.mono VC) rfl T.m_B T.F_B.kp T.b_B .nil aB (bF (pv 1) (bF (pv 3) ck))) (aE _)) (di (eJ (i:=2) rn.nd rfl VG (bM eM (pv 2) (aH G_B (hr.mono VC) rfl T.m_B T.F_B.kp T.b_B .nil aB (bF (pv 1) (bF (pv 3) ck)))))
   (eX (eJ (i:=3) rn.nd rfl VG (bM bP (pv 3) bR)))))
   (eX (fL (zF (bF (pv 1) (bF (pv 3) (bF (bM bP (pv 2) bR) ck)))))))))),?_⟩
  walk_at "d";simp only [Ce];walk_at "d";simp only [uW];walk_at "d";have yo:=J0 d;generalize ri d=y at*;refine⟨λm σ H'=>H'=H/\∃mo:Int,1<=mo/\mo<=12/\aY y mo<=d - cv y/\m=(12 - mo).toNat/\σ=[some (.int d),some (.int y),some (.int (d - cv y - aY y mo)),some (.int mo)],⟨11,rfl,1,VC,VC,?_,rfl,?_⟩,?_⟩
  ·rw [xa];omega
  ·rw [xa];simp
  ·rintro m σ H' ⟨rfl,mo,h1,h2,hb,rfl,rfl⟩;walk_at "d";simp only [Cc];walk_at "d";refine⟨h1,h2,?_⟩;have ys:=BC y;have ba:=BF (y:=y) h1 h2;split
   ·rename_i hge;have lt12:mo < 12:=by
     by_cases z:mo < 12
     ·exact z
     ·have e:mo=12:=VD
      subst e;have:=(xb y);have:=wY y;omega
    refine⟨_,λ_ _ h=>h,h1,h2,(12 - (mo+1)).toNat,VD,rfl,mo+1,VD,VD,?_,rfl,?_⟩
    ·rw [eT h1];omega
    ·rw [eT h1,show d - cv y - (aY y mo+bB y mo)=d - cv y - aY y mo - bB y mo by omega]
   ·rename_i hlt;refine⟨by show 3<=VV;decide,λp hp=>?_⟩;refine k p _ y mo (d - cv y - aY y mo+1) ⟨h1,h2,VD,VD,by unfold p8;omega⟩ (aw.new hp) hp bA
def K2:Sp:=λvs H Q _=>∃(y m n:Int),vs=[.int y,.int m,.int n]/\1<=m/\m<=12/\∀H',aw H H'->Q (.int (p8 y m n)) H'
theorem K3(T:Txt K mg t):aD P w K mg base CX0 3 t.a_G t.d_G ["year","month","day"] K2:=by
 have G_D:=@xG P w _ _ base _ T;have G_B:=@xF P w _ _ base _ T;refine T.F_G.ok BW (λvs H Q E h=>?_) (λcdv A outer s H vs Q E hr h=>?_)
 ·obtain⟨y,m,n,rfl,_⟩:=h;rfl
 ·obtain⟨y,m,n,rfl,h1,h2,k⟩:=h;refine⟨_,(di (eJ (i:=3) BW.nd rfl VG (bV (z5 rfl) rfl T.n_sum Ub (bF (tZ rfl Ca (Fv rfl T.n_range (bF bR (bF (pv 1) ck))) (λ_ _ _ _=>(aM (i:=0) Ca.nd rfl VG)) (λ_ _ _ _=>z3) (λ_ _ _ _=>(aH G_B (hr.mono VC) rfl T.m_B T.F_B.kp T.b_B .nil aB (bF (pv 1) (bF (pv 0) ck))))) ck)))
   (eX (fL (bM eM (bM bP (bM bP (aH G_D (hr.mono VC) rfl T.m_D T.F_D.kp T.b_D .nil aB (bF (pv 0) ck)) (pv 3)) (pv 2)) bR)))),?_⟩
  walk_at "d";refine⟨VD,VD,?_⟩;refine Ha (λi=>.int (bB y (1+(i:Int)))) VD (λi H' R hi s1 hR=>?_) (λD H' hD s1 e1=>?_)
  ·walk_at "d";exact⟨_,_,rfl,VD,VD,hR H' (aw.refl _)⟩
  ·refine⟨D,rfl,(P7 (m - 1).toNat).map λ(i:Nat)=>bB y (1+(i:Int)),bu.of (by rw [e1,OI];rfl),?_⟩;simp only [uW];walk_at "d";exact k H' s1
def oj(u:Str):Prop:=u="days"\/u="months"\/u="years"
def qp(d k:Int)(u:Str)(r:Int):Prop:=(u="days"/\r=d+k)\/(u="months"/\∃y m n,nX d y m n/\r=uM y m n k)\/(u="years"/\∃y m n,nX d y m n/\r=uM y m n (k*12))
theorem Cf:¬(("months":Str)="days"):=VB
theorem Cg:¬(("years":Str)="days"):=VB
theorem Ci:¬(("months":Str)="years"):=VB
def K4:Sp:=λvs H Q _=>∃(d k:Int)(u:Str),vs=[.int d,.int k,.str u]/\oj u/\∀r H',qp d k u r->aw H H'->Q (.int r) H'
theorem K5(T:Txt K mg t):aD P w K mg base CX0 5 t.a_H t.d_H ["day","many","unit"] K4:=by
 have G_F:=@K1 P w _ _ base _ T;have G_B:=@xF P w _ _ base _ T;have G_G:=@K3 P w _ _ base _ T;refine T.F_H.ok ro (λvs H Q E h=>?_) (λcdv A outer s H vs Q E hr h=>?_)
 ·obtain⟨d,k,u,rfl,_⟩:=h;rfl
 ·obtain⟨d,mk,u,rfl,hu,k⟩:=h;refine⟨_,(di (qI (oC sE (pv 2) vo (aE _)) (eX (fL (bM bP (pv 0) (pv 1)))) qH)
   (di (eJ (i:=3) ro.nd rfl VG (zc (oC sE (pv 2) vo (aE _)) (bM gm (pv 1) bR) (pv 1)))
   (di (eJ (i:=4) ro.nd rfl VG (aH G_F (hr.mono VC) rfl T.m_F T.F_F.kp T.b_F .nil aB (bF (pv 0) ck)))
   (di (eJ (i:=5) ro.nd rfl VG (bM bP (bM eM (bM bP (bM gm (jY aF (pv 4) bR (λ_ _=>rfl)) bR) (jY aF (pv 4) bR (λ_ _=>rfl))) bR) (pv 3)))
   (di (eJ (i:=6) ro.nd rfl VG (bM cT (pv 5) bR))
   (di (eJ (i:=7) ro.nd rfl VG (bM bP (bM bh (pv 5) bR) bR))
   (eX (fL (aH G_G (hr.mono VC) rfl T.m_G T.F_G.kp T.b_G .nil aB (bF (pv 6) (bF (pv 7) (bF (bV (FJ rfl) rfl T.n_min Vy (bF (jY aF (pv 4) bR (λ_ _=>rfl)) (bF (aH G_B (hr.mono VC) rfl T.m_B T.F_B.kp T.b_B .nil aB (bF (pv 6) (bF (pv 7) ck))) ck))) ck)))))))))))),?_⟩
  walk_at "d";by_cases hd:u="days"
  ·rw [VF hd];exact k _ H (.inl ⟨hd,rfl⟩) (aw.refl _)
  ·rw [VE hd];by_cases hy:u="years"
   ·rw [VF hy];refine⟨d,rfl,λp H' y m n D s1 _ e1=>?_⟩;refine iV (bC.of e1) rfl ⟨y,rfl,iV (bC.of e1) rfl ⟨m,rfl,iV (bC.of e1) rfl ?_⟩⟩;refine⟨_,_,rfl,VD,VD,n,rfl,_,rfl,_,_,_,rfl,VD,VD,λH2 s2=>?_⟩;exact k _ H2 (.inr (.inr ⟨hy,y,m,n,D,by unfold uM;rw [z7]⟩)) (s1.trans s2)
   ·rw [VE hy];have hm:u="months":=by rcases hu with z | z | z;exact absurd z hd;exact z;exact absurd z hy
    refine⟨d,rfl,λp H' y m n D s1 _ e1=>?_⟩;refine iV (bC.of e1) rfl ⟨y,rfl,iV (bC.of e1) rfl ⟨m,rfl,iV (bC.of e1) rfl ?_⟩⟩;refine⟨_,_,rfl,VD,VD,n,rfl,_,rfl,_,_,_,rfl,VD,VD,λH2 s2=>?_⟩;exact k _ H2 (.inr (.inl ⟨hm,y,m,n,D,by unfold uM;rw [z7]⟩)) (s1.trans s2)
def F_H:List VI->(VI->Prop)->Prop:=λds Q=>∃(d i:Int)(u:Str),ds=[.int d,.int i,.str u]/\oj u/\∀r,qp d i u r->Q (.int r)
theorem Cj(T:Txt K mg t):aD P w K mg base CX0 5 t.a_H t.d_H ["day","many","unit"] (aW K F_H):=
 (K5 T).imp λvs H Q E uu69=>by
  obtain⟨O,ds,Qd,tr,hs,⟨d,i,u,e,hu,q⟩,k⟩:=uu69;subst e;cases hs with
  | cons a r=>cases r with
   | cons b r=>cases r with
    | cons c r=>cases r;cases a;cases b;cases c;exact⟨d,i,u,rfl,hu,λz H' L s1=>k _ _ H' (q z L) s1 (.int _)⟩
theorem K6{d k:Int}{u:Str}{r r':Int}(h:qp d k u r)(h':qp d k u r'):r=r':=by
 rcases h with⟨e,h⟩ | ⟨e,y,m,n,D,h⟩ | ⟨e,y,m,n,D,h⟩ <;> rcases h' with⟨e',h'⟩ | ⟨e',y',m',n',D',h'⟩ | ⟨e',y',m',n',D',h'⟩
 ·rw [h,h']
 ·exact absurd (e'.symm.trans e) Cf
 ·exact absurd (e'.symm.trans e) Cg
 ·exact absurd (e.symm.trans e') Cf
 ·obtain⟨rfl,rfl,rfl⟩:=D.uniq D';rw [h,h']
 ·exact absurd (e.symm.trans e') Ci
 ·exact absurd (e.symm.trans e') Cg
 ·exact absurd (e'.symm.trans e) Ci
 ·obtain⟨rfl,rfl,rfl⟩:=D.uniq D';rw [h,h']
end
structure Pp where
 d:Int
 nm:Str
 kd:Str
 ms:List Str
def Pp.enc(p:Pp):VI:= .tuple [.str (Od "paper"),.int p.d,.str p.nm,.str p.kd,.tuple (p.ms.map .str)]
def Pp.key(p:Pp):Int×Str:=(p.d,p.nm)
def gG:VI->Int×Str
 | .tuple (_:: .int d:: .str n::_)=>(d,n)
 | _=>(0,Od "")
def Pp.lt(a b:Pp):Prop:=bp a.key b.key=true
instance (a b:Pp):Decidable (a.lt b):=by unfold Pp.lt;infer_instance
theorem K7(p:Int×Str):bp p p=false:=by unfold bp;simp [List.lt_irrefl]
theorem Ck{a b c:Int×Str}(h1:bp a b=true)(h2:bp b c=true):bp a c=true:=by
 unfold bp at h1 h2⊢;simp only [Su,Pz,decide_eq_true_eq] at h1 h2⊢;rcases h1 with h1 | ⟨h1,h1'⟩ <;> rcases h2 with h2 | ⟨h2,h2'⟩
 ·left;omega
 ·left;omega
 ·left;omega
 ·right;exact⟨h1.trans h2,Vh h1' h2'⟩
theorem sY{a b:Int×Str}(h:bp a b=true):¬bp b a=true:=λz=>by
 have:=Ck h z;rw [K7] at this;cases this
theorem K8{a b:Int×Str}(h:a≠b):bp a b=true\/bp b a=true:=by
 have T:=Bh (n:=2) (kp:=λi=>if i=0 then a else b) (λi j hi hj e=>by
  have:i=0\/i=1:=VD
  have:j=0\/j=1:=VD
  rcases ‹i=0\/i=1› with rfl | rfl <;> rcases ‹j=0\/j=1› with rfl | rfl
  ·rfl
  ·exact absurd e h
  ·exact absurd e.symm h
  ·rfl)
 have:=T.tot 0 1 VD VD VD;simp at this;cases hb:bp b a with
 | true=>exact .inr rfl
 | false=>rw [hb] at this;exact .inl (by simpa using this)
theorem Pp.lt_tr{a b c:Pp}(h1:a.lt b)(h2:b.lt c):a.lt c:=Ck h1 h2
theorem lz{α:Type}{r:α->α->Prop}(as:∀a b,r a b->¬r b a):∀{l1 l2:List α},l1.Perm l2->l1.Pairwise r->l2.Pairwise r->l1=l2
 | [],l2,p,_,_=>by rw [p.nil_eq]
 | a::l1,[],p,_,_=>by have:=p.length_eq;simp at this
 | a::l1,b::l2,p,h1,h2=>by
  have e:a=b:=by
   have m1:a∈b::l2:=p.mem_iff.mp VH;have m2:b∈a::l1:=p.mem_iff.mpr VH;rcases Ox.mp m1 with e | m1
   ·exact e
   ·rcases Ox.mp m2 with e | m2
    ·exact e.symm
    ·exact absurd ((P5.mp h1).1 b m2) (as _ _ ((P5.mp h2).1 a m1))
  subst e;rw [lz as ((List.perm_cons a).mp p) (P5.mp h1).2 (P5.mp h2).2]
def rH(x:Pp):List Pp->List Pp
 | []=>[x]
 | y::l=>if x.lt y then x::y::l else y::rH x l
def bE(ps:List Pp):List Pp:=ps.foldr rH []
theorem xH(x:Pp):∀l,(rH x l).Perm (x::l)
 | []=>.refl _
 | y::l=>by
  unfold rH;split
  ·exact .refl _
  ·exact((xH x l).cons y).trans (.swap x y l)
theorem iG:∀ps:List Pp,(bE ps).Perm ps
 | []=>.refl _
 | x::ps=>(xH x (bE ps)).trans ((iG ps).cons x)
theorem Cm{x:Pp}:∀{l:List Pp},(∀y∈l,y.nm≠x.nm)->l.Pairwise Pp.lt->(rH x l).Pairwise Pp.lt
 | [],_,_=>TY _ _
 | y::l,hn,h=>by
  have hp:=P5.mp h;unfold rH;split
  ·rename_i hl;refine P5.mpr ⟨λz hz=>?_,h⟩;rcases Ox.mp hz with e | e
   ·subst e;exact hl
   ·exact Pp.lt_tr hl (hp.1 z e)
  ·rename_i hl;refine P5.mpr ⟨λz hz=>?_,Cm (λz hz=>hn z (by simp [hz])) hp.2⟩;rcases Ox.mp ((xH x l).mem_iff.mp hz) with e | e
   ·subst e;rcases K8 (a:=y.key) (b:=z.key) (λz=>hn y VH (congrArg Prod.snd z)) with w | w
    ·exact w
    ·exact absurd w hl
   ·exact hp.1 z e
theorem rJ:∀{ps:List Pp},(ps.map (·.nm)).Nodup->(bE ps).Pairwise Pp.lt
 | [],_=>.nil
 | x::ps,h=>by
  rw [Ol,P6] at h;exact Cm (λy hy e=>h.1 (by rw [<-e];exact OE.mpr ⟨y,(iG ps).mem_iff.mp hy,rfl⟩)) (rJ h.2)
theorem jG{ps:List Pp}{x:Pp}:x∈bE ps↔x∈ps:=(iG ps).mem_iff
theorem fG{ps:List Pp}:(bE ps).length=ps.length:=(iG ps).length_eq
theorem Pp.asym(a b:Pp)(h:a.lt b):¬b.lt a:=sY h
theorem K9{ps os:List Pp}(nd:(ps.map (·.nm)).Nodup)(hp:os.Perm ps)(hs:os.Pairwise Pp.lt):os=bE ps:=
 lz Pp.asym (hp.trans (iG ps).symm) hs (rJ nd)
theorem xI{ps:List Pp}{f:Pp->Bool}(nd:(ps.map (·.nm)).Nodup):((ps.filter f).map (·.nm)).Nodup:=nd.sublist (Sj.map _)
theorem Cn{ps:List Pp}{f:Pp->Bool}(nd:(ps.map (·.nm)).Nodup):bE (ps.filter f)=(bE ps).filter f:=
 (K9 (xI nd) ((iG ps).filter f) ((rJ nd).sublist Sj)).symm
theorem La{ps:List Pp}{ds:List VI}(nd:(ps.map (·.nm)).Nodup)(hp:ds.Perm (ps.map Pp.enc))(hs:ds.Pairwise λa b=>bp (gG a) (gG b)=true):ds=(bE ps).map Pp.enc:=by
 refine lz (λa b h=>sY h) (hp.trans ((iG ps).symm.map _)) hs ?_;rw [PK];exact rJ nd
theorem Lb{ps:List Pp}{ds:List (Int×Str)}(nd:(ps.map (·.nm)).Nodup)(hp:ds.Perm (ps.map Pp.key))(hs:ds.Pairwise λa b=>bp a b=true):ds=(bE ps).map Pp.key:=by
 refine lz (λa b h=>sY h) (hp.trans ((iG ps).symm.map _)) hs ?_;rw [PK];exact rJ nd
theorem Co{ps:List Pp}(nd:(ps.map (·.nm)).Nodup){a b:Pp}(ha:a∈ps)(hb:b∈ps)(e:a.nm=b.nm):a=b:=by
 induction ps with
 | nil=>cases ha
 | cons x ps ih=>
  rw [Ol,P6] at nd;rcases Ox.mp ha with ea | ha1 <;> rcases Ox.mp hb with eb | hb1
  ·rw [ea,eb]
  ·subst ea;exact absurd (OE.mpr ⟨b,hb1,e.symm⟩) nd.1
  ·subst eb;exact absurd (OE.mpr ⟨a,ha1,e⟩) nd.1
  ·exact ih nd.2 ha1 hb1
structure om (ps:List Pp):Prop where
 ln:ps.length<=41
 nd:(ps.map (·.nm)).Nodup
 nm:∀p∈ps,Om p.nm=true
 kd:∀p∈ps,Om p.kd=true
 ms:∀p∈ps,(∀m∈p.ms,Om m=true)/\p.ms.length<=50
theorem om.filter{ps:List Pp}(g:om ps)(f:Pp->Bool):om (ps.filter f):=
 ⟨O7 (O8 _ _) g.ln,xI g.nd,λp hp=>g.nm p (Po.mp hp).1,λp hp=>g.kd p (Po.mp hp).1,λp hp=>g.ms p (Po.mp hp).1⟩
def xJ(c p:Pp):Bool:=c.ms.contains p.nm && bp p.key c.key
def hG(ps:List Pp)(c:Pp):List Pp:=(bE ps).filter (xJ c)
inductive De where
 | pap (p:Pp)
 | oth (w:Str) (d:Int) (nm:Str) (r:List VI)
def De.enc:De->VI
 | .pap p=>p.enc
 | .oth w d nm r=>.tuple (.str w:: .int d:: .str nm::r)
def De.w:De->Str
 | .pap _=>Od "paper"
 | .oth w _ _ _=>w
def De.d:De->Int
 | .pap p=>p.d
 | .oth _ d _ _=>d
def De.nm:De->Str
 | .pap p=>p.nm
 | .oth _ _ nm _=>nm
def De.pp:De->Option Pp
 | .pap p=>some p
 | _=>none
def aI(xs:List De):List Pp:=xs.filterMap De.pp
structure iH (xs:List De):Prop where
 gp:om (aI xs)
 np:∀w d nm r,De.oth w d nm r∈xs->w≠Od "paper"
 ln:xs.length<=41
 w:∀x∈xs,Om x.w=true
 nm:∀x∈xs,Om x.nm=true
theorem xK{xs:List De}{p:Pp}:p∈aI xs↔De.pap p∈xs:=by
 unfold aI;rw [RT];constructor
 ·rintro⟨x,hx,e⟩;cases x with
  | pap q=>cases e;exact hx
  | oth w d nm r=>cases e
 ·intro h;exact⟨_,h,rfl⟩
theorem Cp(ps:List Pp):aI (ps.map De.pap)=ps:=by
 unfold aI;rw [Ux];exact List.filterMap_some
theorem Lc(ps:List Pp):ps.map Pp.enc=(ps.map De.pap).map De.enc:=by rw [OI];rfl
theorem xM:Om (Od "paper")=true:=VB
theorem iH.of{ps:List Pp}(g:om ps):iH (ps.map De.pap):=by
 refine⟨by rw [Cp];exact g,λw d nm r h=>?_,by rw [Oe];exact g.ln,λx hx=>?_,λx hx=>?_⟩
 ·obtain⟨p,_,e⟩:=OE.mp h;cases e
 ·obtain⟨p,_,rfl⟩:=OE.mp hx;exact xM
 ·obtain⟨p,hp,rfl⟩:=OE.mp hx;exact g.nm p hp
local macro_rules | `(tactic| walk_at "z") =>do let a <- rzT "fh Ol Pw OC Px Qm Qn OL PN PL"; let b <- rzT rzS; `(tactic| ((try $a:tactic); $b:tactic))
theorem Cq:bq (ag ji) ["deeds"] ["deed"] 1 [] ⟨Oq,[(Of ".0",Xk),(Of "deed",Xk)],false,false,[]⟩:=⟨rfl,VB,VB,VB,rfl,VB,VB,VB,rfl⟩
theorem Cr:bq (ag jj) ["deeds"] ["deed"] 1 [] ⟨Oq,[(Of ".0",Xk),(Of "deed",Xk)],false,false,[]⟩:=⟨rfl,VB,VB,VB,rfl,VB,VB,VB,rfl⟩
theorem Cs:bq (ag iB) ["deeds","coming","named"] ["deed","coming"] 1 [1] ⟨Oq,[ (Of ".0",Xk),(Of "deed",Xk),(Of "coming",OA)],false,false,[]⟩:=⟨rfl,VB,VB,VB,rfl,VB,VB,VB,rfl⟩
theorem Ct:bq (ag iB) ["deeds","coming","named"] ["deed","coming"] 1 [1] ⟨Oq,[ (Of ".0",Xk),(Of "deed",Xk),(Of "place_of",OQ),(Of "coming",OA)],false,false,[]⟩:=⟨rfl,VB,VB,VB,rfl,VB,VB,VB,rfl⟩
theorem Cu:bq (ag jk) ["deeds","paper"] ["deed"] 1 [] ⟨Oq,[(Of ".0",Xk),(Of "deed",Xk)],false,false,[]⟩:=⟨rfl,VB,VB,VB,rfl,VB,VB,VB,rfl⟩
section
variable {P:VW} {w:VX} {K:Og} {mg:Str->Option VJ} {base:VY} {t:cz}
theorem cZ{α:Type}{enc:α->VI}{g:DG}{tc:DB}{te:DT}{δ0:Dl}{xs:List α}{Q:List VI->Prop}(p:α->Bool)(f:α->VI)
 (h:∀x∈xs,∀(R:VI->Prop) (S:Prop),(if p x=true then R (f x) else S)->g (enc x) δ0 λδ2=>tc δ2 λok=>if ok=true then te δ2 R else S)(q:Q ((xs.filter p).map f)):iw g tc te δ0 (xs.map enc) Q:=by
 refine⟨λi acc=>acc=((xs.take i).filter p).map f,rfl,?_,?_⟩
 ·rintro i z acc hz rfl;rw [OD] at hz;cases hz':xs[i]? with
  | none=>rw [hz'] at hz;cases hz
  | some x=>
   rw [hz'] at hz;cases hz;refine h x (O4 hz') (λy=>((xs.take i).filter p).map f++[y]=((xs.take (i+1)).filter p).map f) (((xs.take i).filter p).map f=((xs.take (i+1)).filter p).map f) ?_;rw [Pd,hz'];by_cases e:p x=true
   ·rw [VF e];simp [e]
   ·rw [VE e];simp [e]
 ·rintro acc rfl;rw [Oe,OZ (Oi _)];exact q
theorem iI{α:Type}{enc:α->VI}{g:DG}{tc:DB}{te:DT}{δ0:Dl}{xs:List α}{Q:List VI->Prop}(p:α->Bool)(f:α->VI)
 (h:∀x∈xs,∀(R:VI->Prop) (S:Prop),(p x=true->R (f x))->(p x=false->S)->g (enc x) δ0 λδ2=>tc δ2 λok=>if ok=true then te δ2 R else S)(q:Q ((xs.filter p).map f)):iw g tc te δ0 (xs.map enc) Q:=
 cZ p f (λx hx R S z=>h x hx R S (λe=>by rw [VF e] at z;exact z) (λe=>by rw [VE (by rw [e];exact Ot)] at z;exact z)) q
theorem fZ{α:Type}(l:List α):l.filter (λ_=>true)=l:=List.filter_eq_self.mpr λ_ _=>rfl
theorem bS{a b:Str}(h:a≠b):(a==b)=false:=by simpa using h
theorem Ld{ws:List Str}{w:Str}:((ws.map Oj).any λd=>OP d (.str w))=ws.contains w:=by
 induction ws with
 | nil=>rfl
 | cons a ws ih=>
  rw [Ol,PQ,ih,d8,Tc];congr 1;by_cases h:a=w
  ·simp [h]
  ·rw [bS h,bS (Ne.symm h)]
theorem Le{ms:List Str}(h:∀m∈ms,Om m=true):Qb (ms.map .str)=true:=(uk (n:=1) (wt h)).1
def fH(f:Pp->Bool):De->Bool
 | .pap p=>f p
 | _=>false
theorem rK{f:Pp->Bool}:∀xs:List De,(xs.filter (fH f)).map De.enc=((aI xs).filter f).map Pp.enc
 | []=>rfl
 | .pap p::xs=>by
  have ih:=rK (f:=f) xs;show _=(QV f (p::aI xs)).map Pp.enc;rw [Pb,Pb];by_cases h:f p=true
  ·rw [VF h,VF (show fH f (.pap p)=true from h),Ol,Ol,ih];rfl
  ·rw [VE h,VE (show ¬fH f (.pap p)=true from h),ih]
 | .oth w d nm r::xs=>by
  have ih:=rK (f:=f) xs;show _=(QV f (aI xs)).map Pp.enc;rw [Pb,VE (show ¬fH f (.oth w d nm r)=true from Ot),ih]
def xN:List VI->(VI->Prop)->Prop:=λds Q=>∃p:De,ds=[p.enc]/\Q (cq (p.d,p.nm))
theorem xO(T:Txt K mg t):aD P w K mg base CX0 1 t.a_J t.d_J ["deed"] (aW K xN):=by
 refine T.F_J.okD Ko (λds Q h=>?_) (λ_ _ _ _ H O ds Q E hr h=>?_)
 ·obtain⟨p,rfl,_⟩:=h;rfl
 ·obtain⟨p,rfl,q⟩:=h;refine'⟨_,?A,?B⟩
  case A=>
   refine' aA ?C
   case' C=>refine' aT ?D
   case' D=>refine' bN ?E
   case' E=>refine' aa ?F ?G
   case F=>exact(aj aF aJ (df (dv 0)) (df af))
   case' G=>refine' aa ?H ao
   case H=>exact(aj aF aJ (df (dv 0)) (df af))
  case B=>
  clear hr T;cases p <;> simp only [De.enc,Pp.enc] <;> walk_at "z" <;> exact q
theorem Lf{d:VI}{ps:List Pp}(h:d∈ps.map Pp.enc)(R:VI->Prop)(q:R (cq (gG d))):xN [d] R:=by
 obtain⟨p,hp,rfl⟩:=OE.mp h;exact⟨.pap p,rfl,q⟩
theorem xP{ps:List Pp}(nd:(ps.map (·.nm)).Nodup):(ps.map Pp.key).Nodup:=by
 rw [SX,PK] at nd⊢;exact nd.imp λh e=>h (congrArg Prod.snd e)
def F_K:List VI->(VI->Prop)->Prop:=λds Q=>∃xs:List De,(ds=[.list (xs.map De.enc)]\/ds=[.tuple (xs.map De.enc)])/\iH xs/\Q (.list ((bE (aI xs)).map Pp.enc))
theorem xQ(T:Txt K mg t):aD P w K mg base CX0 4 t.a_K t.d_K ["deeds"] (aW K F_K):=by
 have G_J:=@xO P w _ _ base _ T;refine T.F_K.okD Kp (λds Q h=>?_) (λ_ _ _ _ H O ds Q E hr h=>?_)
 ·obtain⟨ps,h | h,_⟩:=h <;> subst h <;> rfl
 ·obtain⟨xs,e,gd,q⟩:=h;refine'⟨_,?A,?B⟩
  case A=>
   refine' aA ?C
   case' C=>refine' aT ?D
   case D=>exact(fe (Bo gG rfl G_J (bw.in1 (bw.in1 (hr.mono VC))) T.b_J rfl T.m_J rfl T.n_sorted Qp (bj (df (fe (Ju rfl Cq (df (dv 0)) aN bO VC (λ_ _ _ _=>(aM (i:=0) Cq.nd rfl VG)) (λ_ _ _ _=>(cU (aU (cD hr) cE (df (aj aF aJ (df (dv 0)) (df af))) (df bg) (aE _)))) (λ_ _ _ _=>(dv 0))))) bo)))
  case B=>
  clear hr T G_J;have ln:=gd.ln;have pl:=gd.gp.ln;have step:∀x∈xs,∀(R:VI->Prop)(S:Prop),(if fH (λ_=>true) x=true then R x.enc else S)->(if (x.w==Od "paper")=true then R x.enc else S):=λx hx R S h=>by
   cases x with
   | pap p=>exact h
   | oth w d nm r=>
    rw [show((De.oth w d nm r).w==Od "paper")=false from bS (gd.np w d nm r hx),VE Ot];rw [VE (show ¬fH (λ_=>true) (.oth w d nm r)=true from Ot)] at h;exact h
  have fin:∀ds':List VI,ds'.Perm ((aI xs).map Pp.enc)->ds'.Pairwise (λa b=>bp (gG a) (gG b)=true)->Q (.list ds'):=λds' h1 h2=>by
   rw [La gd.gp.nd h1 h2];exact q
  have tail:(∀d∈(aI xs).map Pp.enc,∀R:VI->Prop,R (cq (gG d))->xN [d] R)/\((aI xs).map Pp.enc).length < 64/\(((aI xs).map Pp.enc).map gG).Nodup:=by
   refine⟨λd hd R z=>Lf hd R z,by rw [Oe];omega,?_⟩;rw [OI];exact xP gd.gp.nd
  rcases e with e | e <;> subst e <;> walk_at "z"
  ·refine⟨by rw [Oe];omega,cZ (fH λ_=>true) De.enc (λx hx R S h=>?_) ?_⟩
   ·have h:=step x hx R S h;cases x <;> simp only [De.enc,De.w,Pp.enc] at h⊢<;> walk_at "z" <;> exact h
   ·rw [rK,fZ];exact⟨tail.1,tail.2.1,tail.2.2,fin⟩
  ·refine⟨by rw [Oe];omega,cZ (fH λ_=>true) De.enc (λx hx R S h=>?_) ?_⟩
   ·have h:=step x hx R S h;cases x <;> simp only [De.enc,De.w,Pp.enc] at h⊢<;> walk_at "z" <;> exact h
   ·rw [rK,fZ];exact⟨tail.1,tail.2.1,tail.2.2,fin⟩
def Cv:List VI->(VI->Prop)->Prop:=λds Q=>∃(xs:List De)(c:Pp),ds=[.tuple (xs.map De.enc),.str c.nm]/\iH xs/\c∈aI xs/\Q c.enc
theorem xR(T:Txt K mg t):aD P w K mg base CX0 1 t.a_L t.d_L ["deeds","paper"] (aW K Cv):=by
 refine T.F_L.okD BY (λds Q h=>?_) (λ_ _ _ _ H O ds Q E hr h=>?_)
 ·obtain⟨ps,c,rfl,_⟩:=h;rfl
 ·obtain⟨xs,c,rfl,gd,hc,q⟩:=h;refine'⟨_,?A,?B⟩
  case A=>
   refine' aq ?C ?D
   case C=>
    refine' mw Pk rfl (dv 0) ?E aN ?F
    case E=>exact(aM (i:=2) BY.nd rfl VG)
    case' F=>refine' aA ?G
    case' G=>refine' bH ?H ?I bG
    case H=>exact(PW.pt (fg (aU (cD hr) cE (df (aj aF aJ (df (dv 2)) (df af))) (df bg) (aE _)) (fc (aU (cx hr.units) cy (df (aj aF aJ (df (dv 2)) (df af))) (df (dv 1)) (aE _)))))
    case' I=>refine' aA ?J
    case J=>exact(aT (dv 2))
   case D=>refine' aA IC
  case B=>
  clear hr T;walk_at "z";refine⟨λi δ=>(∀x∈aI (xs.take i),x.nm≠c.nm)/\∃o2,δ=[some (Sl.v (.tuple (xs.map De.enc))),some (Sl.v (.str c.nm)),o2],⟨by simp [aI],_,rfl⟩,?_,?_⟩
  ·rintro i z δ hz ⟨hn,o2,rfl⟩;rw [OD] at hz;cases hz':xs[i]? with
   | none=>rw [hz'] at hz;cases hz
   | some x=>
    rw [hz'] at hz;cases hz;have hx:=O4 hz';cases x with
    | pap p=>
     simp only [De.enc,Pp.enc];walk_at "z";refine⟨cJ.mpr (gd.nm _ hx),cJ.mpr (gd.gp.nm c hc),?_⟩;split
     ·rename_i h;have e:=Co gd.gp.nd (xK.mpr hx) hc (eq_of_beq h);subst e;exact q
     ·rename_i h;refine⟨λy hy=>?_,_,rfl⟩;rw [Pd,hz'] at hy;unfold aI at hy;rw [R9] at hy;rcases ON.mp hy with z | z
      ·exact hn y z
      ·have:y=p:=by simpa [De.pp] using z
       rw [this];exact λe=>h (by rw [e];exact beq_self_eq_true _)
    | oth w d nm r=>
     simp only [De.enc];walk_at "z";rw [bS (gd.np w d nm r hx),VE Ot];refine⟨λy hy=>?_,_,rfl⟩;rw [Pd,hz'] at hy;unfold aI at hy;rw [R9] at hy;rcases ON.mp hy with z | z
     ·exact hn y z
     ·simp [De.pp] at z
  ·rintro δ ⟨hn,o2,rfl⟩;rw [Oe,OZ (Oi _)] at hn;exact absurd rfl (hn c hc)
def F_M:List VI->(VI->Prop)->Prop:=λds Q=>∃xs:List De,ds=[.tuple (xs.map De.enc)]/\iH xs/\Q (.tuple (((bE (aI xs)).map (·.nm)).map .str))
theorem xS(T:Txt K mg t):aD P w K mg base CX0 5 t.a_M t.d_M ["deeds"] (aW K F_M):=by
 have G_K:=@xQ P w _ _ base _ T;refine T.F_M.okD Kq (λds Q h=>?_) (λ_ _ _ _ H O ds Q E hr h=>?_)
 ·obtain⟨ps,rfl,_⟩:=h;rfl
 ·obtain⟨xs,rfl,gd,q⟩:=h;refine'⟨_,?A,?B⟩
  case A=>
   refine' aA ?C
   case' C=>refine' aT ?D
   case D=>exact(PE.imp (dF gr rfl T.n_tuple fy (bj (df (fe (dU rfl Cr (df (PE.imp (aH G_K (hr.mono VC) rfl T.m_K T.F_K.kp T.b_K .nil aB (aa (dv 0) ao)) aR)) aN bO VC (λ_ _ _ _=>(aM (i:=0) Cr.nd rfl VG)) (λ_ _ _ _=>dA) (λ_ _ _ _=>(aj aF aJ (df (dv 0)) (df af)))))) bo)) (bD gC))
  case B=>
  clear hr T G_K;walk_at "z";refine⟨xs,.inr rfl,gd,_,rfl,by rw [Oe,fG];have:=gd.gp.ln;omega,cZ (λ_=>true) (λp:Pp=>.str p.nm) (λx hx R S h=>?_) ?_⟩
  ·simp only [Pp.enc];walk_at "z";rw [VF rfl] at h;exact h
  ·rw [fZ];rw [OI] at q;exact q
def Lg:List VI->(VI->Prop)->Prop:=λds Q=>∃(xs:List De)(c:Pp),ds=[.tuple (xs.map De.enc),c.enc]/\iH xs/\c∈aI xs/\Q (.list ((hG (aI xs) c).map Pp.enc))
theorem Cw(T:Txt K mg t):aD P w K mg base CX0 5 t.a_N t.d_N ["deeds","coming"] (aW K Lg):=by
 have G_K:=@xQ P w _ _ base _ T;have G_J:=@xO P w _ _ base _ T;refine T.F_N.okD BZ (λds Q h=>?_) (λ_ _ _ _ H O ds Q E hr h=>?_)
 ·obtain⟨ps,c,rfl,_⟩:=h;rfl
 ·obtain⟨xs,c,rfl,gd,hc,q⟩:=h;refine'⟨_,?A,?B⟩
  case A=>
   refine' aq ?C ?D
   case C=>exact(i9 (i:=2) BZ.nd rfl VG (p7 rfl Cs (df (dv 0)) aN bO VC (λ_ _ _ _=>(aM (i:=0) Cs.nd rfl VG)) (λ_ _ _ _=>(cU (PW.pt (fg (aU (cD hr) cE (df (aj aF aJ (df (dv 0)) (df af))) (df bg) (aE _)) (fc (aU (AF hr) wj (df (aj aF aJ (df (dv 0)) (df af))) (df (aj aF aJ (df (dv 1)) (df af))) rfl)))))) (λ_ _ _ _=>(dv 0))))
   case' D=>refine' aA ?E
   case' E=>refine' aT ?F
   case F=>exact(PE.imp (aH G_K (hr.mono VC) rfl T.m_K T.F_K.kp T.b_K .nil aB (aa (fe (dU rfl Ct (df (dv 2)) aN bO VC (λ_ _ _ _=>(aM (i:=0) Ct.nd rfl VG)) (λ_ _ _ _=>(cU (aU (Jp hr.units0) Jq (df (PE.imp (aH G_J (hr.mono VC) rfl T.m_J T.F_J.kp T.b_J .nil aB (aa (dv 0) ao)) aR)) (df (PE.imp (aH G_J (hr.mono VC) rfl T.m_J T.F_J.kp T.b_J .nil aB (aa (dv 1) ao)) aR)) (aE _)))) (λ_ _ _ _=>(dv 0)))) ao)) aR)
  case B=>
  clear hr T G_K G_J;have ln:=gd.ln;have pl:=gd.gp.ln;obtain⟨hm1,hm2⟩:=gd.gp.ms c hc;walk_at "z";refine⟨by rw [Oe];omega,cZ (fH λp=>c.ms.contains p.nm) De.enc (λx hx R S h=>?_) ?_⟩
  ·cases x with
   | pap p=>
    simp only [De.enc,Pp.enc];walk_at "z";refine⟨cJ.mpr (gd.nm _ hx),Le hm1,?_⟩;rw [Ld];exact h
   | oth w d nm r=>
    simp only [De.enc];walk_at "z";rw [bS (gd.np w d nm r hx),VE Ot];rw [VE (show ¬fH _ (.oth w d nm r)=true from Ot)] at h;exact h
  ·rw [rK];have fl:=O8 (λp:Pp=>c.ms.contains p.nm) (aI xs);refine⟨by rw [Oe];omega,cZ (λp=>bp p.key c.key) Pp.enc (λx hx R S h=>?_) ?_⟩
   ·walk_at "z";exact⟨.pap x,rfl,.pap c,rfl,x.key,rfl,c.key,rfl,h⟩
   ·rw [Lc];refine⟨_,.inl rfl,iH.of ((gd.gp.filter _).filter _),?_⟩;rw [Cp,Cn (xI gd.gp.nd),Cn gd.gp.nd,UD];have e:(bE (aI xs)).filter (λa=>bp a.key c.key && c.ms.contains a.nm)=hG (aI xs) c:=by
     unfold hG xJ;congr 1;funext a;rw [Vj]
    rw [e];exact q
theorem xT{ps:List Pp}{c:Pp}(g:om ps):(hG ps c).length<=41:=by
 unfold hG;have h1:=O8 (xJ c) (bE ps);have h2:=fG (ps:=ps);have h3:=g.ln;omega
def F_O:List VI->(VI->Prop)->Prop:=λds Q=>∃(xs:List De)(c:Pp),ds=[.tuple (xs.map De.enc),.str c.nm]/\iH xs/\c∈aI xs/\Q (.tuple (((hG (aI xs) c).map (·.nm)).map .str))
theorem Lh(T:Txt K mg t):aD P w K mg base CX0 6 t.a_O t.d_O ["deeds","paper"] (aW K F_O):=by
 have G_N:=@Cw P w _ _ base _ T;have G_L:=@xR P w _ _ base _ T;refine T.F_O.okD Kr (λds Q h=>?_) (λ_ _ _ _ H O ds Q E hr h=>?_)
 ·obtain⟨ps,c,rfl,_⟩:=h;rfl
 ·obtain⟨xs,c,rfl,gd,hc,q⟩:=h;refine'⟨_,?A,?B⟩
  case A=>
   refine' aA ?C
   case' C=>refine' aT ?D
   case D=>exact(PE.imp (dF gr rfl T.n_tuple fy (bj (df (fe (dU rfl Cu (df (PE.imp (aH G_N (hr.mono VC) rfl T.m_N T.F_N.kp T.b_N .nil aB (aa (dv 0) (aa (PE.imp (aH G_L (hr.mono VC) rfl T.m_L T.F_L.kp T.b_L .nil aB (aa (dv 0) (aa (dv 1) ao))) aR) ao))) aR)) aN bO VC (λ_ _ _ _=>(aM (i:=0) Cu.nd rfl VG)) (λ_ _ _ _=>dA) (λ_ _ _ _=>(aj aF aJ (df (dv 0)) (df af)))))) bo)) (bD gC))
  case B=>
  clear hr T G_N G_L;walk_at "z";refine⟨xs,c,rfl,gd,hc,xs,c,rfl,gd,hc,⟨_,rfl,by rw [Oe];have:=xT (c:=c) gd.gp;omega,cZ (λ_=>true) (λp:Pp=>.str p.nm) (λx hx R S h=>?_) ?_⟩⟩
  ·simp only [Pp.enc];walk_at "z";rw [VF rfl] at h;exact h
  ·rw [fZ];rw [OI] at q;exact q
end
local macro_rules | `(tactic| walk_at "i") =>rzT (rzS++" Sl.i.injEq exists_and_left")
theorem Cy:bq (ag jh) ["self","deeds","name","coming"] ["deed","name"] 1 [2] ⟨Oq,[ (Of ".0",Xk),(Of "deed",Xk),(Of "name",OA)],false,false,[]⟩:=⟨rfl,VB,VB,VB,rfl,VB,VB,VB,rfl⟩
theorem xU:bq (ag js) ["paper","happening"] ["day","other","happening"] 2 [1] ⟨Oq,[ (Of ".0",Xk),(Of "day",Xk),(Of "other",Xk),(Of "happening",OA)],false,false,[]⟩:=⟨rfl,VB,VB,VB,rfl,VB,VB,VB,rfl⟩
section
variable {P:VW} {w:VX} {K:Og} {mg:Str->Option VJ} {base:VY} {t:cz}
inductive cc where
 | com
 | fst (wd:Str)
 | lst (wd:Str)
def cc.enc:cc->VI
 | .com=>.tuple [.str (Od "coming")]
 | .fst wd=>.tuple [.str (Od "first"),.str wd]
 | .lst wd=>.tuple [.str (Od "last"),.str wd]
def cc.Ok:cc->Prop
 | .com=>True
 | .fst wd=>Om wd=true
 | .lst wd=>Om wd=true
inductive Pt where
 | two (w kd:Str)
 | five (w kd:Str) (s:cc) (k:Int) (u:Str)
def Pt.enc:Pt->VI
 | .two w kd=>.tuple [.str w,.str kd]
 | .five w kd s k u=>.tuple [.str w,.str kd,s.enc,.int k,.str u]
def KG(w:Str):Prop:=w=Od "keep"\/w=Od "gone"
def Pt.Ok:Pt->Prop
 | .two w kd=>¬KG w/\Om w=true/\Om kd=true
 | .five w kd s k u=>KG w/\Om kd=true/\s.Ok/\0<=k/\k < 1000/\oj u
def De.isR:De->Bool
 | .oth w _ _ _=>w==Od "rule"
 | _=>false
def De.isH:De->Bool
 | .oth w _ _ _=>w==Od "happens"
 | _=>false
def De.isE:De->Bool
 | .oth w _ _ _=>w==Od "rule" || w==Od "end"
 | _=>false
structure hJ (xs:List De):Prop where
 gx:iH xs
 hp:∀d nm r,De.oth (Od "happens") d nm r∈xs->∃wd,r=[.str wd]/\Om wd=true
 ru:∀d nm r,De.oth (Od "rule") d nm r∈xs->∃pt:Pt,r=[pt.enc]/\pt.Ok
 nd:xs.Nodup
 d0:∀x∈xs,0<=x.d/\x.d < 100000
 re:∀x∈xs,∀y∈xs,x.isE=true->y.isE=true->x.d=y.d->x.nm=y.nm->x=y
def dP(nm:Str):De->Bool
 | .oth w _ n _=>w==Od "happens" && n==nm
 | _=>false
def xV:De->Int×Str
 | .oth _ d _ [.str wd]=>(d,wd)
 | x=>(x.d,Od "")
def fk(xs:List De)(nm:Str):List (Int×Str):=(xs.filter (dP nm)).map xV
theorem Li{xs:List De}(g:hJ xs)(nm:Str):(fk xs nm).Nodup:=by
 unfold fk;rw [SX,PK];refine List.Pairwise.imp_of_mem (λ{a b} ha hb h e=>?_) (g.nd.sublist Sj);obtain⟨a1,a2⟩:=Po.mp ha;obtain⟨b1,b2⟩:=Po.mp hb;cases a with
 | pap p=>cases a2
 | oth w d n r=>
  cases b with
  | pap p=>cases b2
  | oth w' d' n' r'=>
   simp only [dP,Pz,beq_iff_eq] at a2 b2;obtain⟨rfl,rfl⟩:=a2;obtain⟨rfl,rfl⟩:=b2;obtain⟨wd,rfl,_⟩:=g.hp _ _ _ a1;obtain⟨wd',rfl,_⟩:=g.hp _ _ _ b1;simp only [xV,SK] at e;exact h (by rw [e.1,e.2])
structure Rp where
 c:Pp
 ts:List Str
 hs:List (Int×Str)
def Rp.enc(C:VM)(r:Rp):VI:=Bq C [(Od "name",.str r.c.nm),(Od "coming",.int r.c.d),(Od "kind",.str r.c.kd),(Od "makers",.tuple (r.ts.map .str)),(Od "happenings",.list (r.hs.map cq))]
open Classical in
def jH(l:List (Int×Str)):List (Int×Str):=if h:∃s:List (Int×Str),s.Perm l/\s.Pairwise (λa b=>bp a b=true) then h.choose else []
theorem Lj{s l:List (Int×Str)}(h1:s.Perm l)(h2:s.Pairwise λa b=>bp a b=true):s=jH l:=by
 unfold jH;have h:∃s:List (Int×Str),s.Perm l/\s.Pairwise (λa b=>bp a b=true):=⟨s,h1,h2⟩;rw [dif_pos h];exact lz (λa b z=>sY z) (h1.trans h.choose_spec.1.symm) h2 h.choose_spec.2
def gb(xs:List De)(c:Pp):Rp:=⟨c,(hG (aI xs) c).map (·.nm),jH (fk xs c.nm)⟩
theorem jI{f g:Str}{d x:VI}{r:List (Str×VI)}(h:g≠f):dO f d ((g,x)::r)=(g,x)::dO f d r:=by rw [dO,VE h]
theorem Ll{a b:VI}:dO (Od "coming") b (dO (Od "name") a [])=[(Od "name",a),(Od "coming",b)]:=by
 rw [show dO (Od "name") a []=[(Od "name",a)] from rfl,jI VB];rfl
theorem Lm{a b c:VI}:dO (Od "kind") c [(Od "name",a),(Od "coming",b)]=[(Od "name",a),(Od "coming",b),(Od "kind",c)]:=by
 rw [jI VB,jI VB];rfl
theorem Ln{a b c d:VI}:dO (Od "makers") d [(Od "name",a),(Od "coming",b),(Od "kind",c)]=[(Od "name",a),(Od "coming",b),(Od "kind",c),(Od "makers",d)]:=by
 rw [jI VB,jI VB,jI VB];rfl
theorem Lo{a b c d e:VI}:dO (Od "happenings") e [(Od "name",a),(Od "coming",b),(Od "kind",c),(Od "makers",d)]=[(Od "name",a),(Od "coming",b),(Od "kind",c),(Od "makers",d),(Od "happenings",e)]:=by
 rw [jI VB,jI VB,jI VB,jI VB];rfl
def Lp(C:VM):List VI->(VI->Prop)->Prop:=λds Q=>∃(xs:List De)(c:Pp),ds=[.tuple (xs.map De.enc),.str c.nm]/\hJ xs/\c∈aI xs/\((∀z,z∈jH (fk xs c.nm)↔z∈fk xs c.nm)->(jH (fk xs c.nm)).Pairwise (λa b=>bp a b=true)->(jH (fk xs c.nm)).length<=41->Q ((gb xs c).enc C))
theorem Cz(T:Txt K mg t):aD P w K mg base CX0 7 t.a_I t.d_I ["self","deeds","name"] (uI K t.u_Paper (Lp t.u_Paper)):=by
 have G_L:=@xR P w _ _ base _ T;have G_O:=@Lh P w _ _ base _ T;refine T.F_I.okI BX (λds Q h=>?_) (λcdv A outer s H H1 O ds Q E l hr h=>?_)
 ·obtain⟨xs,c,rfl,_⟩:=h;rfl
 ·obtain⟨xs,c,rfl,gd,hc,q⟩:=h;refine'⟨_,?A,?B⟩
  case A=>
   refine' aq ?C ?D
   case C=>exact(bt (i:=3) BX.nd rfl VG (PE.imp (aH G_L (hr.mono VC) rfl T.m_L T.F_L.kp T.b_L .nil aB (aa (dv 1) (aa (dv 2) ao))) aR))
   case' D=>refine' aq (fE (C:=t.u_Paper) (i:=0) T.cl_Paper T.na_Paper_name (pv 0) (aj aF aJ (df (dv 3)) (df af))) ?E
   case' E=>refine' aq (fE (C:=t.u_Paper) (i:=0) T.cl_Paper T.na_Paper_coming (pv 0) (aj aF aJ (df (dv 3)) (df af))) ?F
   case' F=>refine' aq (fE (C:=t.u_Paper) (i:=0) T.cl_Paper T.na_Paper_kind (pv 0) (aj aF aJ (df (dv 3)) (df af))) ?G
   case' G=>refine' aq ?H ?I
   case H=>exact(fE (C:=t.u_Paper) (i:=0) T.cl_Paper T.na_Paper_makers (pv 0) (PE.imp (aH G_O (hr.mono VC) rfl T.m_O T.F_O.kp T.b_O .nil aB (aa (dv 1) (aa (dv 2) ao))) aR))
   case' I=>refine' aA ?J
   case J=>exact(fE (C:=t.u_Paper) (i:=0) T.cl_Paper T.na_Paper_happenings (pv 0) (fe (Bn rfl T.n_sorted Qp (bj (df (fe (i6 rfl Cy (df (dv 1)) aN bO VC (λ_ _ _ _=>(aM (i:=0) Cy.nd rfl VG)) (λ_ _ _ _=>(cU (PW.pt (fg (aU (cD hr) cE (df (aj aF aJ (df (dv 0)) (df af))) (df bg) (aE _)) (fc (aU (cx hr.units) cy (df (aj aF aJ (df (dv 0)) (df af))) (df (dv 1)) (aE _))))))) (λ_ _ _ _=>(bN (aa (aj aF aJ (df (dv 0)) (df af)) (aa (aj aF aJ (df (dv 0)) (df af)) ao))))))) bo))))
  case B=>
  clear hr T G_L G_O;simp only [uJ,fh,Ol,Pw,PN,PL,S8,OC,Px,Qm,Qn,OL];walk_at "i";refine⟨xs,c,rfl,gd.gx,hc,?_⟩;simp only [Pp.enc];walk_at "i";simp only [Ll,Lm,Ln,Lo];have ln:=gd.gx.ln;have lt:∀n:Nat,n < 10->n < 1000:=λn h=>by omega
  refine⟨lt 1 VC,lt 2 VC,xs,c,rfl,gd.gx,hc,⟨lt 3 VC,by rw [Oe];omega,iI (dP c.nm) (λx=>cq (xV x)) (λx hx R S h1 h0=>?_) ?_⟩⟩
  ·cases x with
   | pap p=>
    simp only [De.enc,Pp.enc];walk_at "z";exact h0 rfl
   | oth w d nm r=>
    simp only [De.enc];walk_at "z";by_cases e:w=Od "happens"
    ·subst e;obtain⟨wd,rfl,_⟩:=gd.hp _ _ _ hx;rw [VF (beq_self_eq_true _)];refine⟨cJ.mpr (gd.gx.nm _ hx),cJ.mpr (gd.gx.gp.nm c hc),?_⟩;split
     ·rename_i h2;exact⟨_,fQ,h1 (by simp only [dP,beq_self_eq_true,Qg];exact h2)⟩
     ·rename_i h2;exact h0 (by simp only [dP,beq_self_eq_true,Qg];simpa using h2)
    ·rw [bS e,VE Ot];exact h0 (by simp only [dP,bS e,R3])
  ·have hl:(fk xs c.nm).length<=41:=by
    unfold fk;rw [Oe];have:=O8 (dP c.nm) xs;omega
   refine⟨fk xs c.nm,by unfold fk;rw [OI];rfl,VD,Li gd c.nm,λhs h1 h2=>⟨lt 4 VC,?_⟩⟩;have e:=Lj h1 h2;have q:=q (λz=>by rw [<-e];exact h1.mem_iff) (by rw [<-e];exact h2) (by rw [<-e,h1.length_eq];exact hl);rw [e];exact q
def sZ(hs:List (Int×Str)):Prop:=hs.length<=41/\∀z∈hs,Om z.2=true
def eF(hs:List (Int×Str))(wd:Str):List Int:=(hs.filter λz=>z.2==wd).map (·.1)
def F_V(C:VM):List VI->(VI->Prop)->Prop:=λds Q=>∃(r:Rp)(wd:Str),ds=[r.enc C,.str wd]/\sZ r.hs/\Om wd=true/\Q (.list ((eF r.hs wd).map .int))
theorem Lq{a b c d e:VI}:br [Od "name",Od "coming",Od "kind",Od "makers",Od "happenings"] [a,b,c,d,e] (Od "happenings")=some e:=by
 simp only [br];rw [VE VB,VE VB,VE VB,VE VB,VF trivial]
theorem uX{a b c d e:VI}:br [Od "name",Od "coming",Od "kind",Od "makers",Od "happenings"] [a,b,c,d,e] (Od "coming")=some b:=by
 simp only [br];rw [VE VB,VF trivial]
theorem uY{a b c d e:VI}:br [Od "name",Od "coming",Od "kind",Od "makers",Od "happenings"] [a,b,c,d,e] (Od "kind")=some c:=by
 simp only [br];rw [VE VB,VE VB,VF trivial]
theorem CA(T:Txt K mg t):aD P w K mg base CX0 1 t.a_V t.d_V ["paper","happening"] (aW K (F_V t.u_Paper)):=by
 refine T.F_V.okD Kv (λds Q h=>?_) (λ_ _ _ _ H O ds Q E hr h=>?_)
 ·obtain⟨r,wd,rfl,_⟩:=h;rfl
 ·obtain⟨r,wd,rfl,⟨hl,hok⟩,wok,q⟩:=h;refine'⟨_,?A,?B⟩
  case A=>
   refine' aA ?C
   case' C=>refine' aT ?D
   case' D=>refine' fe ?E
   case E=>exact(dU rfl xU (df (cu (C:=t.u_Paper) T.cl_Paper T.na_Paper_happenings (dv 0))) (gB (b7 aN (b7 aN gA))) uH VC (λ_ _ _ _=>(gj (n:=2) rfl (b0 (aM (i:=0) xU.nd rfl VG) (b0 (aM (i:=1) xU.nd rfl VG) gi)))) (λ_ _ _ _=>(cU (aU (cx hr.units) cy (df (dv 1)) (df (dv 2)) (aE _)))) (λ_ _ _ _=>(dv 0)))
  case B=>
  clear hr T;walk_at "z";refine⟨[Od "name",Od "coming",Od "kind",Od "makers",Od "happenings"],_,rfl,_,Lq,_,rfl,by rw [Oe];omega,cZ (λz:Int×Str=>z.2==wd) (λz=>.int z.1) (λx hx R S h=>?_) ?_⟩
  ·simp only [cq];walk_at "z";exact⟨cJ.mpr (hok x hx),cJ.mpr wok,h⟩
  ·unfold eF at q;rw [OI] at q;exact q
end
theorem CB:bq (ag jn) ["deeds","words","day","found","deed","known"] ["name","found"] 1 [3] ⟨Oq,[ (Of ".0",Xk),(Of "name",Xk),(Of "found",OA)],false,false,[]⟩:=⟨rfl,VB,VB,VB,rfl,VB,VB,VB,rfl⟩
section
variable {P:VW} {w:VX} {K:Og} {mg:Str->Option VJ} {base:VY} {t:cz}
def F_Q:List VI->(VI->Prop)->Prop:=λds Q=>∃(xs:List Rw)(ws:List Str)(n:Int),ds=[.tuple (xs.map Rw.enc),.tuple (ws.map .str),.int n]/\(∀x∈xs,Om x.w=true)/\Qb (ws.map .str)=true/\xs.length < 64/\∀res,g6 ws n xs res->Q (.list (res.map Rw.enc))
theorem Lr{ws:List Str}{w:Str}:((ws.map Oj).any λd=>OP d (.str w))=decide (w∈ws):=by
 induction ws with
 | nil=>simp
 | cons a ws ih=>
  rw [Ol,PQ,ih,d8];by_cases h:a=w
  ·simp [h]
  ·have h':(a==w)=false:=by simpa using h
   rw [h'];simp [Ne.symm h]
theorem CC(T:Txt K mg t):aD P w K mg base CX0 1 t.a_Q t.d_Q ["deeds","words","day"] (aW K F_Q):=by
 refine T.F_Q.okD uT (λds Q h=>?_) (λ_ _ _ _ H O ds Q E hr h=>?_)
 ·obtain⟨xs,ws,n,rfl,_⟩:=h;rfl
 ·obtain⟨xs,ws,n,rfl,hw,hws,h64,q⟩:=h;refine'⟨_,?A,?B⟩
  case A=>
   refine' aq (uu (i:=3) uT.nd rfl VG ur) ?C
   case' C=>refine' aq ?D ?E
   case D=>
    refine' mw Pk rfl (dv 0) (aM (i:=4) uT.nd rfl VG) aN ?F
    case' F=>refine' aA ?G
    case' G=>refine' bH ?H ?I bG
    case H=>exact(PW.pt (fg (aU (AF hr) wj (df (aj aF aJ (df (dv 4)) (df af))) (df (dv 1)) rfl) (fc (aU jW cW (df (aj aF aJ (df (dv 4)) (df af))) (df (dv 2)) (aE _)))))
    case' I=>refine' aq (bt (i:=5) uT.nd rfl VG (IF (i:=3) hr.units (pv 3) (aj aF aJ (df (dv 4)) (df af)) ⟨rfl,rfl,rfl,rfl⟩)) ?J
    case' J=>refine' aA ?K
    case' K=>refine' bH ?L (aA (uw (i:=3) hr.units (pv 3) (aj aF aJ (df (dv 4)) (df af)) (dv 4))) bG
    case L=>exact(PW.pt (qO (aU lK nz (df (dv 5)) (df d5) (aE _)) (qN (aU tO cW (df (aj aF aJ (df (dv 5)) (df af))) (df (aj aF aJ (df (dv 4)) (df af))) (aE _)))))
   case' E=>refine' aA ?M
   case' M=>refine' aT ?N
   case' N=>refine' fe ?O
   case O=>exact(dU rfl CB (df (fe (II (i:=3) rfl rfl T.n_sorted Qp (pv 3)))) aN bO VC (λ_ _ _ _=>(aM (i:=0) CB.nd rfl VG)) (λ_ _ _ _=>dA) (λ_ _ _ _=>(IE (i:=1) hr.units (pv 1) (dv 0) (λ_ _=>rfl))))
  case B=>
  clear hr T;walk_at "z";refine⟨λi δ=>∃L o4 o5,fj ws n (xs.take i) L/\δ=[some (Sl.v (.tuple (xs.map Rw.enc))),some (Sl.v (.tuple (ws.map .str))),some (Sl.v (.int n)),some (Sl.k (gZ L)),o4,o5],⟨[],_,_,fj.nil _ _,rfl⟩,?_,?_⟩
  ·rintro i x δ hx ⟨L,o4,o5,hL,rfl⟩;rw [OD] at hx;cases hx':xs[i]? with
   | none=>rw [hx'] at hx;cases hx
   | some y=>
    rw [hx'] at hx;cases hx;have hy:y∈xs:=O4 hx';have tk:xs.take (i+1)=xs.take i++[y]:=by rw [Pd,hx'];rfl
    simp only [Rw.enc];walk_at "z";have hle:L.length < 64:=by have:=hL.le;rw [Pf] at this;omega
    have hk:(gZ L).length < 16777216:=by unfold gZ;rw [Oe];omega
    have en:O5 (Oj y.w::OJ y.n::Oj y.nm::y.r)=y.enc:=rfl;refine⟨cJ.mpr (hw y hy),hws,?_⟩;rw [Lr];by_cases hin:y.w∈ws
    ·rw [VF (decide_eq_true hin)];by_cases hn:y.n<=n
     ·rw [VF hn,wx,en];cases hl:d9 L y.nm with
      | none=>
       rw [VF (show dN ((Option.map Rw.enc none).getD RH)=true from rfl)];exact⟨hk,_,by rw [tk];exact hL.put ⟨hin,hn⟩ (λz e=>by rw [hl] at e;cases e),A3 L y.nm y,_,rfl⟩
      | some z=>
       rw [VE (by simp [dN,Rw.enc])];refine⟨_,rfl,_,eQ,_,rfl,?_⟩;split
       ·rename_i hlt;exact⟨hk,_,by rw [tk];exact hL.put ⟨hin,hn⟩ (λz' e=>by rw [hl] at e;cases e;exact hlt),A3 L y.nm y,_,rfl⟩
       ·rename_i hlt;exact⟨L,by rw [tk];exact hL.keep hl hlt,rfl,_,rfl⟩
     ·rw [VE hn];exact⟨L,by rw [tk];exact hL.skip (λz=>hn z.2),rfl,_,rfl⟩
    ·rw [VE (by simpa using hin)];exact⟨L,by rw [tk];exact hL.skip (λz=>hin z.1),rfl,_,rfl⟩
  ·rintro δ ⟨L,o4,o5,hL,rfl⟩;walk_at "z";rw [Oe,OZ (Oi _)] at hL;have hle:L.length < 64:=by have:=hL.le;omega
   refine⟨L.map (·.1),by unfold gZ;rw [OI,OI];rfl,by rw [Oe];exact hle,by rw [Oe,(kg _).length_eq,Oe];omega,?_⟩;refine AW (λx=>match x with | .str nm=>((d9 L nm).map Rw.enc).getD .none | _=>.none) (λx hx R hR=>?_) ?_
   ·obtain⟨nm,hnm,rfl⟩:=OE.mp hx;obtain⟨z,hz⟩:=wy ((kg _).mem_iff.mp hnm);walk_at "z";refine⟨z.enc,by rw [wx,hz];rfl,?_⟩;have hR:R (((d9 L nm).map Rw.enc).getD .none):=hR;rw [hz] at hR;exact hR
   ·have e:∀l:List Str,(∀a∈l,a∈L.map (·.1))->(l.map Oj).map (λx=>match x with | .str nm=>((d9 L nm).map Rw.enc).getD .none | _=>.none)=(l.filterMap (d9 L)).map Rw.enc:=by
     intro l
     induction l with
     | nil=>intro _;rfl
     | cons a l ih=>
      intro hl;obtain⟨z,hz⟩:=wy (hl a VH);rw [Ol,Ol,P8,hz,ih λb hb=>hl b (by simp [hb])];simp [hz]
    rw [e _ λa ha=>(kg _).mem_iff.mp ha];exact q _ hL.res
end
theorem CD:bq (ag jo) ["deeds","day"] ["deed"] 1 [] ⟨Oq,[(Of ".0",Xk),(Of "deed",Xk)],false,false,[]⟩:=⟨rfl,VB,VB,VB,rfl,VB,VB,VB,rfl⟩
section
variable {P:VW} {w:VX} {K:Og} {mg:Str->Option VJ} {base:VY} {t:cz}
def iJ:List Str:=["rule","end"]
def lA(res:List Rw):List VI:=(res.filter λx=>x.w==Od "rule").map λx=>.tuple [.str x.nm,x.r.headD .none]
structure CF (xs:List Rw):Prop where
 st:∀x∈xs,Om x.w=true
 ru:∀x∈xs,x.w=Od "rule"->∃p,x.r=[p]
 le:xs.length < 64
def Lu:List VI->(VI->Prop)->Prop:=λds Q=>∃(xs:List Rw)(n:Int),ds=[.tuple (xs.map Rw.enc),.int n]/\CF xs/\∀res,g6 iJ n xs res->Q (.tuple (lA res))
theorem Lv(T:Txt K mg t):aD P w K mg base CX0 2 t.a_R t.d_R ["deeds","day"] (aW K Lu):=by
 have G_Q:=@CC P w _ _ base _ T;refine T.F_R.okD Ks (λds Q h=>?_) (λ_ _ _ _ H O ds Q E hr h=>?_)
 ·obtain⟨xs,n,rfl,_⟩:=h;rfl
 ·obtain⟨xs,n,rfl,ok,q⟩:=h;refine'⟨_,?A,?B⟩
  case A=>
   refine' aA ?C
   case' C=>generalize hG2:VA _ _ _ _=eg2
   refine' aT ?D
   case' D=>subst hG2
   exact(PE.imp (dF gr rfl T.n_tuple fy (bj (df (fe (dU rfl CD (df (PE.imp (aH G_Q (hr.mono VC) rfl T.m_Q T.F_Q.kp T.b_Q .nil aB (aa (dv 0) (aa (bN (aa bg (aa bg ao))) (aa (dv 1) ao)))) aR)) aN bO VC (λ_ _ _ _=>(aM (i:=0) CD.nd rfl VG)) (λ_ _ _ _=>(cU (aU (cD hr) cE (df (aj aF aJ (df (dv 0)) (df af))) (df bg) (aE _)))) (λ_ _ _ _=>(bN (aa (aj aF aJ (df (dv 0)) (df af)) (aa (aj aF aJ (df (dv 0)) (df af)) ao))))))) bo)) (bD gC))
  case B=>
  clear hr T G_Q;walk_at "z";refine⟨xs,iJ,n,rfl,ok.st,VB,ok.le,λres hres=>⟨_,rfl,?_,?_⟩⟩
  ·rw [Oe];have:=hres.le;have:=ok.le;omega
  refine Iy (λx=>match x with | .tuple (.str w:: .int n:: .str nm::r)=>if (w==Od "rule")=true then some (.tuple [.str nm,r.headD .none]) else none | _=>none) (λx hx R S h=>?_) ?_
  ·obtain⟨y,hy,rfl⟩:=OE.mp hx;simp only [Rw.enc] at h⊢;walk_at "z";by_cases hr:(y.w==Od "rule")=true
   ·rw [VF hr] at h⊢;obtain⟨p,hp⟩:=ok.ru y (hres.it y hy).1 (eq_of_beq hr);rw [hp] at h⊢;exact⟨p,fQ,h⟩
   ·rw [VE hr] at h⊢;exact h
  ·have e:∀l:List Rw,(l.map Rw.enc).filterMap (λx=>match x with | .tuple (.str w:: .int n:: .str nm::r)=>if (w==Od "rule")=true then some (.tuple [.str nm,r.headD .none]) else none | _=>none)=lA l:=by
    intro l
    induction l with
    | nil=>rfl
    | cons a l ih=>
     rw [Ol,P8,ih];unfold lA;simp only [Rw.enc,Pb];by_cases hr:(a.w==Od "rule")=true
     ·rw [VF hr,VF hr];rfl
     ·rw [VE hr,VE hr]
   rw [e];exact q res hres
theorem CG{s s':cc}(h:s.enc=s'.enc):s=s':=by
 have n1:Od "first"≠Od "last":=VB
 cases s <;> cases s' <;> simp only [cc.enc,PZ,Pe,P1,and_true,reduceCtorEq,and_false] at h
 ·rfl
 ·rw [h.2]
 ·exact absurd h.1 n1
 ·exact absurd h.1.symm n1
 ·rw [h.2]
theorem CH{a b:Pt}(h:a.enc=b.enc):a=b:=by
 cases a <;> cases b <;> simp only [Pt.enc,PZ,Pe,P1,PM,and_true,reduceCtorEq,and_false] at h
 ·rw [h.1,h.2]
 ·obtain⟨h1,h2,h3,h4,h5⟩:=h;rw [h1,h2,CG h3,h4,h5]
theorem CI{α β:Type}{f:α->β}:∀{l:List α},(l.map f).Nodup->∀{a b:α},a∈l->b∈l->f a=f b->a=b
 | x::l,nd,a,b,ha,hb,e=>by
  rw [Ol,P6] at nd;rcases Ox.mp ha with ea | ha1 <;> rcases Ox.mp hb with eb | hb1
  ·rw [ea,eb]
  ·subst ea;exact absurd (OE.mpr ⟨b,hb1,e.symm⟩) nd.1
  ·subst eb;exact absurd (OE.mpr ⟨a,ha1,e⟩) nd.1
  ·exact CI nd.2 ha1 hb1 e
def De.rw:De->Rw
 | .pap p=>⟨Od "paper",p.d,p.nm,[.str p.kd,.tuple (p.ms.map .str)]⟩
 | .oth w d nm r=>⟨w,d,nm,r⟩
theorem De.rw_enc(x:De):x.rw.enc=x.enc:=by cases x <;> rfl
theorem CJ(xs:List De):(xs.map De.rw).map Rw.enc=xs.map De.enc:=by
 rw [OI];congr 1;funext x;exact x.rw_enc
def CK(xs:List De)(n:Int)(z:Str×Pt):Prop:=∃d,d<=n/\De.oth (Od "rule") d z.1 [z.2.enc]∈xs/\∀x∈xs,x.isE=true->x.nm=z.1->x.d<=n->x.d<=d
def rL(a b:Str×Pt):Prop:=dJ a.1 b.1=true/\a.1≠b.1
def rM(xs:List De)(n:Int)(L:List (Str×Pt)):Prop:=L.Pairwise rL/\∀z,z∈L↔CK xs n z
theorem Lw(a b:Str×Pt)(h:rL a b):¬rL b a:=λz=>h.2 (wk h.1 z.1)
theorem CM{L:List (Str×Pt)}(h:L.Pairwise rL):L.Nodup:=h.imp λ{a b} z e=>z.2 (by rw [e])
theorem Lx{L M:List (Str×Pt)}(h1:L.Pairwise rL)(h2:M.Pairwise rL)(h:∀z,z∈L↔z∈M):L=M:=
 lz Lw ((Sd (CM h1) (CM h2)).mpr h) h1 h2
open Classical in
def lB(xs:List De)(n:Int):List (Str×Pt):=if h:∃L,rM xs n L then h.choose else []
theorem Ly{xs:List De}{n:Int}{L:List (Str×Pt)}(h:rM xs n L):L=lB xs n:=by
 unfold lB;have e:∃L,rM xs n L:=⟨L,h⟩;rw [dif_pos e];exact Lx h.1 e.choose_spec.1 λz=>(h.2 z).trans (e.choose_spec.2 z).symm
def dB(z:Str×Pt):VI:= .tuple [.str z.1,z.2.enc]
theorem Lz{x:De}(np:x.rw.w∈iJ)(hp:∀p,x≠ .pap p):x.isE=true:=by
 cases x with
 | pap p=>exact absurd rfl (hp p)
 | oth w d nm r=>
  have:w=Od "rule"\/w=Od "end":=by
   have h:w∈iJ:=np;unfold iJ at h;rcases Ox.mp h with e | h
   ·exact .inl e
   ·rcases Ox.mp h with e | h
    ·exact .inr e
    ·cases h
  rcases this with e | e
  ·simp [De.isE,e]
  ·simp [De.isE,e]
theorem CN{x:De}(h:x.isE=true):x.rw.w∈iJ/\x.rw.nm=x.nm/\x.rw.n=x.d:=by
 cases x with
 | pap p=>cases h
 | oth w d nm r=>
  refine⟨?_,rfl,rfl⟩;simp only [De.isE,Su,beq_iff_eq] at h;show w∈iJ;unfold iJ;rcases h with e | e
  ·rw [e];exact Pa
  ·rw [e];exact OT _ Pa
theorem LA:Od "paper" ∉ iJ:=VB
theorem LB{xs:List De}{n:Int}{res:List Rw}(g:hJ xs)(h:g6 iJ n (xs.map De.rw) res):∃L,rM xs n L/\lA res=L.map dB:=by
 have from1:∀x∈res,x.w=Od "rule"->∃pt:Pt,pt.Ok/\x.r=[pt.enc]/\De.oth (Od "rule") x.n x.nm [pt.enc]∈xs:=λx hx hw=>by
  obtain⟨h1,_,_⟩:=h.it x hx;obtain⟨y,hy,rfl⟩:=OE.mp h1;cases y with
  | pap p=>exact absurd hw (by show Od "paper"≠_;decide+kernel)
  | oth w d nm r=>
   have hw:w=Od "rule":=hw;subst hw;obtain⟨pt,e,ok⟩:=g.ru _ _ _ hy;subst e;exact⟨pt,ok,rfl,hy⟩
 have pick:∀l:List Rw,(∀x∈l,x∈res)->∃L:List (Str×Pt),lA l=L.map dB/\L.map (·.1)=(l.filter λx=>x.w==Od "rule").map (·.nm)/\∀z∈L,∃x∈l,x.w=Od "rule"/\x.nm=z.1/\x.r=[z.2.enc]:=by
  intro l
  induction l with
  | nil=>intro _;exact⟨[],rfl,rfl,VH⟩
  | cons a l ih=>
   intro hl;obtain⟨L,e1,e2,e3⟩:=ih λx hx=>hl x (by simp [hx]);by_cases hr:(a.w==Od "rule")=true
   ·obtain⟨pt,_,er,_⟩:=from1 a (hl a VH) (eq_of_beq hr);refine⟨(a.nm,pt)::L,?_,?_,?_⟩
    ·unfold lA at e1⊢;rw [Pb,VF hr,Ol,Ol,e1,er];rfl
    ·rw [Pb,VF hr,Ol,Ol,e2]
    ·intro z hz;rcases Ox.mp hz with rfl | hz
     ·exact⟨a,VH,eq_of_beq hr,rfl,er⟩
     ·obtain⟨x,hx,h'⟩:=e3 z hz;exact⟨x,by simp [hx],h'⟩
   ·refine⟨L,?_,?_,?_⟩
    ·unfold lA at e1⊢;rw [Pb,VE hr,e1]
    ·rw [Pb,VE hr,e2]
    ·intro z hz;obtain⟨x,hx,h'⟩:=e3 z hz;exact⟨x,by simp [hx],h'⟩
 obtain⟨L,e1,e2,e3⟩:=pick res λ_ h=>h;have key:∀x∈res,∀pt:Pt,x.r=[pt.enc]->x.w=Od "rule"->CK xs n (x.nm,pt):=λx hx pt er hw=>by
  obtain⟨pt',_,er',hm⟩:=from1 x hx hw;obtain⟨h1,⟨_,h2⟩,h3⟩:=h.it x hx;rw [er] at er';rw [<-(Tn er').1] at hm;refine⟨x.n,h2,hm,λy hy ye yn yd=>?_⟩;obtain⟨a,b,c⟩:=CN ye;have:=h3 y.rw (OE.mpr ⟨y,hy,rfl⟩) ⟨a,by rw [c];exact yd⟩ (by rw [b];exact yn);rw [c] at this;exact this
 refine⟨L,⟨?_,λz=>⟨λhz=>?_,λhz=>?_⟩⟩,e1⟩
 ·have up:(L.map (·.1)).Pairwise λa b=>dJ a b=true:=by
   rw [e2];exact h.up.sublist (Sj.map _)
  have nd:(L.map (·.1)).Nodup:=by
   rw [e2];exact h.nd.sublist (Sj.map _)
  rw [PK] at up;rw [SX,PK] at nd;exact up.and nd
 ·obtain⟨x,hx,hw,hn,hr⟩:=e3 z hz;have:=key x hx z.2 hr hw;rw [hn] at this;exact this
 ·obtain⟨d,hd,hm,hal⟩:=hz;have hmr:(De.oth (Od "rule") d z.1 [z.2.enc]).rw∈xs.map De.rw:=OE.mpr ⟨_,hm,rfl⟩;have hok:fT iJ n (De.oth (Od "rule") d z.1 [z.2.enc]).rw:=⟨Pa,hd⟩;obtain⟨x,hx,xn⟩:=h.al _ hmr hok;have xn:x.nm=z.1:=xn;obtain⟨h1,⟨h2a,h2b⟩,h3⟩:=h.it x hx;obtain⟨y,hy,ey⟩:=OE.mp h1;have hyE:y.isE=true:=Lz (by rw [ey];exact h2a) λp hp=>by
   rw [hp] at ey;rw [<-ey] at h2a;exact LA h2a
  obtain⟨_,yb,yc⟩:=CN hyE;have dd:d<=x.n:=h3 _ hmr hok xn.symm;have dd2:x.n<=d:=by
   have:=hal y hy hyE (by rw [<-yb,ey];exact xn) (by rw [<-yc,ey];exact h2b);rw [<-yc,ey] at this;exact this
  have ee:y=De.oth (Od "rule") d z.1 [z.2.enc]:=g.re y hy _ hm hyE (by simp [De.isE]) (by rw [<-yc,ey];exact U9 dd2 dd) (by rw [<-yb,ey];exact xn);subst ee;have hw:x.w=Od "rule":=by rw [<-ey];rfl
  have hr:x.r=[z.2.enc]:=by rw [<-ey];rfl
  have:z.1∈L.map (·.1):=by
   rw [e2];exact OE.mpr ⟨x,Po.mpr ⟨hx,by rw [hw];exact beq_self_eq_true _⟩,xn⟩
  obtain⟨v,hv,vn⟩:=OE.mp this;obtain⟨x',hx',hw',hn',hr'⟩:=e3 v hv;have exx:x'=x:=CI h.nd hx' hx (hn'.trans (vn.trans xn.symm));rw [exx,hr] at hr';have:v=z:=by
   obtain⟨v1,v2⟩:=v;obtain⟨z1,z2⟩:=z;have a1:v1=z1:=vn;have a2:z2.enc=v2.enc:=(Tn hr').1;rw [a1,CH a2.symm]
  rw [<-this];exact hv
def LC:List VI->(VI->Prop)->Prop:=λds Q=>∃(xs:List De)(n:Int),ds=[.tuple (xs.map De.enc),.int n]/\hJ xs/\(rM xs n (lB xs n)->(lB xs n).length<=41->Q (.tuple ((lB xs n).map dB)))
theorem CO{xs:List De}(g:hJ xs)(wok:∀w d nm r,De.oth w d nm r∈xs->Om w=true):CF (xs.map De.rw):=by
 refine⟨λx hx=>?_,λx hx hw=>?_,?_⟩
 ·obtain⟨y,hy,rfl⟩:=OE.mp hx;cases y with
  | pap p=>show Om (Od "paper")=true;decide+kernel
  | oth w d nm r=>exact wok _ _ _ _ hy
 ·obtain⟨y,hy,rfl⟩:=OE.mp hx;cases y with
  | pap p=>exact absurd hw (by show Od "paper"≠_;decide+kernel)
  | oth w d nm r=>
   have hw:w=Od "rule":=hw;subst hw;obtain⟨pt,e,_⟩:=g.ru _ _ _ hy;exact⟨_,e⟩
 ·rw [Oe];have:=g.gx.ln;omega
theorem LD(T:Txt K mg t):aD P w K mg base CX0 2 t.a_R t.d_R ["deeds","day"] (aW K LC):=
 (Lv T).imp λvs H Q E ⟨O,ds,Qd,tr,hs,⟨xs,n,e,g,q⟩,k⟩=>⟨O,ds,Qd,tr,hs,⟨xs.map De.rw,n,by rw [CJ];exact e,CO g (λw d nm r h=>g.gx.w _ h),λres hres=>by
  obtain⟨L,h1,h2⟩:=LB g hres;have e:=Ly h1;rw [h2,e];refine q (by rw [<-e];exact h1) ?_;have hl:(lA res).length<=res.length:=by unfold lA;rw [Oe];exact O8 _ _
  have:=hres.le;rw [Oe] at this;rw [h2,Oe,e] at hl;have:=g.gx.ln;omega⟩,k⟩
end
theorem CQ:bq (ag jt) ["paper","since","day","days"] ["other","day"] 1 [2] ⟨Oq,[ (Of ".0",Xk),(Of "other",Xk),(Of "day",OA)],false,false,[]⟩:=⟨rfl,VB,VB,VB,rfl,VB,VB,VB,rfl⟩
section
variable {P:VW} {w:VX} {K:Og} {mg:Str->Option VJ} {base:VY} {t:cz}
open Classical in
def jJ(d k:Int)(u:Str):Int:=if h:∃r,qp d k u r then h.choose else 0
theorem CS{d k:Int}{u:Str}{r:Int}(h:qp d k u r):r=jJ d k u:=by
 unfold jJ;rw [dif_pos ⟨r,h⟩];exact K6 h (Exists.choose_spec (⟨r,h⟩:∃r,qp d k u r))
def bT:Option Int->VI
 | none=>.none
 | some i=>.int i
def gH(r:Rp):Prop:=sZ r.hs/\Om r.c.kd=true/\r.ts.length<=41/\∀m∈r.ts,Om m=true
def rN(r:Rp)(wd:Str)(n:Int):List Int:=(eF r.hs wd).filter λz=>decide (z<=n)
def uZ(r:Rp)(n:Int):cc->Option Int
 | .com=>some r.c.d
 | .fst wd=>(rN r wd n).head?
 | .lst wd=>(rN r wd n).getLast?
theorem LF{l:List Int}{Q:VI->Prop}(q:Q (bT l.head?)):if (!(l.map λz=>OJ z).isEmpty)=false then Q .none else ∃d,atI (l.map λz=>OJ z) 0=some d/\Q d:=by
 cases l with
 | nil=>rw [VF (by rfl)];exact q
 | cons a l=>rw [VE VH];exact⟨.int a,d7,q⟩
theorem zQ{l:List VI}{a:VI}:atI (l++[a]) (-1)=some a:=by
 unfold atI iU;rw [VE VD,VF (by rw [OG,QQ];omega)];rw [show((-1:Int)+((l++[a]).length:Nat)).toNat=l.length by rw [OG,QQ];omega];simp
theorem LG{l:List Int}{Q:VI->Prop}(q:Q (bT l.getLast?)):if (!(l.map λz=>OJ z).isEmpty)=false then Q .none else ∃d,atI (l.map λz=>OJ z) (-1)=some d/\Q d:=by
 rcases List.eq_nil_or_concat l with e | ⟨l',a,e⟩
 ·subst e;rw [VF (by rfl)];exact q
 ·rw [List.concat_eq_append] at e;subst e;rw [VE VH];refine⟨.int a,?_,?_⟩
  ·rw [OO];exact zQ
  ·rw [List.getLast?_concat] at q;exact q
def LH(C:VM):List VI->(VI->Prop)->Prop:=λds Q=>∃(r:Rp)(s:cc)(n:Int),ds=[r.enc C,s.enc,.int n]/\s.Ok/\gH r/\Q (bT (uZ r n s))
theorem LI(T:Txt K mg t):aD P w K mg base CX0 2 t.a_W t.d_W ["paper","since","day"] (aW K (LH t.u_Paper)):=by
 have G_V:=@CA P w _ _ base _ T;refine T.F_W.okD B0 (λds Q h=>?_) (λ_ _ _ _ H O ds Q E hr h=>?_)
 ·obtain⟨r,s,n,rfl,_⟩:=h;rfl
 ·obtain⟨r,si,n,rfl,hsi,hh,q⟩:=h;refine'⟨_,?A,?B⟩
  case A=>
   refine' aq ?C ?D
   case C=>
    exact bH (aU (cD hr) cE (df (aj aF aJ (df (dv 1)) (df af))) (df bg) (aE _)) (aA (aT (cu (C:=t.u_Paper) T.cl_Paper T.na_Paper_coming (dv 0)))) bG
   case' D=>refine' aq ?E ?F
   case E=>exact(i9 (i:=3) B0.nd rfl VG (we rfl CQ (df (PE.imp (aH G_V (hr.mono VC) rfl T.m_V T.F_V.kp T.b_V .nil aB (aa (dv 0) (aa (aj aF aJ (df (dv 1)) (df af)) ao))) aR)) aN bO VC (λ_ _ _ _=>(aM (i:=0) CQ.nd rfl VG)) (λ_ _ _ _=>(cU (aU jW cW (df (dv 0)) (df (dv 1)) (aE _)))) (λ_ _ _ _=>(dv 0))))
   case' F=>refine' aq ?G ?H
   case G=>
    refine' bH (oJ (uN (dv 3))) ?I bG
    case I=>refine' aA (aT d5)
   case' H=>refine' aA ?J
   case' J=>refine' aT ?K
   case K=>exact(sM (aU (cD hr) cE (df (aj aF aJ (df (dv 1)) (df af))) (df bg) (aE _)) (aj aX bb (df (dv 3)) (df af)) (aj aX bb (df (dv 3)) (df (Iz af))))
  case B=>
  clear hr T G_V;have dl:∀wd,(eF r.hs wd).length<=41:=λwd=>by
   unfold eF;rw [Oe];exact O7 (O8 _ _) hh.1.1
  cases si with
  | com=>
   simp only [cc.enc];walk_at "z";exact⟨[Od "name",Od "coming",Od "kind",Od "makers",Od "happenings"],_,rfl,_,uX,q⟩
  | fst wd=>
   simp only [cc.enc];walk_at "z";rw [bS (show Od "first"≠Od "coming" by decide+kernel),VE Ot];have dl:=dl wd;refine⟨r,wd,rfl,hh.1,hsi,_,rfl,by rw [Oe];omega,cZ (λz=>decide (z<=n)) (λz=>.int z) (λx hx R S h=>?_) ?_⟩
   ·walk_at "z";simpa using h
   ·have q:Q (bT (rN r wd n).head?):=q;unfold rN at q;exact LF q
  | lst wd=>
   simp only [cc.enc];walk_at "z";rw [bS (show Od "last"≠Od "coming" by decide+kernel),VE Ot];have dl:=dl wd;refine⟨r,wd,rfl,hh.1,hsi,_,rfl,by rw [Oe];omega,cZ (λz=>decide (z<=n)) (λz=>.int z) (λx hx R S h=>?_) ?_⟩
   ·walk_at "z";simpa using h
   ·have q:Q (bT (rN r wd n).getLast?):=q;unfold rN at q;exact LG q
def fI(r:Rp)(n:Int):Pt->Option Int
 | .five _ _ s k u=>(uZ r n s).map λb=>jJ b k u
 | .two _ _=>none
def LJ(C:VM):List VI->(VI->Prop)->Prop:=λds Q=>∃(r:Rp)(w kd:Str)(s:cc)(k:Int)(u:Str)(n:Int),ds=[r.enc C,(Pt.five w kd s k u).enc,.int n]/\s.Ok/\oj u/\gH r/\Q (bT (fI r n (.five w kd s k u)))
theorem CT(T:Txt K mg t):aD P w K mg base CX0 6 t.a_X t.d_X ["paper","parts","day"] (aW K (LJ t.u_Paper)):=by
 have G_W:=@LI P w _ _ base _ T;have G_H:=@Cj P w _ _ base _ T;refine T.F_X.okD B1 (λds Q h=>?_) (λ_ _ _ _ H O ds Q E hr h=>?_)
 ·obtain⟨r,w,kd,s,k,u,n,rfl,_⟩:=h;rfl
 ·obtain⟨r,wo,kd,si,k,u,n,rfl,hsi,hu,hh,q⟩:=h;refine'⟨_,?A,?B⟩
  case A=>
   refine' aq ?C ?D
   case C=>
    refine' bt (i:=3) B1.nd rfl VG ?E (hs:=qZ)
    case E=>exact(PE.imp (aH G_W (hr.mono VC) rfl T.m_W T.F_W.kp T.b_W .nil aB (aa (dv 0) (aa (aj aF aJ (df (dv 1)) (df af)) (aa (dv 2) ao)))) aR)
   case' D=>refine' aq ?F ?G
   case F=>
    refine' bH (aU lK nz (df (dv 3)) (df d5) (aE _)) ?H bG
    case H=>refine' aA (aT d5)
   case' G=>refine' aA ?I
   case' I=>refine' aT ?J
   case J=>exact(PE.imp (aH G_H (hr.mono VC) rfl T.m_H T.F_H.kp T.b_H .nil aB (aa (dv 3) (aa (aj aF aJ (df (dv 1)) (df af)) (aa (aj aF aJ (df (dv 1)) (df af)) ao)))) aR)
  case B=>
  clear hr T G_W G_H;simp only [Pt.enc];walk_at "z";refine⟨r,si,n,rfl,hsi,hh,?_⟩;have q:Q (bT ((uZ r n si).map λb=>jJ b k u)):=q;cases hb:uZ r n si with
  | none=>
   rw [hb] at q;simp only [bT,dN];walk_at "z";exact q
  | some b=>
   rw [hb] at q;simp only [bT,dN];walk_at "z";exact⟨b,k,u,rfl,hu,λx hx=>by rw [CS hx];exact q⟩
theorem CU{xs:List De}{c:Pp}(g:hJ xs)(hc:c∈aI xs)(h1:∀z,z∈jH (fk xs c.nm)↔z∈fk xs c.nm)(h3:(jH (fk xs c.nm)).length<=41):gH (gb xs c):=by
 refine⟨⟨h3,λz hz=>?_⟩,g.gx.gp.kd c hc,?_,λm hm=>?_⟩
 ·have hz:=(h1 z).mp hz;unfold fk at hz;obtain⟨x,hx,e⟩:=OE.mp hz;obtain⟨hx1,hx2⟩:=Po.mp hx;cases x with
  | pap p=>cases hx2
  | oth w d nm r=>
   simp only [dP,Pz,beq_iff_eq] at hx2;obtain⟨rfl,rfl⟩:=hx2;obtain⟨wd,rfl,hw⟩:=g.hp _ _ _ hx1;rw [<-e];exact hw
 ·show((hG (aI xs) c).map (·.nm)).length<=41;rw [Oe];exact xT g.gx.gp
 ·obtain⟨p,hp,rfl⟩:=OE.mp hm;exact g.gx.gp.nm p (jG.mp (Po.mp hp).1)
end
theorem CV:bq (ag ju) ["paper","rules","day"] ["pair","paper"] 1 [0] ⟨Oq,[ (Of ".0",Xk),(Of "pair",Xk),(Of "paper",OA)],false,false,[]⟩:=⟨rfl,VB,VB,VB,rfl,VB,VB,VB,rfl⟩
theorem CW:bq (ag jv) ["paper","rules","day","gone","left","calls","rule","parts","due"] ["maker","gone","day"] 1 [3,2] ⟨Oq,[ (Of ".0",Xk),(Of "maker",Xk),(Of "has_gone",OQ),(Of "day",OA),(Of "gone",OA)],false,false,[]⟩:=⟨rfl,VB,VB,VB,rfl,VB,VB,VB,rfl⟩
theorem CY:bq (ag jw) ["paper","rules","day","gone","away","calls","rule","parts","due"] ["maker","gone","day"] 1 [3,2] ⟨Oq,[ (Of ".0",Xk),(Of "maker",Xk),(Of "has_gone",OQ),(Of "day",OA),(Of "gone",OA)],false,false,[]⟩:=⟨rfl,VB,VB,VB,rfl,VB,VB,VB,rfl⟩
theorem xW:bq (ag jx) ["kind","rules"] ["rule","parts","kind"] 2 [0] ⟨Oq,[ (Of ".0",Xk),(Of "rule",Xk),(Of "parts",Xk),(Of "kind",OA)],false,false,[]⟩:=⟨rfl,VB,VB,VB,rfl,VB,VB,VB,rfl⟩
section
variable {P:VW} {w:VX} {K:Og} {mg:Str->Option VJ} {base:VY} {t:cz}
structure Gn where
 ks:List Str
 gs:List Int
def Gn.enc(g:Gn):VI:=fW g.ks (g.gs.map .int)
def tf:List Str->List Int->Str->Option Int
 | k::ks,d::ds,z=>if k=z then some d else tf ks ds z
 | _,_,_=>none
theorem CZ:∀(ks:List Str)(gs:List Int)(z:Str),br ks (gs.map .int) z=(tf ks gs z).map .int
 | [],_,_=>rfl
 | _::_,[],_=>rfl
 | k::ks,g::gs,z=>by
  rw [Ol];unfold br tf;by_cases h:k=z
  ·rw [VF h,VF h];rfl
  ·rw [VE h,VE h];exact CZ ks gs z
def Gn.at(g:Gn)(z:Str):Option Int:=tf g.ks g.gs z
def Gn.has(g:Gn)(n:Int)(z:Str):Bool:=match g.at z with
 | some d=>decide (d<=n)
 | none=>false
def LK:List VI->(VI->Prop)->Prop:=λds Q=>∃(g:Gn)(z:Str)(n:Int),ds=[g.enc,.str z,.int n]/\Q (.bool (g.has n z))
theorem C0(T:Txt K mg t):aD P w K mg base CX0 1 t.a_Z t.d_Z ["gone","paper","day"] (aW K LK):=by
 refine T.F_Z.okD B2 (λds Q h=>?_) (λ_ _ _ _ H O ds Q E hr h=>?_)
 ·obtain⟨g,z,n,rfl,_⟩:=h;rfl
 ·obtain⟨g,z,n,rfl,q⟩:=h;refine'⟨_,?A,?B⟩
  case A=>
   refine' aq ?C ?D
   case C=>exact(bt (i:=3) B2.nd rfl VG (J3 hr.units (dv 0) (dv 1) ⟨rfl,rfl,rfl,rfl⟩))
   case' D=>refine' aA ?E
   case' E=>refine' aT ?F
   case F=>exact(j0 (cO vG wu (df (dv 3)) (df d5) (aE _)) (lV (cO jW cW (df (dv 3)) (df (dv 2)) (aE _))))
  case B=>
  clear hr T;simp only [Gn.enc];walk_at "z";refine⟨g.ks,_,rfl,?_⟩;rw [CZ];have q:Q (.bool (match g.at z with | some d=>decide (d<=n) | none=>false)):=q;unfold Gn.at at q;cases hd:tf g.ks g.gs z with
  | none=>
   rw [hd] at q;simp only [Q1,TH,dN];walk_at "z";exact q
  | some d=>
   rw [hd] at q;simp only [Q0,Option.getD_some,dN];walk_at "z";exact q
theorem C1{a b c d e:VI}:br [Od "name",Od "coming",Od "kind",Od "makers",Od "happenings"] [a,b,c,d,e] (Od "makers")=some d:=by
 simp only [br];rw [VE VB,VE VB,VE VB,VF trivial]
def Pt.wd:Pt->Str
 | .two w _=>w
 | .five w _ _ _ _=>w
def Pt.kd:Pt->Str
 | .two _ kd=>kd
 | .five _ kd _ _ _=>kd
theorem Pt.kdOk{p:Pt}(h:p.Ok):Om p.kd=true:=by cases p with | two w kd=>exact h.2.2 | five w kd s k u=>exact h.2.1
theorem Pt.at1(p:Pt):∃l,p.enc= .tuple l/\atI l 1=some (.str p.kd):=by cases p <;> exact⟨_,rfl,eQ⟩
def iK(L:List (Str×Pt)):Prop:=L.length<=41/\∀z∈L,z.2.Ok
def jK(r:Rp)(n:Int)(L:List (Str×Pt)):List (Str×Pt):=if r.c.d > n then [] else L.filter λz=>z.2.kd==r.c.kd
def LL(C:VM):List VI->(VI->Prop)->Prop:=λds Q=>∃(r:Rp)(L:List (Str×Pt))(n:Int),ds=[r.enc C,.tuple (L.map dB),.int n]/\gH r/\iK L/\Q (.list ((jK r n L).map dB))
theorem C3(T:Txt K mg t):aD P w K mg base CX0 1 t.a_Y t.d_Y ["paper","rules","day"] (aW K (LL t.u_Paper)):=by
 refine T.F_Y.okD Kw (λds Q h=>?_) (λ_ _ _ _ H O ds Q E hr h=>?_)
 ·obtain⟨r,L,n,rfl,_⟩:=h;rfl
 ·obtain⟨r,L,n,rfl,hr',hL,q⟩:=h;refine'⟨_,?A,?B⟩
  case A=>
   refine' aq ?C ?D
   case C=>
    refine' bH ?E ?F bG
    case E=>exact(aU iS cW (df (cu (C:=t.u_Paper) T.cl_Paper T.na_Paper_coming (dv 0))) (df (dv 2)) (aE _))
    case' F=>refine' aA ?G
    case G=>exact(aT (fe (cn ao)))
   case' D=>refine' aA ?H
   case' H=>refine' aT ?I
   case' I=>refine' fe ?J
   case J=>exact(i6 rfl CV (df (dv 1)) aN bO VC (λ_ _ _ _=>(aM (i:=0) CV.nd rfl VG)) (λ_ _ _ _=>(cU (aU (cx hr.units) cy (df (aj aF aJ (df (aj aF aJ (df (dv 0)) (df af))) (df af))) (df (cu (C:=t.u_Paper) T.cl_Paper T.na_Paper_kind (dv 1))) (aE _)))) (λ_ _ _ _=>(dv 0)))
  case B=>
  clear hr T;walk_at "z";refine⟨[Od "name",Od "coming",Od "kind",Od "makers",Od "happenings"],_,rfl,_,uX,r.c.d,rfl,?_⟩;unfold jK at q;by_cases hd:r.c.d > n
  ·rw [VF hd] at q⊢;exact q
  ·rw [VE hd] at q⊢;refine⟨by rw [Oe];have:=hL.1;omega,cZ (λz:Str×Pt=>z.2.kd==r.c.kd) dB (λx hx R S h=>?_) q⟩;simp only [dB];obtain⟨l,e1,e2⟩:=Pt.at1 x.2;rw [e1];walk_at "z";refine⟨_,e2,[Od "name",Od "coming",Od "kind",Od "makers",Od "happenings"],_,rfl,_,uY,cJ.mpr (Pt.kdOk (hL.2 x hx)),cJ.mpr hr'.2.1,?_⟩;rw [d8];simp only [dB] at h;rw [e1] at h;exact h
def cA(z:Str×VI):VI:= .tuple [.str z.1,z.2]
def lC(r:Rp)(n:Int)(g:Gn):List Str:=r.ts.filter λm=>!g.has n m
def lE(r:Rp)(n:Int)(g:Gn):List Str:=r.ts.filter λm=>g.has n m
def rO(n:Int):Option Int->Bool
 | none=>true
 | some d=>decide (d > n)
def rP(r:Rp)(n:Int)(g:Gn):Pt->Option VI
 | .five w kd s k u=>if w=Od "keep"/\rO n (fI r n (.five w kd s k u))=true then some (bT (fI r n (.five w kd s k u))) else none
 | .two w kd=>if w=Od "while" then(lC r n g).head?.map .str else none
def rQ(r:Rp)(n:Int)(g:Gn):Pt->Option VI
 | .five w kd s k u=>if w=Od "gone"/\rO n (fI r n (.five w kd s k u))=false then some (bT (fI r n (.five w kd s k u))) else none
 | .two w kd=>if w=Od "follow" then(lE r n g).head?.map .str else none
def xX(r:Rp)(n:Int)(g:Gn)(z:Str×Pt):List (Str×VI):=((rP r n g z.2).map λb=>(z.1,b)).toList
def xY(r:Rp)(n:Int)(g:Gn)(z:Str×Pt):List (Str×VI):=((rQ r n g z.2).map λb=>(z.1,b)).toList
def hU(r:Rp)(n:Int)(g:Gn)(L:List (Str×Pt)):List (Str×VI):=(jK r n L).flatMap (xX r n g)
def lF(r:Rp)(n:Int)(g:Gn)(L:List (Str×Pt)):List (Str×VI):=(jK r n L).flatMap (xY r n g)
theorem u5{α β:Type}{f:α->List β}(h:∀x,(f x).length<=1):∀l:List α,(l.flatMap f).length<=l.length
 | []=>by simp
 | x::l=>by
  rw [Tt,OG,OC];have:=h x;have:=u5 h l;omega
theorem xZ{α:Type}(o:Option α):o.toList.length<=1:=by cases o <;> simp
theorem C4{f:Str×Pt->Option VI}(M:List (Str×Pt))(hM:M.length<=41):∃acc:Nat->List VI,acc 0=[]/\(∀i,(acc i).length<=41)/\(∀i x,M[i]?=some x->f x=none->acc (i+1)=acc i)/\(∀i x,M[i]?=some x->∀b,f x=some b->acc (i+1)=acc i++[.tuple [.str x.1,b]])/\acc M.length=(M.flatMap λz=>((f z).map λb=>(z.1,b)).toList).map cA:=by
 refine⟨λi=>((M.take i).flatMap λz=>((f z).map λb=>(z.1,b)).toList).map cA,rfl,λi=>?_,λi x hx e=>?_,λi x hx b e=>?_,?_⟩
 ·show(Pn cA _).length<=41;rw [Oe];refine O7 (u5 (λz=>xZ _) _) ?_;rw [Pf];omega
 ·show Pn cA _=Pn cA _;rw [Pd,hx,RP];simp [e]
 ·show Pn cA _=Pn cA _++_;rw [Pd,hx,RP,OO];simp [e,cA]
 ·show Pn cA _=_;rw [OZ (Oi _)]
theorem u7{r:Rp}{n:Int}{L:List (Str×Pt)}(h:iK L):iK (jK r n L):=by
 unfold jK;split
 ·exact⟨VH,VH⟩
 ·exact⟨O7 (O8 _ _) h.1,λz hz=>h.2 z (Po.mp hz).1⟩
def rR(C:VM)(r:Rp)(L:List (Str×Pt))(n:Int)(g:Gn)(ms:List Str)(a:List VI)(δ:Dl):Prop:=∃(o6 o7 o8:Option Sl),δ=[some (Sl.v (Rp.enc C r)),some (Sl.v (O5 (Pn dB L))),some (Sl.v (OJ n)),some (Sl.v g.enc),some (Sl.v (PX (ms.map λm=>Oj m))),some (Sl.o a),o6,o7,o8]
def F_a(C:VM):List VI->(VI->Prop)->Prop:=λds Q=>∃(r:Rp)(L:List (Str×Pt))(n:Int)(g:Gn),ds=[r.enc C,.tuple (L.map dB),.int n,g.enc]/\gH r/\iK L/\Q (.tuple ((hU r n g L).map cA))
theorem LM(T:Txt K mg t):aD P w K mg base CX0 7 t.a_a t.d_a ["paper","rules","day","gone"] (aW K (F_a t.u_Paper)):=by
 have G_Z:=@C0 P w _ _ base _ T;have G_Y:=@C3 P w _ _ base _ T;have G_X:=@CT P w _ _ base _ T;refine T.F_a.okD rB (λds Q h=>?_) (λ_ _ _ _ H O ds Q E hr h=>?_)
 ·obtain⟨r,L,n,g,rfl,_⟩:=h;rfl
 ·obtain⟨r,L,n,g,rfl,hr',hL,q⟩:=h;refine'⟨_,?A,?B⟩
  case A=>
   refine' aq ?C ?D
   case C=>exact(i9 (i:=4) rB.nd rfl VG (p7 rfl CW (df (cu (C:=t.u_Paper) T.cl_Paper T.na_Paper_makers (dv 0))) aN bO VC (λ_ _ _ _=>(aM (i:=0) CW.nd rfl VG)) (λ_ _ _ _=>(cU (oJ (fO (PE.imp (aH G_Z (hr.mono VC) rfl T.m_Z T.F_Z.kp T.b_Z .nil aB (aa (dv 1) (aa (dv 0) (aa (dv 2) ao)))) aR))))) (λ_ _ _ _=>(dv 0))))
   case' D=>refine' aq ?E ?F
   case E=>exact(iZ (i:=5) rB.nd rfl VG (cn ao))
   case' F=>refine' aq ?G ?H
   case G=>
    refine' mr Pk rfl (PE.imp (aH G_Y (hr.mono VC) rfl T.m_Y T.F_Y.kp T.b_Y .nil aB (aa (dv 0) (aa (dv 1) (aa (dv 2) ao)))) aR) ?I (gB (b7 aN (b7 aN gA))) ?J
    case I=>exact(gj (n:=2) rfl (b0 (aM (i:=6) rB.nd rfl VG) (b0 (aM (i:=7) rB.nd rfl VG) gi)))
    case' J=>refine' aq ?K ?L
    case K=>
     refine' bH ?M ?N bG
     case M=>exact(aU (cD hr) cE (df (aj aF aJ (df (dv 7)) (df af))) (df bg) (aE _))
     case' N=>refine' aq ?O ?P
     case O=>exact(bt (i:=8) rB.nd rfl VG (PE.imp (aH G_X (hr.mono VC) rfl T.m_X T.F_X.kp T.b_X .nil aB (aa (dv 0) (aa (dv 7) (aa (dv 2) ao)))) aR))
     case' P=>refine' aA ?Q
     case' Q=>refine' bH ?R ?S bG
     case R=>exact(PW.pt (qO (aU lK nz (df (dv 8)) (df d5) (aE _)) (qN (aU iS cW (df (dv 8)) (df (dv 2)) (aE _)))))
     case' S=>refine' aA ?T
     case T=>exact(lZ (i:=5) (pv 5) (bN (aa (dv 6) (aa (dv 8) ao))))
    case' L=>refine' aA ?U
    case' U=>refine' bH ?V ?W bG
    case V=>exact(PW.pt (fg (aU (cD hr) cE (df (aj aF aJ (df (dv 7)) (df af))) (df bg) (aE _)) (fc (uN (dv 4)))))
    case' W=>refine' aA ?X
    case' X=>refine' lZ (i:=5) (pv 5) ?Y
    case Y=>exact(bN (aa (dv 6) (aa (aj aX bb (df (dv 4)) (df af)) ao)))
   case' H=>refine' aA ?Z
   case Z=>exact(aT (PE.imp (dF gr rfl T.n_tuple fy (bj (dw 5) bo)) (bD gC)))
  case B=>
  clear hr T G_Z G_Y G_X;walk_at "z";refine⟨[Od "name",Od "coming",Od "kind",Od "makers",Od "happenings"],_,rfl,_,C1,_,rfl,by rw [Oe];have:=hr'.2.2.1;omega,cZ (λm=>!g.has n m) (λm=>.str m) (λx hx R S h=>?_) ?_⟩
  ·walk_at "z";exact⟨g,x,n,rfl,by simpa using h⟩
  ·refine⟨r,L,n,rfl,hr',hL,?_⟩;have ok:=u7 (r:=r) (n:=n) hL;walk_at "z";have q:Q (.tuple (((jK r n L).flatMap (xX r n g)).map cA)):=q;generalize hM:jK r n L=M at ok q⊢;obtain⟨acc,a0,al,an,as,ae⟩:=C4 (f:=λz:Str×Pt=>rP r n g z.2) M ok.1;generalize hE:d4.mk _ _ _ _=EE;have eN:=congrArg d4.nx hE;simp only at eN;clear hE;refine⟨λi=>rR t.u_Paper r L n g (lC r n g) (acc i),⟨none,none,none,by rw [a0];rfl⟩,?_,?_⟩
   ·rintro i z δ hz ⟨o6,o7,o8,rfl⟩;rw [OD] at hz;cases hz':M[i]? with
    | none=>rw [hz'] at hz;cases hz
    | some x=>
     rw [hz'] at hz;cases hz;have xo:=ok.2 x (O4 hz');have tl:=al i;have none_:=an i x hz';have some_:=as i x hz';obtain⟨nm,pt⟩:=x;simp only [dB];have fin:∀a(o6 o7 o8:Option Sl),acc (i+1)=a->rR t.u_Paper r L n g (lC r n g) (acc (i+1)) [some (Sl.v (Rp.enc t.u_Paper r)),some (Sl.v (O5 (Pn dB L))),some (Sl.v (OJ n)),some (Sl.v g.enc),some (Sl.v (PX ((lC r n g).map λm=>Oj m))),some (Sl.o a),o6,o7,o8]:=λa o6 o7 o8 e=>⟨o6,o7,o8,by rw [e]⟩;generalize rR t.u_Paper r L n g (lC r n g) (acc (i+1))=NX at fin⊢;clear eN;cases pt with
     | two w2 kd=>
      have k1:w2≠Od "keep":=λe=>xo.1 (.inl e);simp only [Pt.enc];walk_at "z";rw [bS k1,VE Ot];by_cases hw:w2=Od "while"
      ·subst hw;rw [VF (beq_self_eq_true _)];cases hl:lC r n g with
       | nil=>
        rw [hl] at fin;rw [VE VH];exact fin _ _ _ _ (none_ (by show(if Od "while"=Od "while" then(lC r n g).head?.map Oj else none)=none;rw [VF rfl,hl];rfl))
       | cons m l=>
        rw [hl] at fin;rw [VF (by rfl)];exact⟨_,d7,VD,fin _ _ _ _ (some_ (.str m) (by show(if Od "while"=Od "while" then(lC r n g).head?.map Oj else none)=some _;rw [VF rfl,hl];rfl))⟩
      ·rw [bS hw,VE Ot];exact fin _ _ _ _ (none_ (by show(if w2=Od "while" then(lC r n g).head?.map Oj else none)=none;rw [VE hw]))
     | five w2 kd si k u=>
      have k1:w2≠Od "while":=λe=>by rcases xo.1 with z | z <;> rw [z] at e <;> exact absurd e VB
      simp only [Pt.enc];walk_at "z";by_cases hw:w2=Od "keep"
      ·subst hw;rw [VF (beq_self_eq_true _)];refine⟨r,Od "keep",kd,si,k,u,n,rfl,xo.2.2.1,xo.2.2.2.2.2,hr',?_⟩;have df:rP r n g (.five (Od "keep") kd si k u)=if Od "keep"=Od "keep"/\rO n (fI r n (.five (Od "keep") kd si k u))=true then some (bT (fI r n (.five (Od "keep") kd si k u))) else none:=rfl
       cases hd:fI r n (.five (Od "keep") kd si k u) with
       | none=>
        rw [hd] at df;simp only [bT,dN];walk_at "z";refine⟨VD,?_⟩;rw [bS (show Od "keep"≠Od "while" by decide+kernel),VE Ot];exact fin _ _ _ _ (some_ .none (by rw [df,VF ⟨rfl,rfl⟩];rfl))
       | some d=>
        rw [hd] at df;simp only [bT,dN];walk_at "z";by_cases hdn:n < d
        ·rw [VF hdn];refine⟨VD,?_⟩;rw [bS (show Od "keep"≠Od "while" by decide+kernel),VE Ot];exact fin _ _ _ _ (some_ (.int d) (by rw [df,VF ⟨rfl,decide_eq_true hdn⟩];rfl))
        ·rw [VE hdn];rw [bS (show Od "keep"≠Od "while" by decide+kernel),VE Ot];exact fin _ _ _ _ (none_ (by rw [df,VE λz=>hdn (of_decide_eq_true z.2)]))
      ·rw [bS hw,VE Ot,bS k1,VE Ot];exact fin _ _ _ _ (none_ (by show(if w2=Od "keep"/\rO n (fI r n (.five w2 kd si k u))=true then some (bT (fI r n (.five w2 kd si k u))) else none)=none;rw [VE λz=>hw z.1]))
   ·rintro δ ⟨o6,o7,o8,rfl⟩;rw [<-eN,Oe,ae];walk_at "z";exact q
def F_b(C:VM):List VI->(VI->Prop)->Prop:=λds Q=>∃(r:Rp)(L:List (Str×Pt))(n:Int)(g:Gn),ds=[r.enc C,.tuple (L.map dB),.int n,g.enc]/\gH r/\iK L/\Q (.tuple ((lF r n g L).map cA))
theorem LN(T:Txt K mg t):aD P w K mg base CX0 7 t.a_b t.d_b ["paper","rules","day","gone"] (aW K (F_b t.u_Paper)):=by
 have G_Z:=@C0 P w _ _ base _ T;have G_Y:=@C3 P w _ _ base _ T;have G_X:=@CT P w _ _ base _ T;refine T.F_b.okD rC (λds Q h=>?_) (λ_ _ _ _ H O ds Q E hr h=>?_)
 ·obtain⟨r,L,n,g,rfl,_⟩:=h;rfl
 ·obtain⟨r,L,n,g,rfl,hr',hL,q⟩:=h;refine'⟨_,?A,?B⟩
  case A=>
   refine' aq ?C ?D
   case C=>exact(i9 (i:=4) rC.nd rfl VG (p7 rfl CY (df (cu (C:=t.u_Paper) T.cl_Paper T.na_Paper_makers (dv 0))) aN bO VC (λ_ _ _ _=>(aM (i:=0) CY.nd rfl VG)) (λ_ _ _ _=>(cU (fO (PE.imp (aH G_Z (hr.mono VC) rfl T.m_Z T.F_Z.kp T.b_Z .nil aB (aa (dv 1) (aa (dv 0) (aa (dv 2) ao)))) aR)))) (λ_ _ _ _=>(dv 0))))
   case' D=>refine' aq ?E ?F
   case E=>exact(iZ (i:=5) rC.nd rfl VG (cn ao))
   case' F=>refine' aq ?G ?H
   case G=>
    refine' mr Pk rfl (PE.imp (aH G_Y (hr.mono VC) rfl T.m_Y T.F_Y.kp T.b_Y .nil aB (aa (dv 0) (aa (dv 1) (aa (dv 2) ao)))) aR) ?I (gB (b7 aN (b7 aN gA))) ?J
    case I=>exact(gj (n:=2) rfl (b0 (aM (i:=6) rC.nd rfl VG) (b0 (aM (i:=7) rC.nd rfl VG) gi)))
    case' J=>refine' aq ?K ?L
    case K=>
     refine' bH ?M ?N bG
     case M=>exact(aU (cD hr) cE (df (aj aF aJ (df (dv 7)) (df af))) (df bg) (aE _))
     case' N=>refine' aq ?O ?P
     case O=>exact(bt (i:=8) rC.nd rfl VG (PE.imp (aH G_X (hr.mono VC) rfl T.m_X T.F_X.kp T.b_X .nil aB (aa (dv 0) (aa (dv 7) (aa (dv 2) ao)))) aR))
     case' P=>refine' aA ?Q
     case' Q=>refine' bH ?R ?S bG
     case R=>exact(PW.pt (fg (aU vG wu (df (dv 8)) (df d5) (aE _)) (fc (aU jW cW (df (dv 8)) (df (dv 2)) (aE _)))))
     case' S=>refine' aA ?T
     case T=>exact(lZ (i:=5) (pv 5) (bN (aa (dv 6) (aa (dv 8) ao))))
    case' L=>refine' aA ?U
    case' U=>refine' bH ?V ?W bG
    case V=>exact(PW.pt (fg (aU (cD hr) cE (df (aj aF aJ (df (dv 7)) (df af))) (df bg) (aE _)) (fc (uN (dv 4)))))
    case' W=>refine' aA ?X
    case' X=>refine' lZ (i:=5) (pv 5) ?Y
    case Y=>exact(bN (aa (dv 6) (aa (aj aX bb (df (dv 4)) (df af)) ao)))
   case' H=>refine' aA ?Z
   case Z=>exact(aT (PE.imp (dF gr rfl T.n_tuple fy (bj (dw 5) bo)) (bD gC)))
  case B=>
  clear hr T G_Z G_Y G_X;walk_at "z";refine⟨[Od "name",Od "coming",Od "kind",Od "makers",Od "happenings"],_,rfl,_,C1,_,rfl,by rw [Oe];have:=hr'.2.2.1;omega,cZ (λm=>g.has n m) (λm=>.str m) (λx hx R S h=>?_) ?_⟩
  ·walk_at "z";exact⟨g,x,n,rfl,by simpa using h⟩
  ·refine⟨r,L,n,rfl,hr',hL,?_⟩;have ok:=u7 (r:=r) (n:=n) hL;walk_at "z";have q:Q (.tuple (((jK r n L).flatMap (xY r n g)).map cA)):=q;generalize hM:jK r n L=M at ok q⊢;obtain⟨acc,a0,al,an,as,ae⟩:=C4 (f:=λz:Str×Pt=>rQ r n g z.2) M ok.1;generalize hE:d4.mk _ _ _ _=EE;have eN:=congrArg d4.nx hE;simp only at eN;clear hE;refine⟨λi=>rR t.u_Paper r L n g (lE r n g) (acc i),⟨none,none,none,by rw [a0];rfl⟩,?_,?_⟩
   ·rintro i z δ hz ⟨o6,o7,o8,rfl⟩;rw [OD] at hz;cases hz':M[i]? with
    | none=>rw [hz'] at hz;cases hz
    | some x=>
     rw [hz'] at hz;cases hz;have xo:=ok.2 x (O4 hz');have tl:=al i;have none_:=an i x hz';have some_:=as i x hz';obtain⟨nm,pt⟩:=x;simp only [dB];have fin:∀a(o6 o7 o8:Option Sl),acc (i+1)=a->rR t.u_Paper r L n g (lE r n g) (acc (i+1)) [some (Sl.v (Rp.enc t.u_Paper r)),some (Sl.v (O5 (Pn dB L))),some (Sl.v (OJ n)),some (Sl.v g.enc),some (Sl.v (PX ((lE r n g).map λm=>Oj m))),some (Sl.o a),o6,o7,o8]:=λa o6 o7 o8 e=>⟨o6,o7,o8,by rw [e]⟩;generalize rR t.u_Paper r L n g (lE r n g) (acc (i+1))=NX at fin⊢;clear eN;cases pt with
     | two w2 kd=>
      have k1:w2≠Od "gone":=λe=>xo.1 (.inr e);simp only [Pt.enc];walk_at "z";rw [bS k1,VE Ot];by_cases hw:w2=Od "follow"
      ·subst hw;rw [VF (beq_self_eq_true _)];cases hl:lE r n g with
       | nil=>
        rw [hl] at fin;rw [VE VH];exact fin _ _ _ _ (none_ (by show(if Od "follow"=Od "follow" then(lE r n g).head?.map Oj else none)=none;rw [VF rfl,hl];rfl))
       | cons m l=>
        rw [hl] at fin;rw [VF (by rfl)];exact⟨_,d7,VD,fin _ _ _ _ (some_ (.str m) (by show(if Od "follow"=Od "follow" then(lE r n g).head?.map Oj else none)=some _;rw [VF rfl,hl];rfl))⟩
      ·rw [bS hw,VE Ot];exact fin _ _ _ _ (none_ (by show(if w2=Od "follow" then(lE r n g).head?.map Oj else none)=none;rw [VE hw]))
     | five w2 kd si k u=>
      have k1:w2≠Od "follow":=λe=>by rcases xo.1 with z | z <;> rw [z] at e <;> exact absurd e VB
      simp only [Pt.enc];walk_at "z";by_cases hw:w2=Od "gone"
      ·subst hw;rw [VF (beq_self_eq_true _)];refine⟨r,Od "gone",kd,si,k,u,n,rfl,xo.2.2.1,xo.2.2.2.2.2,hr',?_⟩;have df:rQ r n g (.five (Od "gone") kd si k u)=if Od "gone"=Od "gone"/\rO n (fI r n (.five (Od "gone") kd si k u))=false then some (bT (fI r n (.five (Od "gone") kd si k u))) else none:=rfl
       cases hd:fI r n (.five (Od "gone") kd si k u) with
       | none=>
        rw [hd] at df;simp only [bT,dN];walk_at "z";rw [bS (show Od "gone"≠Od "follow" by decide+kernel),VE Ot];exact fin _ _ _ _ (none_ (by rw [df,VE λz=>Bool.noConfusion (show true=false from z.2)]))
       | some d=>
        rw [hd] at df;simp only [bT,dN];walk_at "z";by_cases hdn:d<=n
        ·rw [VF hdn];refine⟨VD,?_⟩;rw [bS (show Od "gone"≠Od "follow" by decide+kernel),VE Ot];exact fin _ _ _ _ (some_ (.int d) (by rw [df,VF ⟨rfl,decide_eq_false VD⟩];rfl))
        ·rw [VE hdn];rw [bS (show Od "gone"≠Od "follow" by decide+kernel),VE Ot];exact fin _ _ _ _ (none_ (by rw [df,VE λz=>hdn (by have:=of_decide_eq_false z.2;omega)]))
      ·rw [bS hw,VE Ot,bS k1,VE Ot];exact fin _ _ _ _ (none_ (by show(if w2=Od "gone"/\rO n (fI r n (.five w2 kd si k u))=false then some (bT (fI r n (.five w2 kd si k u))) else none)=none;rw [VE λz=>hw z.1]))
   ·rintro δ ⟨o6,o7,o8,rfl⟩;rw [<-eN,Oe,ae];walk_at "z";exact q
def C5(kd:Str):Pt->Bool
 | .two w k=>w==Od "leave" && k==kd
 | _=>false
def hV(kd:Str)(L:List (Str×Pt)):List Str:=(L.filter λz=>C5 kd z.2).map (·.1)
theorem LO{a b:Str}:(a==b)=decide (a=b):=by
 by_cases h:a=b
 ·simp [h]
 ·rw [bS h,decide_eq_false h]
def LP:List VI->(VI->Prop)->Prop:=λds Q=>∃(kd:Str)(L:List (Str×Pt)),ds=[.str kd,.tuple (L.map dB)]/\Om kd=true/\iK L/\Q (.list ((hV kd L).map .str))
theorem LQ{w:Str}(h:KG w):Om w=true:=by rcases h with h | h <;> rw [h] <;> decide+kernel
theorem LR{w:Str}(h:oj w):Om w=true:=by rcases h with h | h | h <;> rw [h] <;> decide+kernel
theorem cc.lay{s:cc}(h:s.Ok):cw 2 s.enc:=by
 cases s with
 | com=>exact gX (cb (fC VB) fR)
 | fst wd=>exact gX (cb (fC VB) (cb (fC h) fR))
 | lst wd=>exact gX (cb (fC VB) (cb (fC h) fR))
theorem Pt.lay{p:Pt}(h:p.Ok):cw 3 p.enc:=by
 cases p with
 | two w kd=>exact(gX (n:=1) (cb (fC h.2.1) (cb (fC h.2.2) fR))).mono VC
 | five w kd s k u=>exact gX (cb (fC (LQ h.1)) (cb (fC h.2.1) (cb (cc.lay h.2.2.1) (cb AY (cb (fC (LR h.2.2.2.2.2)) fR)))))
theorem LS(T:Txt K mg t):aD P w K mg base CX0 1 t.a_c t.d_c ["kind","rules"] (aW K LP):=by
 refine T.F_c.okD Kx (λds Q h=>?_) (λ_ _ _ _ H O ds Q E hr h=>?_)
 ·obtain⟨kd,L,rfl,_⟩:=h;rfl
 ·obtain⟨kd,L,rfl,hk,hL,q⟩:=h;refine'⟨_,?A,?B⟩
  case A=>
   refine' aA ?C
   case' C=>refine' aT ?D
   case' D=>refine' fe ?E
   case E=>exact(i6 rfl xW (df (dv 1)) (gB (b7 aN (b7 aN gA))) uH VC (λ_ _ _ _=>(gj (n:=2) rfl (b0 (aM (i:=0) xW.nd rfl VG) (b0 (aM (i:=1) xW.nd rfl VG) gi)))) (λ_ _ _ _=>(cU (aU (cx hr.units) cy (df (dv 1)) (df (bN (aa bg (aa (dv 2) ao)))) (aE _)))) (λ_ _ _ _=>(dv 0)))
  case B=>
  clear hr T;walk_at "z";refine⟨by rw [Oe];have:=hL.1;omega,cZ (λz:Str×Pt=>C5 kd z.2) (λz=>.str z.1) (λx hx R S h=>?_) ?_⟩
  ·have xo:=hL.2 x hx;obtain⟨nm,pt⟩:=x;have ly:=(Pt.lay xo).shp VC;have ly2:QZ (O5 [Oj (Od "leave"),Oj kd])=true:=(gX (n:=1) (cb (fC VB) (cb (fC hk) fR))).shp VC;simp only [dB];cases pt with
   | two w2 kd2=>
    simp only [Pt.enc] at ly⊢;walk_at "z";refine⟨ly,ly2,?_⟩;have e:(O5 [Oj w2,Oj kd2]).eqv (O5 [Oj (Od "leave"),Oj kd])=(w2==Od "leave" && kd2==kd):=by simp [OP,Qs,LO]
    rw [e];exact h
   | five w2 kd2 si k u=>
    simp only [Pt.enc] at ly⊢;walk_at "z";refine⟨ly,ly2,?_⟩;rw [VE (by simp [OP,Qs])];exact h
  ·unfold hV at q;rw [OI] at q;exact q
theorem LU{xs:List De}{n:Int}(g:hJ xs)(h:rM xs n (lB xs n))(hl:(lB xs n).length<=41):iK (lB xs n):=by
 refine⟨hl,λz hz=>?_⟩;obtain⟨d,_,hm,_⟩:=(h.2 z).mp hz;obtain⟨pt,e,ok⟩:=g.ru _ _ _ hm;rw [CH (Tn e).1];exact ok
end
theorem C6:bq (ag jy) ["ready","parts","days","paper"] ["base","parts"] 1 [1] ⟨Oq,[ (Of ".0",Xk),(Of "base",Xk),(Of "later",OQ),(Of "parts",OA)],false,false,[]⟩:=⟨rfl,VB,VB,VB,rfl,VB,VB,VB,rfl⟩
theorem C7:bq (ag iC) ["deeds","ready","days","deed"] ["name","deeds"] 1 [0] ⟨Oq,[ (Of ".0",Xk),(Of "name",Xk),(Of "Paper",OQ),(Of "deeds",OA)],false,false,[]⟩:=⟨rfl,VB,VB,VB,rfl,VB,VB,VB,rfl⟩
theorem C8:bq (ag iC) ["deeds","ready","days","deed"] ["deed"] 1 [] ⟨Oq,[(Of ".0",Xk),(Of "deed",Xk)],false,false,[]⟩:=⟨rfl,VB,VB,VB,rfl,VB,VB,VB,rfl⟩
section
variable {P:VW} {w:VX} {K:Og} {mg:Str->Option VJ} {base:VY} {t:cz}
def qq(r:Rp):cc->List Int
 | .com=>[r.c.d]
 | .fst wd=>(eF r.hs wd).take 1
 | .lst wd=>eF r.hs wd
theorem C9{r:Rp}(s:cc):(qq r s).length<=r.hs.length+1:=by
 have fl:∀wd,(eF r.hs wd).length<=r.hs.length:=λwd=>by
  unfold eF;rw [Oe];exact O8 _ _
 cases s with
 | com=>show 1<=_;omega
 | fst wd=>show((eF r.hs wd).take 1).length<=_;rw [Pf];have:=fl wd;omega
 | lst wd=>have:=fl wd;show(eF r.hs wd).length<=_;omega
theorem x9(xs:List VI):d6 xs none (some 1)=xs.take 1:=by
 cases xs with
 | nil=>rfl
 | cons a l=>rw [v5 VC (by simp;omega)];rfl
def F_d(C:VM):List VI->(VI->Prop)->Prop:=λds Q=>∃(s:cc)(r:Rp),ds=[s.enc,r.enc C]/\s.Ok/\sZ r.hs/\Q (.list ((qq r s).map .int))
theorem LV(T:Txt K mg t):aD P w K mg base CX0 2 t.a_d t.d_d ["since","paper"] (aW K (F_d t.u_Paper)):=by
 have G_V:=@CA P w _ _ base _ T;refine T.F_d.okD B3 (λds Q h=>?_) (λ_ _ _ _ H O ds Q E hr h=>?_)
 ·obtain⟨s,r,rfl,_⟩:=h;rfl
 ·obtain⟨si,r,rfl,hsi,hh,q⟩:=h;refine'⟨_,?A,?B⟩
  case A=>
   refine' aq ?C ?D
   case C=>
    exact bH (aU (cD hr) cE (df (aj aF aJ (df (dv 0)) (df af))) (df bg) (aE _)) (aA (aT (fe (cn (aa (cu (C:=t.u_Paper) T.cl_Paper T.na_Paper_coming (dv 1)) ao))))) bG
   case' D=>refine' aq ?E ?F
   case E=>exact(bt (i:=2) B3.nd rfl VG (PE.imp (aH G_V (hr.mono VC) rfl T.m_V T.F_V.kp T.b_V .nil aB (aa (dv 1) (aa (aj aF aJ (df (dv 0)) (df af)) ao))) aR))
   case' F=>refine' aA ?G
   case' G=>refine' aT ?H
   case H=>exact(sM (aU (cD hr) cE (df (aj aF aJ (df (dv 0)) (df af))) (df bg) (aE _)) (fe (gW (df (dv 2)) i7 (cK af))) (dv 2))
  case B=>
  clear hr T G_V;cases si with
  | com=>
   simp only [cc.enc];walk_at "z";exact⟨[Od "name",Od "coming",Od "kind",Od "makers",Od "happenings"],_,rfl,_,uX,q⟩
  | fst wd=>
   simp only [cc.enc];walk_at "z";rw [bS (show Od "first"≠Od "coming" by decide+kernel),VE Ot];refine⟨r,wd,rfl,hh,hsi,_,rfl,?_⟩;rw [x9,<-Se];exact q
  | lst wd=>
   simp only [cc.enc];walk_at "z";rw [bS (show Od "last"≠Od "coming" by decide+kernel),VE Ot];refine⟨r,wd,rfl,hh,hsi,?_⟩;show if (Od "last"==Od "first")=true then _ else _
   rw [bS (show Od "last"≠Od "first" by decide+kernel),VE Ot];exact q
def hW(rs:List Rp)(kd:Str)(s:cc)(k:Int)(u:Str):List Int:=rs.flatMap λr=>if (r.c.kd==kd)=true then(qq r s).map λb=>jJ b k u else []
theorem LW{m:Nat}{rs:List Rp}(h:∀r∈rs,r.hs.length<=m)(kd:Str)(s:cc)(k:Int)(u:Str):(hW rs kd s k u).length<=(m+1)*rs.length:=by
 unfold hW
 induction rs with
 | nil=>simp
 | cons r rs ih=>
  have ih:=ih λx hx=>h x (by simp [hx]);have hb:=C9 (r:=r) s;have h1:=h r VH;rw [Tt,OG,OC,Vn];split
  ·rw [Oe];omega
  ·simp only [Px];omega
def LX(C:VM):List VI->(VI->Prop)->Prop:=λds Q=>∃(rs:List Rp)(w kd:Str)(s:cc)(k:Int)(u:Str),ds=[.list (rs.map (Rp.enc C)),(Pt.five w kd s k u).enc]/\(Pt.five w kd s k u).Ok/\rs.length<=41/\(∀r∈rs,sZ r.hs/\Om r.c.kd=true)/\Q (.list ((hW rs kd s k u).map .int))
theorem LY(T:Txt K mg t):aD P w K mg base CX0 6 t.a_e t.d_e ["ready","parts"] (aW K (LX t.u_Paper)):=by
 have G_d:=@LV P w _ _ base _ T;have G_H:=@Cj P w _ _ base _ T;refine T.F_e.okD xA (λds Q h=>?_) (λ_ _ _ _ H O ds Q E hr h=>?_)
 ·obtain⟨rs,w,kd,s,k,u,rfl,_⟩:=h;rfl
 ·obtain⟨rs,wo,kd,si,k,u,rfl,ok,rl,hr',q⟩:=h;refine'⟨_,?A,?B⟩
  case A=>
   refine' aq (iZ (i:=2) xA.nd rfl VG (cn ao)) ?C
   case' C=>refine' aq ?D (aA (sN (pv 2)))
   case D=>
    refine' mr Pk rfl (dv 0) (aM (i:=3) xA.nd rfl VG) aN ?E
    case' E=>refine' aA ?F
    case' F=>refine' bH (aU (cx hr.units) cy (df (cu (C:=t.u_Paper) T.cl_Paper T.na_Paper_kind (dv 3))) (df (aj aF aJ (df (dv 1)) (df af))) (aE _)) ?G bG
    case' G=>refine' aA ?H
    case H=>exact(uE (i:=2) (pv 2) (dU rfl C6 (df (PE.imp (aH G_d (hr.mono VC) rfl T.m_d T.F_d.kp T.b_d .nil aB (aa (aj aF aJ (df (dv 1)) (df af)) (aa (dv 3) ao))) aR)) aN bO VC (λ_ _ _ _=>(aM (i:=0) C6.nd rfl VG)) (λ_ _ _ _=>dA) (λ_ _ _ _=>(PE.imp (aH G_H (hr.mono VC) rfl T.m_H T.F_H.kp T.b_H .nil aB (aa (dv 0) (aa (aj aF aJ (df (dv 1)) (df af)) (aa (aj aF aJ (df (dv 1)) (df af)) ao)))) aR))))
  case B=>
  clear hr T G_d G_H;walk_at "z";refine⟨λi δ=>∃o3,δ=[some (Sl.v (.list (rs.map (Rp.enc t.u_Paper)))),some (Sl.v (Pt.five wo kd si k u).enc),some (Sl.o ((hW (rs.take i) kd si k u).map .int)),o3],⟨_,rfl⟩,?_,?_⟩
  ·rintro i z δ hz ⟨o3,rfl⟩;rw [OD] at hz;cases hz':rs[i]? with
   | none=>rw [hz'] at hz;cases hz
   | some r=>
    rw [hz'] at hz;cases hz;obtain⟨h1,h2⟩:=hr' r (O4 hz');have bl:=C9 (r:=r) si;have h11:=h1.1;have il:(rs.take i).length<=41:=by rw [Pf];omega
    have rk:=LW (m:=41) (rs:=rs.take i) (λx hx=>(hr' x (RF hx)).1.1) kd si k u;have rk2:(41+1)*(rs.take i).length<=42*41:=Um _ il;simp only [Pt.enc];walk_at "z";refine⟨[Od "name",Od "coming",Od "kind",Od "makers",Od "happenings"],_,rfl,_,uY,cJ.mpr h2,cJ.mpr ok.2.1,?_⟩;rw [d8];have ts:hW (rs.take (i+1)) kd si k u=hW (rs.take i) kd si k u++if (r.c.kd==kd)=true then(qq r si).map λb=>jJ b k u else []:=by
     unfold hW;rw [Pd,hz',RP];simp
    split
    ·rename_i hk;rw [VF hk] at ts;refine⟨si,r,rfl,ok.2.2.1,h1,_,rfl,by rw [Oe];omega,iI (λ_=>true) (λb=>.int (jJ b k u)) (λb hb R S z1 _=>?_) ?_⟩
     ·walk_at "z";exact⟨b,k,u,rfl,ok.2.2.2.2.2,λx hx=>by rw [CS hx];exact z1 rfl⟩
     ·rw [fZ];refine⟨by rw [Oe,Oe];omega,?_,_,rfl⟩;rw [ts,OO,OI];rfl
    ·rename_i hk;rw [VE hk,Pj] at ts;rw [ts];exact⟨rfl,_,rfl⟩
  ·rintro δ ⟨o3,rfl⟩;walk_at "z";rw [Oe,OZ (Oi _)];exact q
def dX(xs:List De):List Rp:=(bE (aI xs)).map (gb xs)
def qr(x:De)(p:Str×cc×Int×Str):Prop:=∃d nm w,x= .oth (Od "rule") d nm [(Pt.five w p.1 p.2.1 p.2.2.1 p.2.2.2).enc]
theorem qr.uniq{x:De}{p q:Str×cc×Int×Str}(h:qr x p)(h':qr x q):p=q:=by
 obtain⟨d,nm,w,e⟩:=h;obtain⟨d',nm',w',e'⟩:=h';rw [e] at e';obtain⟨kd,s,k,u⟩:=p;obtain⟨kd',s',k',u'⟩:=q;simp only [De.oth.injEq,Pt.enc,Pe,PZ,P1,PM,and_true,true_and] at e';obtain⟨_,_,_,h1,h2,h3,h4⟩:=e';rw [h1,CG h2,h3,h4]
open Classical in
def cL(xs:List De)(x:De):List Int:=if h:∃p,qr x p then hW (dX xs) h.choose.1 h.choose.2.1 h.choose.2.2.1 h.choose.2.2.2 else []
theorem LZ{xs:List De}{x:De}{p:Str×cc×Int×Str}(h:qr x p):cL xs x=hW (dX xs) p.1 p.2.1 p.2.2.1 p.2.2.2:=by
 have e:∃p,qr x p:=⟨p,h⟩;unfold cL;rw [dif_pos e,h.uniq e.choose_spec]
theorem Dc{xs:List De}{x:De}(h:∀p,¬qr x p):cL xs x=[]:=by
 unfold cL;rw [dif_neg λuu71=>by obtain⟨p,z⟩:=uu71;exact h p z]
theorem Dd(xs:List De)(d:Int)(nm w2 kd:Str)(s:cc)(k:Int)(u:Str):cL xs (.oth (Od "rule") d nm [(Pt.five w2 kd s k u).enc])=hW (dX xs) kd s k u:=LZ (p:=(kd,s,k,u)) ⟨d,nm,w2,rfl⟩
theorem Df(xs:List De)(d:Int)(nm wo w2 kd:Str):cL xs (.oth wo d nm [(Pt.two w2 kd).enc])=[]:=Dc λp uu72=>by obtain⟨_,_,_,e⟩:=uu72;simp [Pt.enc] at e
theorem ya{xs:List De}{x:De}(h:x.isR=false):cL xs x=[]:=Dc λp uu73=>by obtain⟨_,_,_,e⟩:=uu73;rw [e] at h;simp [De.isR] at h
def jL(xs:List De):List Int:=xs.map De.d++xs.flatMap (cL xs)
def ti(xs:List De)(ns:List Int):Prop:=(∀z,z∈ns↔z∈jL xs)/\ns.Pairwise (· < ·)
theorem L1{l m:List Int}(h1:l.Pairwise (· < ·))(h2:m.Pairwise (· < ·))(h:∀z,z∈l↔z∈m):l=m:=
 lz (λa b z=>by omega) ((Sd (h1.imp λz e=>by omega) (h2.imp λz e=>by omega)).mpr h) h1 h2
open Classical in
def iL(xs:List De):List Int:=if h:∃ns,ti xs ns then h.choose else []
theorem L3{xs:List De}{ns:List Int}(h:ti xs ns):ns=iL xs:=by
 unfold iL;have e:∃ns,ti xs ns:=⟨ns,h⟩;rw [dif_pos e];exact L1 h.2 e.choose_spec.2 λz=>(h.1 z).trans (e.choose_spec.1 z).symm
structure qt (xs:List De):Prop where
 ln:(jL xs).length < 4000
 fw:∃L:List Int,L.length < 64/\∀z∈jL xs,z∈L
theorem Dg{l L:List Int}(nd:l.Nodup)(hm:∀z∈l,z∈L):l.length<=L.length:=by
 induction l generalizing L with
 | nil=>simp
 | cons a l ih=>
  rw [P6] at nd;obtain⟨p,q,e⟩:=UE (hm a VH);have:=ih (L:=p++q) nd.2 λb hb=>by
   have hb':=hm b (by simp [hb]);rw [e] at hb';rcases ON.mp hb' with z | z
   ·exact Sb _ z
   ·rcases Ox.mp z with z | z
    ·exact absurd (by rw [<-z];exact hb) nd.1
    ·exact Pq _ z
  rw [e,OG,OC,OC];rw [OG] at this;omega
theorem L4{xs:List De}(g:hJ xs)(h:∀c∈aI xs,gH (gb xs c)):∀r∈dX xs,sZ r.hs/\Om r.c.kd=true:=λr hr=>by
 obtain⟨c,hc,rfl⟩:=OE.mp hr;have hc:=jG.mp hc;exact⟨(h c hc).1,g.gx.gp.kd c hc⟩
theorem L5{xs:List De}{i:Nat}{x:De}(h:xs[i]?=some x):(xs.map De.d++(xs.take (i+1)).flatMap (cL xs))=(xs.map De.d++(xs.take i).flatMap (cL xs))++cL xs x:=by
 rw [Pd,h,RP,<-RY];simp
def L6:List VI->(VI->Prop)->Prop:=λds Q=>∃xs:List De,ds=[.tuple (xs.map De.enc)]/\hJ xs/\((∀c∈aI xs,gH (gb xs c))->qt xs)/\(ti xs (iL xs)->(iL xs).length < 64->Q (.tuple ((iL xs).map .int)))
theorem L7(T:Txt K mg t):aD P w K mg base CX0 9 t.a_f t.d_f ["deeds"] (aW K L6):=by
 have G_I:=@Cz P w _ _ base _ T;have G_M:=@xS P w _ _ base _ T;have G_e:=@LY P w _ _ base _ T;refine T.F_f.okD uU (λds Q h=>?_) (λ_ _ _ _ H O ds Q E hr h=>?_)
 ·obtain⟨xs,rfl,_⟩:=h;rfl
 ·obtain⟨xs,rfl,gd,few,q⟩:=h;refine'⟨_,?A,?B⟩
  case A=>
   refine' aq ?C ?D
   case C=>exact(i9 (i:=1) uU.nd rfl VG (p7 rfl C7 (df (PE.imp (aH G_M (hr.mono VC) rfl T.m_M T.F_M.kp T.b_M .nil aB (aa (dv 0) ao)) aR)) aN bO VC (λ_ _ _ _=>(aM (i:=0) C7.nd rfl VG)) (λ_ _ _ _=>dA) (λ_ _ _ _=>(PE.imp (tT T.mk_Paper G_I (hr.mono VC) rfl T.c_Paper T.b_I .nil aB (aa (dv 1) (aa (dv 0) ao))) wG))))
   case' D=>refine' aq ?E ?F
   case E=>exact(BB (i:=2) uU.nd rfl VG (p7 rfl C8 (df (dv 0)) aN bO VC (λ_ _ _ _=>(aM (i:=0) C8.nd rfl VG)) (λ_ _ _ _=>dA) (λ_ _ _ _=>(aj aF aJ (df (dv 0)) (df af)))))
   case' F=>refine' aq ?G ?H
   case G=>
    refine' mw Pk rfl (dv 0) (aM (i:=3) uU.nd rfl VG) aN ?I
    case' I=>refine' aA ?J
    case' J=>refine' bH ?K ?L bG
    case K=>exact(PW.pt (fg (aU (cD hr) cE (df (aj aF aJ (df (dv 3)) (df af))) (df bg) (aE _)) (fc (aU (qX hr) qY (df (aj aF aJ (df (aj aF aJ (df (dv 3)) (df af))) (df af))) (df (bN (aa bg (aa bg ao)))) rfl))))
    case' L=>refine' aA ?M
    case M=>exact(wR (i:=2) (pv 2) (PE.imp (aH G_e (hr.mono VC) rfl T.m_e T.F_e.kp T.b_e .nil aB (aa (dv 1) (aa (aj aF aJ (df (dv 3)) (df af)) ao))) aR))
   case' H=>refine' aA ?N
   case N=>exact(aT (PE.imp (dF gr rfl T.n_tuple fy (bj (df (fe (JO rfl rfl T.n_sorted Qp rfl T.n_set (bj (dw 2) bo)))) bo)) (bD gC)))
  case B=>
  clear hr T G_I G_M G_e;walk_at "z";have ln:=gd.gx.ln;have ol:=fG (ps:=aI xs);have pl:=gd.gx.gp.ln;refine⟨xs,rfl,gd.gx,_,rfl,by rw [Oe,Oe];omega,?_⟩;refine⟨λi acc=>acc=((bE (aI xs)).take i).map (λc=>(gb xs c).enc t.u_Paper)/\∀c∈(bE (aI xs)).take i,gH (gb xs c),⟨rfl,VH⟩,?_,?_⟩
  ·rintro i z acc hz ⟨rfl,hh⟩;rw [OD,OD] at hz;cases hz':(bE (aI xs))[i]? with
   | none=>rw [hz'] at hz;cases hz
   | some c=>
    rw [hz'] at hz;cases hz;walk_at "z";have hc:=jG.mp (O4 hz');refine⟨xs,c,rfl,gd,hc,λh1 h2 h3=>⟨?_,λc' hc'=>?_⟩⟩
    ·rw [Pd,hz',OO];rfl
    ·rw [Pd,hz'] at hc';rcases ON.mp hc' with y | y
     ·exact hh c' y
     ·have y:c'=c:=by simpa using y
      rw [y];exact CU gd hc h1 h3
  ·rintro acc ⟨rfl,hh⟩;simp only [Oe,U1] at hh⊢;have hh:∀c∈aI xs,gH (gb xs c):=λc hc=>hh c (jG.mpr hc);obtain⟨f1,L,f2,f3⟩:=few hh;have hok:=L4 gd hh;have re:(bE (aI xs)).map (λc=>(gb xs c).enc t.u_Paper)=(dX xs).map (Rp.enc t.u_Paper):=by unfold dX;rw [OI];rfl
   have rl:(dX xs).length<=41:=by unfold dX;rw [Oe];omega
   rw [re];refine⟨VD,iI (λ_=>true) (λx:De=>.int x.d) (λx hx R S h1 _=>?_) ?_⟩
   ·cases x <;> simp only [De.enc,Pp.enc] <;> walk_at "z" <;> exact h1 rfl
   ·rw [fZ];have bnd:∀i,(xs.map De.d++(xs.take i).flatMap (cL xs)).length<=(jL xs).length:=λi=>by
     unfold jL;rw [OG,OG];have:((xs.take i).flatMap (cL xs)).length<=(xs.flatMap (cL xs)).length:=by
      have e:xs.flatMap (cL xs)=(xs.take i).flatMap (cL xs)++(xs.drop i).flatMap (cL xs):=by rw [<-RP,R6]
      rw [e,OG];omega
     omega
    refine⟨λi δ=>∃(o3:Option Sl),δ=[some (Sl.v (.tuple (xs.map De.enc))),some (Sl.v (.list ((dX xs).map (Rp.enc t.u_Paper)))),some (Sl.o ((xs.map De.d++(xs.take i).flatMap (cL xs)).map .int)),o3],⟨none,VH⟩,?_,?_⟩
    ·rintro i z δ hz ⟨o3,rfl⟩;rw [OD] at hz;cases hz':xs[i]? with
     | none=>rw [hz'] at hz;cases hz
     | some x=>
      rw [hz'] at hz;cases hz;have hx:=O4 hz';have ts:=L5 hz';have bd:=bnd i;have bd2:=bnd (i+1);rw [ts] at bd2;simp only [ts];generalize xs.map De.d++(xs.take i).flatMap (cL xs)=L0 at bd bd2⊢;cases x with
      | pap p=>
       simp only [De.enc,Pp.enc];walk_at "z";exact⟨by rw [ya rfl,Pj],_,rfl⟩
      | oth wo d nm r=>
       simp only [De.enc];walk_at "z";by_cases hw:wo=Od "rule"
       ·subst hw;obtain⟨pt,rfl,ok⟩:=gd.ru _ _ _ hx;rw [VF (beq_self_eq_true _)];cases pt with
        | two w2 kd=>
         refine⟨_,fQ,_,rfl,_,d7,rfl,?_⟩;rw [d8,d8,bS (λe=>ok.1 (.inl e.symm)),bS (λe=>ok.1 (.inr e.symm)),VE VC];exact⟨by rw [Df,Pj],_,rfl⟩
        | five w2 kd s k u=>
         refine⟨_,fQ,_,rfl,_,d7,rfl,?_⟩;have hk:((Oj (Od "keep")).eqv (Oj w2) || (Oj (Od "gone")).eqv (Oj w2))=true:=by
          rw [d8,d8];rcases ok.1 with e | e <;> rw [e] <;> decide+kernel
         rw [VF hk];rw [Dd] at bd2⊢;rw [OG] at bd2;exact⟨_,fQ,dX xs,w2,kd,s,k,u,rfl,ok,rl,hok,_,rfl,by rw [Oe,Oe];omega,by rw [OO],_,rfl⟩
       ·rw [VE (by simpa using hw)];have:cL xs (.oth wo d nm r)=[]:=ya (bS hw);rw [this,Pj];exact⟨rfl,_,rfl⟩
    ·rintro δ ⟨o3,rfl⟩;rw [Oe,OZ (Oi _)];have tl:xs.map De.d++xs.flatMap (cL xs)=jL xs:=rfl;rw [tl];walk_at "z";refine⟨jL xs,rfl,f1,?_,λns h1 h2=>?_⟩
     ·refine SF (Dg (wJ .nil) λz hz=>?_) f2;rw [wI] at hz;rcases hz with y | y
      ·cases y
      ·exact f3 z y
     ·have it:ti xs ns:=⟨h1,h2⟩;have e:=L3 it;have lt:ns.length < 64:=SF (Dg (h2.imp λz e=>by omega) λz hz=>f3 z ((h1 z).mp hz)) f2;rw [e] at it lt⊢;exact q it lt
end
theorem Dh:bq (ag jq) ["deeds","day"] ["deed"] 1 [] ⟨Oq,[(Of ".0",Xk),(Of "deed",Xk)],false,false,[]⟩:=⟨rfl,VB,VB,VB,rfl,VB,VB,VB,rfl⟩
theorem Di:bq (ag jr) ["holds","line","names","hold","target","deep","reached"] ["coming","target"] 1 [4] ⟨Oq,[ (Of ".0",Xk),(Of "coming",Xk),(Of "is_told",OQ),(Of "target",OA)],false,false,[]⟩:=⟨rfl,VB,VB,VB,rfl,VB,VB,VB,rfl⟩
section
variable {P:VW} {w:VX} {K:Og} {mg:Str->Option VJ} {base:VY} {t:cz}
def Dj(a b:Rw):Prop:=dJ a.nm b.nm=true/\a.nm≠b.nm
def Uq(ws:List Str)(n:Int)(xs:List Rw):Prop:=∀x∈xs,∀y∈xs,fT ws n x->fT ws n y->x.nm=y.nm->x.n=y.n->x=y
theorem u9{ws:List Str}{n:Int}{xs res:List Rw}(h:g6 ws n xs res):res.Pairwise Dj:=by
 have up:=h.up;have nd:=h.nd;rw [PK] at up;rw [SX,PK] at nd;exact up.and nd
theorem Dk{ws:List Str}{n:Int}{xs r1 r2:List Rw}(u:Uq ws n xs)(h1:g6 ws n xs r1)(h2:g6 ws n xs r2)(x:Rw)(hx:x∈r1):x∈r2:=by
 obtain⟨a1,a2,a3⟩:=h1.it x hx;obtain⟨y,hy,yn⟩:=h2.al x a1 a2;obtain⟨b1,b2,b3⟩:=h2.it y hy;have e:x=y:=u x a1 y b1 a2 b2 yn.symm (U9 (b3 x a1 a2 yn.symm) (a3 y b1 b2 yn));rw [e];exact hy
theorem L8{ws:List Str}{n:Int}{xs r1 r2:List Rw}(u:Uq ws n xs)(h1:g6 ws n xs r1)(h2:g6 ws n xs r2):r1=r2:=
 lz (r:=Dj) (λa b h z=>h.2 (wk h.1 z.1)) ((Sd ((u9 h1).imp λz e=>z.2 (by rw [e])) ((u9 h2).imp λz e=>z.2 (by rw [e]))).mpr λx=>⟨Dk u h1 h2 x,Dk u h2 h1 x⟩) (u9 h1) (u9 h2)
open Classical in
def yf(ws:List Str)(n:Int)(xs:List Rw):List Rw:=if h:∃r,g6 ws n xs r then h.choose else []
theorem L9{ws:List Str}{n:Int}{xs r:List Rw}(u:Uq ws n xs)(h:g6 ws n xs r):r=yf ws n xs:=by
 unfold yf;have e:∃r,g6 ws n xs r:=⟨r,h⟩;rw [dif_pos e];exact L8 u h e.choose_spec
def gc(ip:Bool)(tn:Str):VI:= .tuple [.str (if ip=true then Od "paper" else Od "kind"),.str tn]
structure Hd where
 nm:Str
 ip:Bool
 tn:Str
 dp:Bool
def Hd.enc(h:Hd):VI:= .tuple [.str h.nm,gc h.ip h.tn,.bool h.dp]
def De.isL:De->Bool
 | .oth w _ _ _=>w==Od "hold" || w==Od "lift"
 | _=>false
structure gf (xs:List De):Prop where
 gd:hJ xs
 ho:∀d nm r,De.oth (Od "hold") d nm r∈xs->∃(ip:Bool)(tn:Str)(dp:Bool),r=[gc ip tn,.bool dp]/\Om tn=true
 le:∀d nm r,De.oth (Od "leave") d nm r∈xs->∃kd,r=[.str kd]/\Om kd=true
 rh:∀x∈xs,∀y∈xs,x.isL=true->y.isL=true->x.d=y.d->x.nm=y.nm->x=y
 lv:∀x∈xs,∀y∈xs,x.w=Od "leave"->y.w=Od "leave"->x.nm=y.nm->x=y
def qu:List Str:=["hold","lift"]
def tj(x:Rw):Hd:=match x.r with
 | [.tuple [.str a,.str b],.bool c]=>⟨x.nm,a==Od "paper",b,c⟩
 | _=>⟨x.nm,false,Od "",false⟩
theorem Dm{x:Rw}{ip dp:Bool}{tn:Str}(h:x.r=[gc ip tn,.bool dp]):tj x=⟨x.nm,ip,tn,dp⟩:=by
 unfold tj;rw [h];cases ip with
 | true=>simp [gc]
 | false=>simp [gc,bS (show Od "kind"≠Od "paper" by decide+kernel)]
def rS(res:List Rw):List Hd:=(res.filter λx=>x.w==Od "hold").map tj
def yg(xs:List De)(n:Int):List Hd:=rS (yf qu n (xs.map De.rw))
theorem Dp{w:Str}(h:w∈qu):w=Od "hold"\/w=Od "lift":=by
 unfold qu at h;rcases Ox.mp h with e | h
 ·exact .inl e
 ·rcases Ox.mp h with e | h
  ·exact .inr e
  ·cases h
theorem Ma{xs:List De}{n:Int}(g:gf xs):Uq qu n (xs.map De.rw):=by
 intro x hx y hy ox oy e1 e2;obtain⟨a,ha,rfl⟩:=OE.mp hx;obtain⟨b,hb,rfl⟩:=OE.mp hy;have il:∀z:De,z.rw.w∈qu->z.isL=true/\z.rw.nm=z.nm/\z.rw.n=z.d:=λz hz=>by
  cases z with
  | pap p=>exact absurd (Dp hz) (by show ¬(Od "paper"=_\/Od "paper"=_);decide+kernel)
  | oth w d nm r=>
   refine⟨?_,rfl,rfl⟩;have hz:w∈qu:=hz;rcases Dp hz with e | e <;> simp [De.isL,e]
 obtain⟨a1,a2,a3⟩:=il a ox.1;obtain⟨b1,b2,b3⟩:=il b oy.1;rw [g.rh a ha b hb a1 b1 (by rw [<-a3,<-b3];exact e2) (by rw [<-a2,<-b2];exact e1)]
def tm(hs:List Hd):Prop:=hs.length<=41/\∀h∈hs,Om h.tn=true
def Mb:List VI->(VI->Prop)->Prop:=λds Q=>∃(xs:List De)(n:Int),ds=[.tuple (xs.map De.enc),.int n]/\gf xs/\(tm (yg xs n)->Q (.tuple ((yg xs n).map Hd.enc)))
theorem Mc(T:Txt K mg t):aD P w K mg base CX0 2 t.a_S t.d_S ["deeds","day"] (aW K Mb):=by
 have G_Q:=@CC P w _ _ base _ T;refine T.F_S.okD Kt (λds Q h=>?_) (λ_ _ _ _ H O ds Q E hr h=>?_)
 ·obtain⟨xs,n,rfl,_⟩:=h;rfl
 ·obtain⟨xs,n,rfl,g,q⟩:=h;refine'⟨_,?A,?B⟩
  case A=>
   refine' aA ?C
   case' C=>generalize hG2:VA _ _ _ _=eg2
   refine' aT ?D
   case' D=>subst hG2
   exact(PE.imp (dF gr rfl T.n_tuple fy (bj (df (fe (dU rfl Dh (df (PE.imp (aH G_Q (hr.mono VC) rfl T.m_Q T.F_Q.kp T.b_Q .nil aB (aa (dv 0) (aa (bN (aa bg (aa bg ao))) (aa (dv 1) ao)))) aR)) aN bO VC (λ_ _ _ _=>(aM (i:=0) Dh.nd rfl VG)) (λ_ _ _ _=>(cU (aU (cD hr) cE (df (aj aF aJ (df (dv 0)) (df af))) (df bg) (aE _)))) (λ_ _ _ _=>(bN (aa (aj aF aJ (df (dv 0)) (df af)) (aa (aj aF aJ (df (dv 0)) (df af)) (aa (aj aF aJ (df (dv 0)) (df af)) ao)))))))) bo)) (bD gC))
  case B=>
  clear hr T G_Q;have ok:=CO g.gd (λw d nm r h=>g.gd.gx.w _ h);walk_at "z";refine⟨xs.map De.rw,qu,n,by rw [CJ];rfl,ok.st,VB,ok.le,λres hres=>⟨_,rfl,?_,?_⟩⟩
  ·rw [Oe];have:=hres.le;have:=ok.le;omega
  have fm:∀x∈res,x.w=Od "hold"->∃(ip:Bool)(tn:Str)(dp:Bool),x.r=[gc ip tn,.bool dp]/\Om tn=true:=λx hx hw=>by
   obtain⟨h1,_,_⟩:=hres.it x hx;obtain⟨y,hy,rfl⟩:=OE.mp h1;cases y with
   | pap p=>exact absurd hw (by show Od "paper"≠_;decide+kernel)
   | oth w d nm r=>
    have hw:w=Od "hold":=hw;subst hw;exact g.ho _ _ _ hy
  have e:=L9 (Ma g) hres;have q:tm (rS res)->Q (.tuple ((rS res).map Hd.enc)):=by rw [e];exact q
  refine cZ (enc:=Rw.enc) (λx=>x.w==Od "hold") (λx=>(tj x).enc) (λx hx R S h=>?_) ?_
  ·simp only [Rw.enc];walk_at "z";by_cases hr:(x.w==Od "hold")=true
   ·rw [VF hr] at h⊢;obtain⟨ip,tn,dp,hp,_⟩:=fm x hx (eq_of_beq hr);rw [Dm hp] at h;rw [hp];exact⟨_,fQ,_,mQ,h⟩
   ·rw [VE hr] at h⊢;exact h
  ·have e2:(QV (λx=>x.w==Od "hold") res).map (λx=>(tj x).enc)=(rS res).map Hd.enc:=by unfold rS;rw [OI];rfl
   rw [e2];refine q ⟨?_,λh hh=>?_⟩
   ·unfold rS;rw [Oe];have h1:=O8 (λx:Rw=>x.w==Od "hold") res;have h2:=hres.le;rw [Oe] at h2;have:=g.gd.gx.ln;omega
   ·obtain⟨x,hx,rfl⟩:=OE.mp hh;obtain⟨hx1,hx2⟩:=Po.mp hx;obtain⟨ip,tn,dp,hp,hk⟩:=fm x hx1 (eq_of_beq hx2);rw [Dm hp];exact hk
def jM(ip:Bool)(tn:Str)(c:Pp):Bool:=tn==if ip=true then c.nm else c.kd
def Dq:List VI->(VI->Prop)->Prop:=λds Q=>∃(ip:Bool)(tn:Str)(c:Pp),ds=[gc ip tn,c.enc]/\Om tn=true/\Om c.nm=true/\Om c.kd=true/\Q (.bool (jM ip tn c))
theorem Md(T:Txt K mg t):aD P w K mg base CX0 1 t.a_T t.d_T ["target","coming"] (aW K Dq):=by
 refine T.F_T.okD Ku (λds Q h=>?_) (λ_ _ _ _ H O ds Q E hr h=>?_)
 ·obtain⟨ip,tn,c,rfl,_⟩:=h;rfl
 ·obtain⟨ip,tn,c,rfl,h1,h2,h3,q⟩:=h;refine'⟨_,?A,?B⟩
  case A=>
   refine' aA ?C
   case' C=>refine' aT ?D
   case D=>exact(cO (cx hr.units) cy (df (aj aF aJ (df (dv 0)) (df af))) (df (sM (aU (cD hr) cE (df (aj aF aJ (df (dv 0)) (df af))) (df bg) (aE _)) (aj aF aJ (df (dv 1)) (df af)) (aj aF aJ (df (dv 1)) (df af)))) (aE _))
  case B=>
  clear hr T;simp only [gc,Pp.enc];unfold jM at q;cases ip with
  | true=>
   walk_at "z";exact⟨cJ.mpr h1,cJ.mpr h2,q⟩
  | false=>
   walk_at "z";rw [VE (show ¬(Od "kind"==Od "paper")=true by decide+kernel)];exact⟨cJ.mpr h1,cJ.mpr h3,q⟩
def tq(line:List Pp)(h:Hd):Bool:=(if h.dp=true then line else line.take 1).any (jM h.ip h.tn)
def gI(hs:List Hd)(line:List Pp):List Str:=(hs.filter (tq line)).map (·.nm)
def va(line:List Pp):Prop:=line.length<=41/\∀c∈line,Om c.nm=true/\Om c.kd=true
def F_U:List VI->(VI->Prop)->Prop:=λds Q=>∃(hs:List Hd)(line:List Pp),ds=[.tuple (hs.map Hd.enc),.list (line.map Pp.enc)]/\tm hs/\va line/\Q (.tuple ((gI hs line).map .str))
theorem Me(T:Txt K mg t):aD P w K mg base CX0 2 t.a_U t.d_U ["holds","line"] (aW K F_U):=by
 have G_T:=@Md P w _ _ base _ T;refine T.F_U.okD rA (λds Q h=>?_) (λ_ _ _ _ H O ds Q E hr h=>?_)
 ·obtain⟨hs,line,rfl,_⟩:=h;rfl
 ·obtain⟨hs,line,rfl,ho,lo,q⟩:=h;refine'⟨_,?A,?B⟩
  case A=>
   refine' aq (iZ (i:=2) rA.nd rfl VG (cn ao)) ?C
   case' C=>refine' aq ?D (aA (aT (PE.imp (dF gr rfl T.n_tuple fy (bj (dw 2) bo)) (bD gC))))
   case D=>
    refine' mw Pk rfl (dv 0) ?E (gB (b7 aN (b7 aN (b7 aN gA)))) ?F
    case E=>exact(gj (n:=3) rfl (b0 (aM (i:=3) rA.nd rfl VG) (b0 (aM (i:=4) rA.nd rfl VG) (b0 (aM (i:=5) rA.nd rfl VG) gi))))
    case' F=>refine' aq (bt (i:=6) rA.nd rfl VG (sM (fO (dv 5)) (dv 1) (fe (gW (df (dv 1)) i7 (cK af))))) ?G
    case' G=>refine' aA ?H
    case' H=>refine' bH ?I (aA (lZ (i:=2) (pv 2) (dv 3))) bG
    case I=>exact(fO (PE.imp (bV (Ad rfl) rfl T.n_any Af (bj (df (fe (dU rfl Di (df (dv 6)) aN bO VC (λ_ _ _ _=>(aM (i:=0) Di.nd rfl VG)) (λ_ _ _ _=>dA) (λ_ _ _ _=>(PE.imp (aH G_T (hr.mono VC) rfl T.m_T T.F_T.kp T.b_T .nil aB (aa (dv 1) (aa (dv 0) ao))) aR))))) bo)) (bD uf)))
  case B=>
  clear hr T G_T;have h41:=ho.1;have l41:=lo.1;walk_at "z";refine⟨λi δ=>∃o3 o4 o5 o6,δ=[some (Sl.v (.tuple (hs.map Hd.enc))),some (Sl.v (.list (line.map Pp.enc))),some (Sl.o ((gI (hs.take i) line).map .str)),o3,o4,o5,o6],⟨_,_,_,_,rfl⟩,?_,?_⟩
  ·rintro i z δ hz ⟨o3,o4,o5,o6,rfl⟩;rw [OD] at hz;cases hz':hs[i]? with
   | none=>rw [hz'] at hz;cases hz
   | some h=>
    rw [hz'] at hz;cases hz;have hk:=ho.2 h (O4 hz');have ts:gI (hs.take (i+1)) line=gI (hs.take i) line++if tq line h=true then [h.nm] else []:=by
     unfold gI;rw [Pd,hz',List.filter_append,OO];congr 1;by_cases e:tq line h=true
     ·simp [e]
     ·simp [e]
    have ll:(gI (hs.take i) line).length<=41:=by
     unfold gI;rw [Oe];have:=O8 (tq line) (hs.take i);rw [Pf] at this;omega
    have key:∀(l2:List Pp)(R:List VI->Prop),(∀c∈l2,c∈line)->R ((l2.map (jM h.ip h.tn)).map .bool)->iw (i3 0) gT (gP Dq (ik (cf 1) (ik (cf 0) gO))) [none,some (Sl.v (gc h.ip h.tn))] (l2.map Pp.enc) R:=λl2 R hl hR=>by
     refine iI (λ_=>true) (λc=>.bool (jM h.ip h.tn c)) (λc hc R S h1 _=>?_) (by rw [fZ];rw [OI] at hR;exact hR);walk_at "z";exact⟨h.ip,h.tn,c,rfl,hk,(lo.2 c (hl c hc)).1,(lo.2 c (hl c hc)).2,h1 rfl⟩
    simp only [Hd.enc];simp only [ts];have ec:tq line h=(if h.dp=true then line else line.take 1).any (jM h.ip h.tn):=rfl;rw [ec];generalize gI (hs.take i) line=A0 at ll;have fin:∀(l2:List Pp)(x:Option Sl),if (l2.map (jM h.ip h.tn)).any id=true then(A0.map Oj).length < 16777216/\A0.map Oj++[Oj h.nm]=(A0++if l2.any (jM h.ip h.tn)=true then [h.nm] else []).map Oj/\∃y,x=y else A0.map Oj=(A0++if l2.any (jM h.ip h.tn)=true then [h.nm] else []).map Oj/\∃y,x=y:=λl2 x=>by
     rw [SV];show if l2.any (jM h.ip h.tn)=true then _ else _
     split
     ·exact⟨by rw [Oe];omega,VH,_,rfl⟩
     ·exact⟨VH,_,rfl⟩
    cases hd:h.dp with
    | true=>
     walk_at "z";exact⟨by rw [Oe];omega,key line _ (λ_ h=>h) ⟨_,rfl,fin line _⟩⟩
    | false=>
     walk_at "z";rw [x9,<-Se];have lt:(line.take 1).length<=41:=by rw [Pf];omega
     exact⟨by rw [Oe];omega,key (line.take 1) _ (λ_ h=>RF h) ⟨_,rfl,fin (line.take 1) _⟩⟩
  ·rintro δ ⟨o3,o4,o5,o6,rfl⟩;walk_at "z";rw [Oe,OZ (Oi _)];exact q
end
theorem Ds:bq (ag jm) ["deeds","paper","line","place"] ["deed","line"] 1 [2] ⟨Oq,[ (Of ".0",Xk),(Of "deed",Xk),(Of "line",OA)],false,false,[]⟩:=⟨rfl,VB,VB,VB,rfl,VB,VB,VB,rfl⟩
section
variable {P:VW} {w:VX} {K:Og} {mg:Str->Option VJ} {base:VY} {t:cz}
theorem Du:∀{a b:List Str},Qs (a.map .str) (b.map .str)=true↔a=b
 | [],[]=>by simp [Qs]
 | [],_::_=>by simp [Qs]
 | _::_,[]=>by simp [Qs]
 | x::a,y::b=>by
  rw [Ol,Ol,Qs,Pz,Du,d8,beq_iff_eq,Pe]
theorem Dv{a b:Pp}:OP a.enc b.enc=true↔a=b:=by
 obtain⟨d,nm,kd,ms⟩:=a;obtain⟨d',nm',kd',ms'⟩:=b;simp only [Pp.enc,OP,Qs,Pz,Du,Pp.mk.injEq,decide_eq_true_eq,beq_iff_eq,and_true,true_and]
def rT(l:List Pp)(p:Pp):Bool:=(l.map Pp.enc).any λd=>OP d p.enc
theorem Mf{l:List Pp}{p:Pp}:rT l p=true↔p∈l:=by
 unfold rT;rw [Ra];constructor
 ·rintro⟨d,hd,e⟩;obtain⟨q,hq,rfl⟩:=OE.mp hd;rw [<-Dv.mp e];exact hq
 ·intro h;exact⟨p.enc,OE.mpr ⟨p,h,rfl⟩,Dv.mpr rfl⟩
def vb(ps line:List Pp)(c:Pp):List Pp:=(hG ps c).filter λp=>!rT line p
def oo(ps:List Pp):Nat->List Pp->Nat->List Pp
 | 0,l,_=>l
 | f+1,l,i=>match l[i]? with
  | none=>l
  | some c=>oo ps f (l++vb ps l c) (i+1)
def qv(ps:List Pp)(c:Pp):List Pp:=oo ps ps.length [c] 0
theorem Mg{ps l:List Pp}{i:Nat}(h:l.length<=i):∀f,oo ps f l i=l
 | 0=>rfl
 | f+1=>by rw [oo,Qo h]
structure qw (ps:List Pp) (c:Pp) (l:List Pp):Prop where
 nd:l.Nodup
 sb:∀p∈l,p∈ps
 hd:∃r,l=c::r
theorem vc{α:Type}:∀{l L:List α},l.Nodup->(∀z∈l,z∈L)->l.length<=L.length
 | [],_,_,_=>Pc _
 | a::l,L,nd,hm=>by
  rw [P6] at nd;obtain⟨p,q,e⟩:=UE (hm a VH);have:=vc (l:=l) (L:=p++q) nd.2 λb hb=>by
   have hb':=hm b (by simp [hb]);rw [e] at hb';rcases ON.mp hb' with z | z
   ·exact Sb _ z
   ·rcases Ox.mp z with z | z
    ·exact absurd (by rw [<-z];exact hb) nd.1
    ·exact Pq _ z
  rw [e,OG,OC,OC];rw [OG] at this;omega
theorem Mh{ps:List Pp}(nd:(ps.map (·.nm)).Nodup):ps.Nodup:=by
 rw [SX,PK] at nd;exact nd.imp λh e=>h (by rw [e])
theorem Mi{ps:List Pp}(nd:(ps.map (·.nm)).Nodup)(c:Pp):(hG ps c).Nodup:=((iG ps).nodup_iff.mpr (Mh nd)).sublist Sj
theorem Dw{ps:List Pp}{c p:Pp}(h:p∈hG ps c):p∈ps:=jG.mp (Po.mp h).1
theorem qw.next{ps:List Pp}(nd:(ps.map (·.nm)).Nodup){c:Pp}{l:List Pp}(h:qw ps c l)(d:Pp):qw ps c (l++vb ps l d):=by
 refine⟨Tr.mpr ⟨h.nd,(Mi nd d).sublist Sj,λa ha b hb e=>?_⟩,λp hp=>?_,?_⟩
 ·have:=(Po.mp hb).2;rw [Qc,<-QA] at this;exact this (Mf.mpr (by rw [<-e];exact ha))
 ·rcases ON.mp hp with z | z
  ·exact h.sb p z
  ·exact Dw (Po.mp z).1
 ·obtain⟨r,e⟩:=h.hd;exact⟨r++vb ps l d,by rw [e];rfl⟩
theorem Dx{ps:List Pp}(nd:(ps.map (·.nm)).Nodup){c:Pp}:∀(f:Nat){l:List Pp}(i:Nat),qw ps c l->qw ps c (oo ps f l i)
 | 0,_,_,h=>h
 | f+1,l,i,h=>by
  rw [oo];split
  ·exact h
  ·exact Dx nd f (i+1) (h.next nd _)
theorem Mj{ps:List Pp}(nd:(ps.map (·.nm)).Nodup){c:Pp}(hc:c∈ps):qw ps c (qv ps c):=Dx nd _ _ ⟨VH,by simpa using hc,[],rfl⟩
theorem Ml{ps:List Pp}(g:om ps){c:Pp}(hc:c∈ps):va (qv ps c):=by
 have h:=Mj g.nd hc;have h1:=vc h.nd h.sb;have h2:=g.ln;exact⟨VD,λp hp=>⟨g.nm p (h.sb p hp),g.kd p (h.sb p hp)⟩⟩
theorem Dy{ps:List Pp}(g:om ps){c:Pp}(hc:c∈ps):cw 3 c.enc:=by
 obtain⟨h1,h2⟩:=g.ms c hc;exact gX (cb (fC VB) (cb AY (cb (fC (g.nm c hc)) (cb (fC (g.kd c hc)) (cb (gX (n:=1) (wt h1)) fR)))))
def Mm:List VI->(VI->Prop)->Prop:=λds Q=>∃(xs:List De)(c:Pp),ds=[.tuple (xs.map De.enc),.str c.nm]/\iH xs/\c∈aI xs/\Q (.list ((qv (aI xs) c).map Pp.enc))
theorem Mn(T:Txt K mg t):aD P w K mg base CX0 6 t.a_P t.d_P ["deeds","paper"] (aW K Mm):=by
 have G_L:=@xR P w _ _ base _ T;have G_N:=@Cw P w _ _ base _ T;refine T.F_P.okD uS (λds Q h=>?_) (λ_ _ _ _ H O ds Q E hr h=>?_)
 ·obtain⟨xs,c,rfl,_⟩:=h;rfl
 ·obtain⟨xs,c,rfl,gd,hc,q⟩:=h;refine'⟨_,?A,?B⟩
  case A=>
   refine' aq ?C ?D
   case C=>exact(iZ (i:=2) uS.nd rfl VG (cn (aa (PE.imp (aH G_L (hr.mono VC) rfl T.m_L T.F_L.kp T.b_L .nil aB (aa (dv 0) (aa (dv 1) ao))) aR) ao)))
   case' D=>refine' aq (bt (i:=3) uS.nd rfl VG af) ?E
   case' E=>refine' aq ?F (aA (sN (pv 2)))
   case F=>
    refine' Js Pk (aU tO cW (df (dv 3)) (df (PE.imp (bV dj rfl T.n_len Pu (bj (dw 2) bo)) (bD dH))) (aE _)) ?G
    case' G=>refine' aq ?H (aA (bt (i:=3) uS.nd rfl VG (az bP bZ (df (dv 3)) (df af))))
    case H=>exact(uE (i:=2) (pv 2) (dU rfl Ds (df (PE.imp (aH G_N (hr.mono VC) rfl T.m_N T.F_N.kp T.b_N .nil aB (aa (dv 0) (aa (aj aX bb (dw 2) (df (dv 3))) ao))) aR)) aN bO VC (λ_ _ _ _=>(aM (i:=0) Ds.nd rfl VG)) (λ_ _ _ _=>(cU (aU (Ic hr) wj (df (dv 0)) (dw 1) rfl))) (λ_ _ _ _=>(dv 0))))
  case B=>
  clear hr T G_L G_N;have nd:=gd.gp.nd;have pl:=gd.gp.ln;walk_at "z";refine⟨xs,c,rfl,gd,hc,?_⟩;refine⟨λm δ=>∃(l:List Pp)(i f:Nat),qw (aI xs) c l/\i<=l.length/\m+i=(aI xs).length/\(aI xs).length<=f+i/\oo (aI xs) f l i=qv (aI xs) c/\δ=[some (Sl.v (.tuple (xs.map De.enc))),some (Sl.v (.str c.nm)),some (Sl.o (l.map Pp.enc)),some (Sl.v (.int (i:Int)))],⟨(aI xs).length,[c],0,(aI xs).length,⟨VH,by simpa using hc,[],rfl⟩,Pc _,VD,VD,rfl,rfl⟩,?_⟩;rintro m δ ⟨l,i,f,hl,hi,hm,hf,ef,rfl⟩;have ll:=vc hl.nd hl.sb;walk_at "z";rw [Oe];by_cases hlt:i < l.length
  ·rw [VF VD];have hc':l[i]?=some l[i]:=OW hlt;have ho:=hl.next nd l[i];have lo:=vc ho.nd ho.sb;rw [OG] at lo;refine⟨_,fM (j:=i) (by rw [OD,hc'];rfl),xs,l[i],rfl,gd,hl.sb _ (Qr hlt),_,rfl,by rw [Oe];have:=xT (c:=l[i]) gd.gp;omega,cZ (λp=>!rT l p) Pp.enc (λp hp R S h=>?_) ?_⟩
   ·walk_at "z";have ps:=Dw hp;refine⟨(Dy gd.gp ps).shp VC,(uk (n:=3) λd hd=>?_).1,by simpa [rT] using h⟩;obtain⟨p',hp',rfl⟩:=OE.mp hd;exact Dy gd.gp (hl.sb p' hp')
   ·have e:(QV (λp=>!rT l p) (hG (aI xs) l[i]))=vb (aI xs) l l[i]:=rfl;rw [e];cases f with
    | zero=>omega
    | succ f=>
     rw [oo,hc'] at ef;refine⟨by rw [Oe];omega,m - 1,VD,_,ho,i+1,by rw [OG];omega,VD,f,VD,ef,by rw [OO],VD⟩
  ·rw [VE VD];rw [<-ef,Mg VD] at q;exact q
local macro_rules | `(tactic| walk_at "i") =>rzT (rzS++" Sl.i.injEq exists_and_left rj")
theorem jN{f:Str}{d:VI}:∀{l:List (Str×VI)}{ks:List Str},l.map (·.1)=ks->ks.all (λk=>!(k==f))=true->dO f d l=l++[(f,d)]
 | [],_,_,_=>rfl
 | (g,x)::l,k::ks,h,hk=>by
  rw [Ol] at h;obtain⟨e1,e2⟩:=Tn h;rw [Ry,Pz] at hk;have e1:g=k:=e1;rw [dO,VE (λz=>by rw [<-e1,z] at hk;simp at hk),jN e2 hk.2];rfl
 | _::_,[],h,_=>by cases h
def cB:List Str:=[Od "day",Od "paper",Od "to_stay",Od "to_go",Od "bars",Od "leave"]
abbrev Dz(C:VM)(a b c d e f:VI):VI:=fA C (cB.map .str) [a,b,c,d,e,f]
def Mo(C:VM):List VI->(VI->Prop)->Prop:=λds Q=>∃a b c d e f,ds=[a,b,c,d,e,f]/\Q (Dz C a b c d e f)
theorem Mp(T:Txt K mg t):aD P w K mg base CX0 1 t.a_g t.d_g ["self","day","paper","to_stay","to_go","bars","leave"] (uI K t.u_Look (Mo t.u_Look)):=by
 refine T.F_g.okI Ky (λds Q h=>?_) (λcdv A outer s H H1 O ds Q E l hr h=>?_)
 ·obtain⟨a,b,c,d,e,f,rfl,_⟩:=h;rfl
 ·obtain⟨a,b,c,d,e,f,rfl,q⟩:=h;refine'⟨_,?A,?B⟩
  case A=>
   refine' aq (fE (C:=t.u_Look) (i:=0) T.cl_Look T.na_Look_day (pv 0) (dv 1)) ?C
   case' C=>refine' aq (fE (C:=t.u_Look) (i:=0) T.cl_Look T.na_Look_paper (pv 0) (dv 2)) ?D
   case' D=>refine' aq (fE (C:=t.u_Look) (i:=0) T.cl_Look T.na_Look_to_stay (pv 0) (dv 3)) ?E
   case' E=>refine' aq (fE (C:=t.u_Look) (i:=0) T.cl_Look T.na_Look_to_go (pv 0) (dv 4)) ?F
   case F=>exact aq (fE (C:=t.u_Look) (i:=0) T.cl_Look T.na_Look_bars (pv 0) (dv 5)) (aA (fE (C:=t.u_Look) (i:=0) T.cl_Look T.na_Look_leave (pv 0) (dv 6)))
  case B=>
  clear hr T;simp only [uJ,fh,Ol,Pw,PN,PL,S8,OC,Px,Qm,Qn,OL];walk_at "i";rw [jN (ks:=[]) rfl rfl,jN (ks:=cB.take 1) rfl VB,jN (ks:=cB.take 2) rfl VB,jN (ks:=cB.take 3) rfl VB,jN (ks:=cB.take 4) rfl VB,jN (ks:=cB.take 5) rfl VB];have lt:∀n:Nat,n < 10->n < 1000:=λn h=>by omega
  exact⟨lt 1 VC,lt 2 VC,lt 3 VC,lt 4 VC,lt 5 VC,q⟩
def iM:Option Str->VI
 | none=>.none
 | some s=>.str s
structure Lk where
 d:Int
 nm:Str
 st:List (Str×VI)
 go:List (Str×VI)
 bars:List VI
 lv:Option Str
def Lk.enc(C:VM)(k:Lk):VI:=Dz C (.int k.d) (.str k.nm) (.tuple (k.st.map cA)) (.tuple (k.go.map cA)) (.list k.bars) (iM k.lv)
def Lk.lets(k:Lk):Bool:=decide (0 < k.go.length) && decide (k.bars.length=0)
structure Ro where
 nm:Str
 d:Int
 lv:Option Str
def Ro.enc(r:Ro):VI:= .tuple [.str r.nm,.int r.d,iM r.lv]
def Lk.row(k:Lk):Ro:=⟨k.nm,k.d,k.lv⟩
def lG(k:Lk):Prop:=k.st.length<=41/\k.go.length<=41/\k.bars.length<=200
theorem Mq{a b c d e f:VI}:br cB [a,b,c,d,e,f] (Od "day")=some a:=by simp [cB,br]
theorem Mr{a b c d e f:VI}:br cB [a,b,c,d,e,f] (Od "paper")=some b:=by
 simp only [cB,br,VE (show Od "day"≠Od "paper" by decide+kernel),if_true]
theorem Ms{a b c d e f:VI}:br cB [a,b,c,d,e,f] (Od "to_go")=some d:=by
 simp only [cB,br,VE (show Od "day"≠Od "to_go" by decide+kernel),VE (show Od "paper"≠Od "to_go" by decide+kernel),VE (show Od "to_stay"≠Od "to_go" by decide+kernel),if_true]
theorem Mt{a b c d e f:VI}:br cB [a,b,c,d,e,f] (Od "bars")=some e:=by
 simp only [cB,br,VE (show Od "day"≠Od "bars" by decide+kernel),VE (show Od "paper"≠Od "bars" by decide+kernel),VE (show Od "to_stay"≠Od "bars" by decide+kernel),VE (show Od "to_go"≠Od "bars" by decide+kernel),if_true]
theorem Mu{a b c d e f:VI}:br cB [a,b,c,d,e,f] (Od "leave")=some f:=by
 simp only [cB,br,VE (show Od "day"≠Od "leave" by decide+kernel),VE (show Od "paper"≠Od "leave" by decide+kernel),VE (show Od "to_stay"≠Od "leave" by decide+kernel),VE (show Od "to_go"≠Od "leave" by decide+kernel),VE (show Od "bars"≠Od "leave" by decide+kernel),if_true]
def Mv(C:VM):List VI->(VI->Prop)->Prop:=λds Q=>∃k:Lk,ds=[k.enc C]/\lG k/\Q (.bool k.lets)
theorem DC(T:Txt K mg t):aD P w K mg base CX0 1 t.a_h t.d_h ["self"] (aW K (Mv t.u_Look)):=by
 refine T.F_h.okD Kz (λds Q h=>?_) (λ_ _ _ _ H O ds Q E hr h=>?_)
 ·obtain⟨k,rfl,_⟩:=h;rfl
 ·obtain⟨k,rfl,⟨_,h1,h2⟩,q⟩:=h;refine'⟨_,?A,?B⟩
  case A=>
   refine' aA ?C
   case' C=>refine' aT ?D
   case D=>exact(j0 (cO iS cW (df (PE.imp (bV dj rfl T.n_len Pu (bj (df (cu (C:=t.u_Look) T.cl_Look T.na_Look_to_go (dv 0))) bo)) (bD dH))) (df af) (aE _)) (lV (cO (cx hr.units) cy (df (PE.imp (bV dj rfl T.n_len Pu (bj (df (cu (C:=t.u_Look) T.cl_Look T.na_Look_bars (dv 0))) bo)) (bD dH))) (df af) (aE _))))
  case B=>
  clear hr T;simp only [Lk.enc];walk_at "z";refine⟨cB,_,rfl,_,Ms,_,.inr rfl,?_⟩;have q:Q (.bool (decide (0 < k.go.length) && decide (k.bars.length=0))):=q;rw [Oe];by_cases h:0 < k.go.length
  ·rw [VF VD];refine⟨cB,_,rfl,_,Mt,_,.inl rfl,?_⟩;rw [decide_eq_true h,Qg] at q;rw [show((k.bars.length:Int)==0)=decide (k.bars.length=0) by
    by_cases e:k.bars.length=0
    ·simp [e]
    ·rw [decide_eq_false e];simp;exact λz=>e (by rw [z];rfl)]
   exact q
  ·rw [VE VD];rw [decide_eq_false h,R3] at q;exact q
def Mw(C:VM):List VI->(VI->Prop)->Prop:=λds Q=>∃k:Lk,ds=[k.enc C]/\Q k.row.enc
theorem DD(T:Txt K mg t):aD P w K mg base CX0 1 t.a_i t.d_i ["self"] (aW K (Mw t.u_Look)):=by
 refine T.F_i.okD KA (λds Q h=>?_) (λ_ _ _ _ H O ds Q E hr h=>?_)
 ·obtain⟨k,rfl,_⟩:=h;rfl
 ·obtain⟨k,rfl,q⟩:=h;refine'⟨_,?A,?B⟩
  case A=>
   refine' aA ?C
   case' C=>refine' aT ?D
   case' D=>refine' bN ?E
   case E=>exact aa (cu (C:=t.u_Look) T.cl_Look T.na_Look_paper (dv 0)) (aa (cu (C:=t.u_Look) T.cl_Look T.na_Look_day (dv 0)) (aa (cu (C:=t.u_Look) T.cl_Look T.na_Look_leave (dv 0)) ao))
  case B=>
  clear hr T;simp only [Lk.enc];walk_at "z";exact⟨cB,_,rfl,_,Mr,cB,_,rfl,_,Mq,cB,_,rfl,_,Mu,q⟩
structure Rn where
 n:Int
 L:List (Str×Pt)
 hs:List Hd
 lvs:List Pp
 go:List (Str×Int)
 us:List Str
def jO(p:Pp):VI:= .tuple [.str (Od "leave"),.int p.d,.str p.nm,.str p.kd]
def Rn.fd(R:Rn):List (Str×VI):=[(Od "day",.int R.n),(Od "rules",.tuple (R.L.map dB)),(Od "holds",.tuple (R.hs.map Hd.enc)),(Od "leaves",.list (R.lvs.map jO))]
def fo(go:List (Str×Int)):List (au×VI):=go.map λp=>(P4 p.1,.int p.2)
def fJ(us:List Str):List (au×VI):=us.map λs=>(P4 s,.bool true)
def cG:List Str:=[Od "day",Od "rules",Od "holds",Od "leaves",Od "gone",Od "used"]
def Rn.gn(R:Rn):Gn:=⟨R.go.map (·.1),R.go.map (·.2)⟩
def Rn.enc(C:VM)(R:Rn):VI:=fA C (cG.map .str) [.int R.n,.tuple (R.L.map dB),.tuple (R.hs.map Hd.enc),.list (R.lvs.map jO),R.gn.enc,fW R.us (R.us.map λ_=>.bool true)]
theorem Mx(C:VM)(R:Rn):xj C R.fd (R.go.map (·.1)) R.us (fo R.go) (fJ R.us)=R.enc C:=by
 have e1:(fo R.go).map (·.2)=(R.go.map (·.2)).map OJ:=by unfold fo;rw [OI,OI];rfl
 have e2:(fJ R.us).map (·.2)=R.us.map λ_=>.bool true:=by unfold fJ;rw [OI];rfl
 unfold xj;rw [e1,e2];rfl
theorem DH{a b c d e f:VI}:br cG [a,b,c,d,e,f] (Od "day")=some a/\br cG [a,b,c,d,e,f] (Od "rules")=some b/\br cG [a,b,c,d,e,f] (Od "holds")=some c/\br cG [a,b,c,d,e,f] (Od "leaves")=some d/\br cG [a,b,c,d,e,f] (Od "gone")=some e/\br cG [a,b,c,d,e,f] (Od "used")=some f:=by
 have h:∀{x y:Str}{p q:Option VI},x≠y->(if x=y then p else q)=q:=λh=>VE h;refine⟨?_,?_,?_,?_,?_,?_⟩
 ·simp [cG,br]
 ·simp only [cG,br,h (show Od "day"≠Od "rules" by decide+kernel),if_true]
 ·simp only [cG,br,h (show Od "day"≠Od "holds" by decide+kernel),h (show Od "rules"≠Od "holds" by decide+kernel),if_true]
 ·simp only [cG,br,h (show Od "day"≠Od "leaves" by decide+kernel),h (show Od "rules"≠Od "leaves" by decide+kernel),h (show Od "holds"≠Od "leaves" by decide+kernel),if_true]
 ·simp only [cG,br,h (show Od "day"≠Od "gone" by decide+kernel),h (show Od "rules"≠Od "gone" by decide+kernel),h (show Od "holds"≠Od "gone" by decide+kernel),h (show Od "leaves"≠Od "gone" by decide+kernel),if_true]
 ·simp only [cG,br,h (show Od "day"≠Od "used" by decide+kernel),h (show Od "rules"≠Od "used" by decide+kernel),h (show Od "holds"≠Od "used" by decide+kernel),h (show Od "leaves"≠Od "used" by decide+kernel),h (show Od "gone"≠Od "used" by decide+kernel),if_true]
structure qx (R:Rn):Prop where
 rl:iK R.L
 hd:tm R.hs
 ll:R.lvs.length<=41
 lk:∀p∈R.lvs,Om p.kd=true
theorem DI:∀(us:List Str)(z:Str),(br us (us.map λ_=>Rh true) z).isSome=us.contains z
 | [],_=>rfl
 | u::us,z=>by
  rw [Ol,br,Tc];by_cases h:u=z
  ·rw [VF h,h];simp
  ·rw [VE h,DI us z,bS (λe=>h e.symm),QB]
def rV(R:Rn)(kd:Str)(p:Pp):Bool:=p.kd==kd && !R.us.contains p.nm
def rW(R:Rn)(kd:Str):Option Str:=(R.lvs.find? (rV R kd)).map (·.nm)
def My(C:VM):List VI->(VI->Prop)->Prop:=λds Q=>∃(R:Rn)(kd:Str),ds=[R.enc C,.str kd]/\qx R/\Om kd=true/\Q (iM (rW R kd))
theorem Mz(T:Txt K mg t):aD P w K mg base CX0 1 t.a_l t.d_l ["self","kind"] (aW K (My t.u_Round)):=by
 refine T.F_l.okD B4 (λds Q h=>?_) (λ_ _ _ _ H O ds Q E hr h=>?_)
 ·obtain⟨R,kd,rfl,_⟩:=h;rfl
 ·obtain⟨R,kd,rfl,g,hk,q⟩:=h;refine'⟨_,?A,?B⟩
  case A=>
   refine' aq ?C ?D
   case C=>
    refine' mr Pk rfl (cu (C:=t.u_Round) T.cl_Round T.na_Round_leaves (dv 0)) (aM (i:=2) B4.nd rfl VG) aN ?E
    case' E=>refine' aA ?F
    case' F=>refine' bH ?G (aA (aT (aj aF aJ (df (dv 2)) (df af)))) bG
    case G=>exact(PW.pt (fg (aU (cx hr.units) cy (df (aj aF aJ (df (dv 2)) (df af))) (df (dv 1)) (aE _)) (fc (J7 hr.units (cu (C:=t.u_Round) T.cl_Round T.na_Round_used (dv 0)) (aj aF aJ (df (dv 2)) (df af))))))
   case D=>refine' aA (aT d5)
  case B=>
  clear hr T;obtain⟨_,_,_,x4,_,x6⟩:=DH (a:= .int R.n) (b:= .tuple (R.L.map dB)) (c:= .tuple (R.hs.map Hd.enc)) (d:= .list (R.lvs.map jO)) (e:=R.gn.enc) (f:=fW R.us (R.us.map λ_=>.bool true));walk_at "z";refine⟨cG,_,rfl,_,x4,_,rfl,?_⟩;refine⟨λi δ=>(∀p∈R.lvs.take i,rV R kd p=false)/\∃o2,δ=[some (Sl.v (R.enc t.u_Round)),some (Sl.v (.str kd)),o2],⟨VH,_,rfl⟩,?_,?_⟩
  ·rintro i z δ hz ⟨hn,o2,rfl⟩;rw [OD] at hz;cases hz':R.lvs[i]? with
   | none=>rw [hz'] at hz;cases hz
   | some p=>
    rw [hz'] at hz;cases hz;have hp:=O4 hz';have no:rV R kd p=false->∀p∈R.lvs.take (i+1),rV R kd p=false:=λh p' hp'=>by
     rw [Pd,hz'] at hp';rcases ON.mp hp' with z | z
     ·exact hn p' z
     ·have z:p'=p:=by simpa using z
      rw [z];exact h
    have yes:rV R kd p=true->Q (.str p.nm):=λh=>by
     have e:rW R kd=some p.nm:=by
      unfold rW;rw [show R.lvs=R.lvs.take i++p::R.lvs.drop (i+1) by
       have hi:=(OB.mp hz').1;rw [<-(OB.mp hz').2,<-So hi,R6]]
      rw [UP,Sz.mpr (λx hx=>by rw [hn x hx];simp),List.find?_cons_of_pos h];rfl
     rw [e] at q;exact q
    simp only [jO];walk_at "z";refine⟨cJ.mpr (g.lk p hp),cJ.mpr hk,?_⟩;unfold rV at no yes;by_cases h1:(p.kd==kd)=true
    ·rw [VF h1];rw [h1,Qg] at no yes;refine⟨cG,_,rfl,_,x6,_,_,rfl,?_⟩;rw [DI];by_cases h2:R.us.contains p.nm=false
     ·rw [VF h2];exact yes (by rw [h2];rfl)
     ·rw [VE h2];exact⟨no (by rw [Tu] at h2;rw [h2];rfl),_,rfl⟩
    ·rw [VE h1];exact⟨no (by rw [QA] at h1;rw [h1];rfl),_,rfl⟩
  ·rintro δ ⟨hn,o2,rfl⟩;rw [Oe,OZ (Oi _)] at hn;walk_at "z";have e:rW R kd=none:=by
    unfold rW;rw [Sz.mpr (λx hx=>by rw [hn x hx];simp)];rfl
   rw [e] at q;exact q
end
local macro_rules | `(tactic| walk_at "r") =>rzT (rzS++" Sl.i.injEq exists_and_left rj")
theorem yh:bq (ag g8) ["self","paper","line","to_stay","to_go","asking","leave","bars"] ["rule","by"] 2 [] ⟨Oq,[ (Of ".0",Xk),(Of "rule",Xk),(Of "by",Xk)],false,false,[]⟩:=⟨rfl,VB,VB,VB,rfl,VB,VB,VB,rfl⟩
theorem DJ:bq (ag g8) ["self","paper","line","to_stay","to_go","asking","leave","bars"] ["hold"] 1 [] ⟨Oq,[(Of ".0",Xk),(Of "hold",Xk)],false,false,[]⟩:=⟨rfl,VB,VB,VB,rfl,VB,VB,VB,rfl⟩
theorem DK:bq (ag g8) ["self","paper","line","to_stay","to_go","asking","leave","bars"] ["rule"] 1 [] ⟨Oq,[(Of ".0",Xk),(Of "rule",Xk)],false,false,[]⟩:=⟨rfl,VB,VB,VB,rfl,VB,VB,VB,rfl⟩
section
variable {P:VW} {w:VX} {K:Og} {mg:Str->Option VJ} {base:VY} {t:cz}
def vd(z:Str×VI):VI:= .tuple [.str (Od "stays"),.str z.1,z.2]
def ve(h:Str):VI:= .tuple [.str (Od "held"),.str h]
def vg(a:Str):VI:= .tuple [.str (Od "lacks"),.str a]
def qy(R:Rn)(kd:Str):Option Str:=if (hV kd R.L).length=0 then none else rW R kd
def eU(R:Rn)(r:Rp)(line:List Pp):Lk where
 d:=R.n
 nm:=r.c.nm
 st:=hU r R.n R.gn R.L
 go:=lF r R.n R.gn R.L
 bars:=(hU r R.n R.gn R.L).map vd++(gI R.hs line).map ve++(if qy R r.c.kd=none then(hV r.c.kd R.L).map vg else [])
 lv:=qy R r.c.kd
theorem DL{kd:Str}{L:List (Str×Pt)}(h:iK L):(hV kd L).length<=41:=by
 unfold hV;rw [Oe];exact O7 (O8 _ _) h.1
theorem DM{hs:List Hd}{line:List Pp}(h:tm hs):(gI hs line).length<=41:=by
 unfold gI;rw [Oe];exact O7 (O8 _ _) h.1
theorem yi{r:Rp}{n:Int}{g:Gn}{L:List (Str×Pt)}(h:iK L):(hU r n g L).length<=41:=
 O7 (u5 (λz=>xZ _) _) (u7 h).1
theorem MA{r:Rp}{n:Int}{g:Gn}{L:List (Str×Pt)}(h:iK L):(lF r n g L).length<=41:=
 O7 (u5 (λz=>xZ _) _) (u7 h).1
theorem DN{R:Rn}{r:Rp}{line:List Pp}(g:qx R):lG (eU R r line):=by
 refine⟨yi g.rl,MA g.rl,?_⟩;show(S9 (_++_++_))<=200;have h1:=yi (r:=r) (n:=R.n) (g:=R.gn) g.rl;have h2:=DM (line:=line) g.hd;have h3:=DL (kd:=r.c.kd) g.rl;rw [OG,OG,Oe,Oe];split
 ·rw [Oe];omega
 ·simp only [Px];omega
theorem DP{a b c d e:VI}:br [Od "name",Od "coming",Od "kind",Od "makers",Od "happenings"] [a,b,c,d,e] (Od "name")=some a:=by simp [br]
theorem MB:Od "unused" ∉ cG:=VB
def MC(CR CP CL:VM):List VI->(VI->Prop)->Prop:=λds Q=>∃(R:Rn)(r:Rp)(line:List Pp),ds=[R.enc CR,r.enc CP,.list (line.map Pp.enc)]/\qx R/\gH r/\va line/\Q ((eU R r line).enc CL)
theorem MD(T:Txt K mg t):aD P w K mg base CX0 8 t.a_m t.d_m ["self","paper","line"] (aW K (MC t.u_Round t.u_Paper t.u_Look)):=by
 have G_a:=@LM P w _ _ base _ T;have G_b:=@LN P w _ _ base _ T;have G_c:=@LS P w _ _ base _ T;have G_l:=@Mz P w _ _ base _ T;have G_U:=@Me P w _ _ base _ T;have G_g:=@Mp P w _ _ base _ T;refine T.F_m.okD rD (λds Q h=>?_) (λ_ _ _ _ H O ds Q E hr h=>?_)
 ·obtain⟨R,r,line,rfl,_⟩:=h;rfl
 ·obtain⟨R,r,line,rfl,g,hr',lo,q⟩:=h;refine'⟨_,?A,?B⟩
  case A=>
   refine' aq ?C ?D
   case C=>
    refine' bt (i:=3) rD.nd rfl VG ?E (hs:=qZ)
    case E=>exact(PE.imp (aH G_a (hr.mono VC) rfl T.m_a T.F_a.kp T.b_a .nil aB (aa (dv 1) (aa (cu (C:=t.u_Round) T.cl_Round T.na_Round_rules (dv 0)) (aa (cu (C:=t.u_Round) T.cl_Round T.na_Round_day (dv 0)) (aa (cu (C:=t.u_Round) T.cl_Round T.na_Round_gone (dv 0)) ao))))) aR)
   case' D=>refine' aq ?F ?G
   case F=>
    refine' bt (i:=4) rD.nd rfl VG ?H (hs:=qZ)
    case H=>exact(PE.imp (aH G_b (hr.mono VC) rfl T.m_b T.F_b.kp T.b_b .nil aB (aa (dv 1) (aa (cu (C:=t.u_Round) T.cl_Round T.na_Round_rules (dv 0)) (aa (cu (C:=t.u_Round) T.cl_Round T.na_Round_day (dv 0)) (aa (cu (C:=t.u_Round) T.cl_Round T.na_Round_gone (dv 0)) ao))))) aR)
   case' G=>refine' aq ?I ?J
   case I=>exact(bt (i:=5) rD.nd rfl VG (PE.imp (aH G_c (hr.mono VC) rfl T.m_c T.F_c.kp T.b_c .nil aB (aa (cu (C:=t.u_Paper) T.cl_Paper T.na_Paper_kind (dv 1)) (aa (cu (C:=t.u_Round) T.cl_Round T.na_Round_rules (dv 0)) ao))) aR))
   case' J=>refine' aq ?K ?L
   case K=>
    refine' bt (i:=6) rD.nd rfl VG ?M (hs:=IB)
    case M=>exact(sM (uN (dv 5)) (PE.imp (zH (dv 0) T.cl_Round T.mt_Round_unused G_l (hr.mono VC) T.b_l .nil aB (aa (cu (C:=t.u_Paper) T.cl_Paper T.na_Paper_kind (dv 1)) ao)) Ka) d5)
   case' L=>refine' aq ?N ?O
   case N=>exact(BB (i:=7) rD.nd rfl VG (p7 rfl yh (df (dv 3)) (gB (b7 aN (b7 aN gA))) uH VC (λ_ _ _ _=>(gj (n:=2) rfl (b0 (aM (i:=0) yh.nd rfl VG) (b0 (aM (i:=1) yh.nd rfl VG) gi)))) (λ_ _ _ _=>dA) (λ_ _ _ _=>(bN (aa bg (aa (dv 0) (aa (dv 1) ao)))))))
   case' O=>refine' aq ?P ?Q
   case P=>exact(uE (i:=7) (pv 7) (i6 rfl DJ (df (PE.imp (aH G_U (hr.mono VC) rfl T.m_U T.F_U.kp T.b_U .nil aB (aa (cu (C:=t.u_Round) T.cl_Round T.na_Round_holds (dv 0)) (aa (dv 2) ao))) aR)) aN bO VC (λ_ _ _ _=>(aM (i:=0) DJ.nd rfl VG)) (λ_ _ _ _=>dA) (λ_ _ _ _=>(bN (aa bg (aa (dv 0) ao))))))
   case' Q=>refine' aq ?R ?S
   case R=>
    refine' bH (aU lK nz (df (dv 6)) (df d5) (aE _)) ?T bG
    case' T=>refine' aA ?U
    case U=>exact(uE (i:=7) (pv 7) (dU rfl DK (df (dv 5)) aN bO VC (λ_ _ _ _=>(aM (i:=0) DK.nd rfl VG)) (λ_ _ _ _=>dA) (λ_ _ _ _=>(bN (aa bg (aa (dv 0) ao))))))
   case' S=>refine' aA ?V
   case' V=>refine' Hr 7 ?W
   case' W=>refine' aT ?X
   case X=>exact(PE.imp (tT T.mk_Look G_g (hr.mono VC) rfl T.c_Look T.b_g .nil aB (aa (cu (C:=t.u_Round) T.cl_Round T.na_Round_day (dv 0)) (aa (cu (C:=t.u_Paper) T.cl_Paper T.na_Paper_name (dv 1)) (aa (dv 3) (aa (dv 4) (aa (dv 7) (aa (dv 6) ao))))))) wG)
  case B=>
  clear hr T G_a G_b G_c G_l G_U G_g;obtain⟨x1,x2,x3,x4,x5,x6⟩:=DH (a:= .int R.n) (b:= .tuple (R.L.map dB)) (c:= .tuple (R.hs.map Hd.enc)) (d:= .list (R.lvs.map jO)) (e:=R.gn.enc) (f:=fW R.us (R.us.map λ_=>.bool true));have l1:=yi (r:=r) (n:=R.n) (g:=R.gn) g.rl;have l2:=DM (line:=line) g.hd;have l3:=DL (kd:=r.c.kd) g.rl;generalize hB:fP (iY 7 _) _=TB;have key:∀o,o=qy R r.c.kd->TB {nx:=λx=>Q RH,rt:=Q} [some (Sl.v (R.enc t.u_Round)),some (Sl.v (r.enc t.u_Paper)),some (Sl.v (.list (line.map Pp.enc))),some (Sl.v (.tuple ((hU r R.n R.gn R.L).map cA))),some (Sl.v (.tuple ((lF r R.n R.gn R.L).map cA))),some (Sl.v (.list ((hV r.c.kd R.L).map .str))),some (Sl.v (iM o)),none]:=λo ho=>by
   subst hB;generalize hF:j4 7 _=TF;walk_at "r";refine⟨by rw [Oe];omega,iI (λ_=>true) vd (λz hz R' S h1 _=>?_) ?_⟩
   ·simp only [cA];walk_at "r";exact h1 rfl
   ·rw [fZ];refine⟨cG,_,rfl,_,x3,R.hs,line,rfl,g.hd,lo,_,rfl,by rw [Oe];omega,iI (λ_=>true) ve (λz hz R' S h1 _=>?_) ?_⟩
    ·walk_at "r";exact h1 rfl
    ·rw [fZ];have fin:∀bars,bars=(eU R r line).bars->TF {nx:=λx=>Q RH,rt:=Q} [some (Sl.v (R.enc t.u_Round)),some (Sl.v (r.enc t.u_Paper)),some (Sl.v (.list (line.map Pp.enc))),some (Sl.v (.tuple ((hU r R.n R.gn R.L).map cA))),some (Sl.v (.tuple ((lF r R.n R.gn R.L).map cA))),some (Sl.v (.list ((hV r.c.kd R.L).map .str))),some (Sl.v (iM o)),some (Sl.o bars)]:=λbars hb=>by
      subst hF;walk_at "r";refine⟨cG,_,rfl,_,x1,[Od "name",Od "coming",Od "kind",Od "makers",Od "happenings"],_,rfl,_,DP,_,_,_,_,_,_,rfl,?_⟩;rw [hb,ho];exact q
     refine⟨by rw [Oe,Oe];omega,?_⟩;have eb:(eU R r line).bars=(hU r R.n R.gn R.L).map vd++(gI R.hs line).map ve++(if qy R r.c.kd=none then(hV r.c.kd R.L).map vg else []):=rfl;rw [<-ho] at eb;cases o with
     | none=>
      rw [VF (by rfl)];refine⟨by rw [Oe];omega,iI (λ_=>true) vg (λz hz R' S h1 _=>?_) ?_⟩
      ·walk_at "r";exact h1 rfl
      ·rw [fZ];refine⟨by rw [OG,Oe,Oe,Oe];omega,fin _ ?_⟩;rw [eb,VF rfl]
     | some v=>
      rw [VE (by simp [dN,iM])];refine fin _ ?_;rw [eb,VE VH,Pj]
  walk_at "r";refine⟨cG,_,rfl,_,x2,cG,_,rfl,_,x1,cG,_,rfl,_,x5,r,R.L,R.n,R.gn,rfl,hr',g.rl,?_⟩;refine⟨cG,_,rfl,_,x2,cG,_,rfl,_,x1,cG,_,rfl,_,x5,r,R.L,R.n,R.gn,rfl,hr',g.rl,?_⟩;refine⟨[Od "name",Od "coming",Od "kind",Od "makers",Od "happenings"],_,rfl,_,uY,cG,_,rfl,_,x2,r.c.kd,R.L,rfl,hr'.2.1,g.rl,?_⟩;have key2:∀o,o=qy R r.c.kd->TB {nx:=λx=>Q RH,rt:=Q} [some (Sl.v (R.enc t.u_Round)),some (Sl.v (r.enc t.u_Paper)),some (Sl.v (.list (line.map Pp.enc))),some (Sl.v (.tuple ((hU r R.n R.gn R.L).map cA))),some (Sl.v (.tuple ((lF r R.n R.gn R.L).map cA))),some (Sl.v (.list ((hV r.c.kd R.L).map .str))),some (Sl.v (iM o)),none]:=key;clear key;refine⟨_,rfl,?_⟩;unfold qy at key2;by_cases h0:(hV r.c.kd R.L).length=0
  ·rw [VE (by rw [TX] at h0;rw [h0];simp)];exact key2 none (by rw [VF h0])
  ·rw [VF (by rw [List.isEmpty_eq_false_iff];intro z;exact h0 (by rw [<-Oe (f:=Oj),z];rfl))];exact⟨cG,⟨_,rfl⟩,MB,[Od "name",Od "coming",Od "kind",Od "makers",Od "happenings"],_,rfl,_,uY,R,r.c.kd,rfl,g,hr'.2.1,key2 _ (by rw [VE h0])⟩
end
local macro_rules | `(tactic| walk_at "r") =>rzT (rzS++" Sl.i.injEq Sl.r.injEq Sl.b.injEq exists_and_left rj xk xi xv uR")
theorem DQ:bq (ag jz) ["self","deeds","day","done","leaves","row"] ["deed","day"] 1 [2] ⟨Oq,[ (Of ".0",Xk),(Of "deed",Xk),(Of "day",OA)],false,false,[]⟩:=⟨rfl,VB,VB,VB,rfl,VB,VB,VB,rfl⟩
section
variable {P:VW} {w:VX} {K:Og} {mg:Str->Option VJ} {base:VY} {t:cz}
theorem DR(T:Txt K mg t):aD P w K mg base CX0 1 t.a_k t.d_k ["self","row"] (BO K t.u_Round):=by
 refine T.F_k.ok KC (λvs H Q E h=>?_) (λcdv A outer s H vs Q E hr h=>?_)
 ·obtain⟨l,dx,fs,g,u,gv,uv,a,x,y,z,rfl,_⟩:=h;rfl
 ·obtain⟨l,dx,fs,g,u,gv,uv,a,x,y,z,rfl,hl,lg,lu,ne,hg,hu,sq,n1,n2,q⟩:=h;have un:=hr.units;refine⟨_,di (v8 (SF (Uo (by decide:1<=64) _) hr.units) (tR (pv 0) rfl) (jY aF (pv 1) bR (λ_ _=>rfl)) (jY aF (pv 1) bR (λ_ _=>rfl)) rfl) (eX (qI (tF (Ff (jY aF (pv 1) bR (λ_ _=>rfl)))) (eX (v8 (SF (Uo (by decide:1<=64) _) hr.units) (tR (pv 0) rfl) (jY aF (pv 1) bR (λ_ _=>rfl)) yP rfl)) qH)),?_⟩;have gl:l≠g:=λe=>by rw [e,hg] at hl;cases hl
  have tk:∀{H':Hp},(∀b o,H b=some o->b≠g->H' b=some o)->bC K H' a [.str x,y,z]:=λ{H'} k=>by
   rcases sq with(h | ⟨ob,h⟩) | h
   ·exact .inl (.inl (k _ _ h (λe=>by rw [e,hg] at h;cases h)))
   ·exact .inl (.inr ⟨ob,k _ _ h (λe=>by rw [e,hg] at h;cases h)⟩)
   ·exact .inr h
  simp only [vq,Av];walk_at "d";refine iV sq eQ ⟨_,rfl,l,_,dx,fs,_,rfl,hl,T.cl_Round,T.na_Round_gone,lg,iV sq d7 ⟨g,rfl,_,oU.k (k:= .inr x) hg n1,?_⟩⟩;have sq2:bC K (ai H g (.dK (putK gv (.inr x) y))) a [.str x,y,z]:=tk λb o e n=>by rw [aC n];exact e
  simp only [yQ];walk_at "d";refine iV sq2 ix ?_;rcases q with⟨rfl,q⟩ | ⟨s,rfl,q⟩
  ·exact q
  ·rw [VF (λz=>nomatch z)];refine⟨_,rfl,l,_,dx,fs,_,rfl,by rw [aC gl];exact hl,T.cl_Round,T.na_Round_used,lu,?_⟩;walk_at "d";refine iV sq2 ix ⟨_,oU.k (k:= .inr s) (by rw [aC (Ne.symm ne)];exact hu) n2,q⟩
def oq(go:List (Str×Int))(k:Str)(d:Int):List (Str×Int):=if (go.any λp=>decide (p.1=k))=true then go.map (λp=>if p.1=k then(p.1,d) else p) else go++[(k,d)]
def qz(us:List Str)(s:Str):List Str:=if us.contains s=true then us else us++[s]
theorem DU(go:List (Str×Int))(k:Str):((fo go).any λp=>decide (p.1=P4 k))=go.any λp=>decide (p.1=k):=by
 unfold fo;rw [SV];congr 1;funext p;simp only [QC,decide_eq_decide];exact ja
theorem DV(go:List (Str×Int))(k:Str)(d:Int):fS (fo go) (.inr k) (.int d)=fo (oq go k d):=by
 unfold fS oq;rw [DU];split
 ·unfold fo;rw [OI,OI];apply Q6;intro p _;simp only [QC];by_cases h:p.1=k
  ·rw [VF (by rw [h]),VF h]
  ·rw [VE (λe=>h (ja.mp e)),VE h]
 ·unfold fo;rw [OO];rfl
theorem ME(us:List Str)(k:Str):((fJ us).any λp=>decide (p.1=P4 k))=us.contains k:=by
 unfold fJ;rw [SV]
 induction us with
 | nil=>rfl
 | cons u us ih=>
  rw [PQ,Tc,ih];congr 1;simp only [QC];by_cases h:u=k
  ·rw [h];simp
  ·rw [decide_eq_false (λe=>h (ja.mp e)),bS (λe=>h e.symm)]
theorem DW(us:List Str)(k:Str):fS (fJ us) (.inr k) (.bool true)=fJ (qz us k):=by
 unfold fS qz;rw [ME];split
 ·unfold fJ;rw [OI];apply Q6;intro p _;simp only [QC];split <;> rfl
 ·unfold fJ;rw [OO];rfl
def cI(m:List (Str×Int)×List Str)(r:Ro):List (Str×Int)×List Str:=(oq m.1 r.nm r.d,match r.lv with
 | none=>m.2
 | some s=>qz m.2 s)
theorem DX(go:List (Str×Int))(k:Str)(d:Int):(oq go k d).length<=go.length+1:=by
 unfold oq;split <;> simp
theorem DY(us:List Str)(k:Str):(qz us k).length<=us.length+1:=by
 unfold qz;split <;> simp
theorem yj:∀(rs:List Ro)(m:List (Str×Int)×List Str),(rs.foldl cI m).1.length<=m.1.length+rs.length/\(rs.foldl cI m).2.length<=m.2.length+rs.length
 | [],m=>⟨Oi _,Oi _⟩
 | r::rs,m=>by
  obtain⟨h1,h2⟩:=yj rs (cI m r);have a:(cI m r).1.length<=m.1.length+1:=DX _ _ _;have b:(cI m r).2.length<=m.2.length+1:=by
   unfold cI;cases r.lv with
   | none=>exact Qj _
   | some s=>exact DY _ _
  rw [PF,OC];exact⟨VD,VD⟩
def De.lv:De->Option Pp
 | .oth w d nm [.str kd]=>if (w==Od "leave")=true then some ⟨d,nm,kd,[]⟩ else none
 | _=>none
def rX(n:Int)(x:De):Bool:=x.w==Od "leave" && decide (x.d<=n)
def MF(xs:List De)(n:Int):List Pp:=bE ((xs.filterMap De.lv).filter λp=>decide (p.d<=n))
theorem DZ{n:Int}:∀{xs:List De},(∀d nm r,De.oth (Od "leave") d nm r∈xs->∃kd,r=[.str kd]/\Om kd=true)->(xs.filter (rX n)).map De.enc=((xs.filterMap De.lv).filter λp=>decide (p.d<=n)).map jO
 | [],_=>rfl
 | x::xs,h=>by
  have ih:=DZ (n:=n) (xs:=xs) λd nm r z=>h d nm r (OT _ z);by_cases hw:x.w=Od "leave"
  ·cases x with
   | pap p=>exact absurd hw (by show Od "paper"≠_;decide+kernel)
   | oth w d nm r=>
    have hw:w=Od "leave":=hw;subst hw;obtain⟨kd,rfl,_⟩:=h d nm r Pa;have e1:De.lv (.oth (Od "leave") d nm [.str kd])=some ⟨d,nm,kd,[]⟩:=by simp [De.lv]
    have e2:rX n (.oth (Od "leave") d nm [.str kd])=decide (d<=n):=by
     show((Od "leave"==Od "leave") && decide (d<=n))=_;rw [beq_self_eq_true,Qg]
    rw [P8,e1,Pb,Pb,e2];by_cases hd:d<=n
    ·rw [VF (by simpa using hd),VF (by simpa using hd),Ol,Ol,ih];rfl
    ·rw [VE (by simpa using hd),VE (by simpa using hd),ih]
  ·have e1:De.lv x=none:=by
    cases x with
    | pap p=>rfl
    | oth w d nm r=>
     unfold De.lv;split
     ·rename_i e;cases e;rw [bS (show w≠Od "leave" from hw),VE Ot]
     ·rfl
   have e2:rX n x=false:=by unfold rX;rw [bS hw,R3]
   rw [P8,e1,Pb,e2,VE Ot,ih]
theorem MG{ps:List Pp}{ds:List VI}(nd:(ps.map (·.nm)).Nodup)(hp:ds.Perm (ps.map jO))(hs:ds.Pairwise λa b=>bp (gG a) (gG b)=true):ds=(bE ps).map jO:=by
 refine lz (r:=λa b=>bp (gG a) (gG b)=true) (λa b z=>sY z) (hp.trans ((iG ps).map jO).symm) hs ?_;rw [PK];exact rJ nd
theorem yk{xs:List De}{p:Pp}(h:p∈xs.filterMap De.lv):∃x∈xs,x= .oth (Od "leave") p.d p.nm [.str p.kd]:=by
 obtain⟨x,hx,e⟩:=RT.mp h;cases x with
 | pap q=>cases e
 | oth w d nm r=>
  unfold De.lv at e;split at e
  ·rename_i e2;cases e2;split at e
   ·rename_i hw;cases e;exact⟨_,hx,by rw [eq_of_beq hw]⟩
   ·cases e
  ·cases e
theorem D1:∀{xs:List De},xs.Nodup->(∀x∈xs,∀y∈xs,x.w=Od "leave"->y.w=Od "leave"->x.nm=y.nm->x=y)->((xs.filterMap De.lv).map (·.nm)).Nodup
 | [],_,_=>by simp
 | x::xs,nd,h=>by
  rw [P6] at nd;have ih:=D1 nd.2 λa ha b hb=>h a (OT _ ha) b (OT _ hb);rw [P8];cases e:De.lv x with
  | none=>exact ih
  | some p=>
   show(Pn (·.nm) (p::xs.filterMap De.lv)).Nodup;rw [Ol,P6];refine⟨λhm=>?_,ih⟩;obtain⟨p',hp',en⟩:=OE.mp hm;obtain⟨y,hy,ey⟩:=yk hp';obtain⟨x',hx',ex⟩:=yk (xs:=[x]) (p:=p) (by rw [P8,e];simp);rw [OS] at hx';subst hx';have:=h x' Pa y (OT _ hy) (by rw [ex];rfl) (by rw [ey];rfl) (by rw [ex,ey];exact en.symm);rw [this] at nd;exact nd.1 hy
def eV(xs:List De)(n:Int)(rows:List Ro):Rn:=⟨n,lB xs n,yg xs n,MF xs n,(rows.foldl cI ([],[])).1,(rows.foldl cI ([],[])).2⟩
def MH:List VI->List VI->(List (Str×VI)->List (au×VI)->List (au×VI)->Prop)->Prop:=λds es Q=>∃(xs:List De)(n:Int)(rows:List Ro),ds=[.tuple (xs.map De.enc),.int n]/\es=rows.map Ro.enc/\gf xs/\rows.length<=100000/\(qx (eV xs n rows)->Q (eV xs n rows).fd (fo (eV xs n rows).go) (fJ (eV xs n rows).us))
theorem ym(R:Rn):fY (Od "mark") (R.fd.map (·.1))=true:=by
 show fY (Od "mark") [Od "day",Od "rules",Od "holds",Od "leaves"]=true;decide+kernel
theorem MI(T:Txt K mg t):aD P w K mg base CX0 5 t.a_j t.d_j ["self","deeds","day","done"] (xq K t.u_Round MH):=by
 have G_R:=@LD P w _ _ base _ T;have G_S:=@Mc P w _ _ base _ T;have G_J:=@xO P w _ _ base _ T;have G_k:=@DR P w _ _ base _ T;refine T.F_j.okRn xB (λds es Q h=>?_) (λcdv A outer s H H1 O ds es Q E l hr h0 hX h=>?_)
 ·obtain⟨xs,n,rows,rfl,_⟩:=h;rfl
 ·obtain⟨xs,n,rows,rfl,rfl,g,rl,q⟩:=h;refine'⟨_,?A,?B⟩
  case A=>
   refine' aq (fE (C:=t.u_Round) (i:=0) T.cl_Round T.na_Round_day (pv 0) (dv 2)) ?C
   case' C=>refine' aq ?D ?E
   case D=>exact(fE (C:=t.u_Round) (i:=0) T.cl_Round T.na_Round_rules (pv 0) (PE.imp (aH G_R (hr.mono VC) rfl T.m_R T.F_R.kp T.b_R .nil aB (aa (dv 1) (aa (dv 2) ao))) aR))
   case' E=>refine' aq ?F ?G
   case F=>exact(fE (C:=t.u_Round) (i:=0) T.cl_Round T.na_Round_holds (pv 0) (PE.imp (aH G_S (hr.mono VC) rfl T.m_S T.F_S.kp T.b_S .nil aB (aa (dv 1) (aa (dv 2) ao))) aR))
   case' G=>refine' aq ?H ?I
   case H=>exact(i9 (i:=4) xB.nd rfl VG (p7 rfl DQ (df (dv 1)) aN bO VC (λ_ _ _ _=>(aM (i:=0) DQ.nd rfl VG)) (λ_ _ _ _=>(cU (PW.pt (fg (aU (cD hr) cE (df (aj aF aJ (df (dv 0)) (df af))) (df bg) (aE _)) (fc (aU jW cW (df (aj aF aJ (df (dv 0)) (df af))) (df (dv 1)) (aE _))))))) (λ_ _ _ _=>(dv 0))))
   case' I=>refine' aq ?J ?K
   case J=>exact(fE (C:=t.u_Round) (i:=0) T.cl_Round T.na_Round_leaves (pv 0) (fe (Bo gG rfl G_J (bw.in1 (bw.in1 (hr.mono VC))) T.b_J rfl T.m_J rfl T.n_sorted Qp (bj (df (dv 4)) bo))))
   case' K=>refine' Ki (C:=t.u_Round) (i:=0) T.cl_Round T.na_Round_gone T.na_Round_used (pv 0) (pv 0) ?L
   case' L=>refine' aA ?M
   case M=>exact Kj (j:=3) h0 Pk rfl (pv 3) (aM (i:=5) xB.nd rfl VG) aN (aA (BP (C:=t.u_Round) (i:=0) hX (pv 0) T.cl_Round T.mt_Round_mark G_k (hr.mono VC) T.b_k aB (dv 5)))
  case B=>
  clear hr T G_R G_S G_J G_k h0 hX;simp only [xt,n9,Ol,Pw,PN,PL,S8,OC,Px,Qm,Qn,OL];have f1:∀a,dO (Od "day") a []=[(Od "day",a)]:=λa=>rfl;have f2:∀a b,dO (Od "rules") b [(Od "day",a)]=[(Od "day",a),(Od "rules",b)]:=λa b=>jN (ks:=[Od "day"]) rfl VB;have f3:∀a b c,dO (Od "holds") c [(Od "day",a),(Od "rules",b)]=[(Od "day",a),(Od "rules",b),(Od "holds",c)]:=λa b c=>jN (ks:=[Od "day",Od "rules"]) rfl VB;have f4:∀a b c d,dO (Od "leaves") d [(Od "day",a),(Od "rules",b),(Od "holds",c)]=[(Od "day",a),(Od "rules",b),(Od "holds",c),(Od "leaves",d)]:=λa b c d=>jN (ks:=[Od "day",Od "rules",Od "holds"]) rfl VB;have lt:∀n:Nat,n < 10->n < 1000:=λn h=>by omega
  have lt9:∀n:Nat,n < 10->n < 900:=λn h=>by omega
  have xl:=g.gd.gx.ln;generalize hB:uR _ _ _=TB;walk_at "r";simp only [f1,f2,f3,f4];refine⟨xs,n,rfl,g.gd,λh1 h2=>⟨lt 1 VC,xs,n,rfl,g,λh3=>⟨lt 2 VC,by rw [Oe];omega,cZ (rX n) De.enc (λx hx R S h=>?_) ?_⟩⟩⟩
  ·have h:if (x.w==Od "leave")=true then(if x.d<=n then R x.enc else S) else S:=by
    unfold rX at h;by_cases e1:(x.w==Od "leave")=true
    ·rw [VF e1];rw [e1,Qg] at h;by_cases e2:x.d<=n
     ·rw [VF e2];rw [VF (by simpa using e2)] at h;exact h
     ·rw [VE e2];rw [VE (by simpa using e2)] at h;exact h
    ·rw [VE e1];rw [QA] at e1;rw [e1,R3,VE Ot] at h;exact h
   cases x <;> simp only [De.enc,De.w,De.d,Pp.enc] at h⊢<;> walk_at "r" <;> exact h
  ·rw [DZ g.le];have nd:(((xs.filterMap De.lv).filter λp=>decide (p.d<=n)).map (·.nm)).Nodup:=(D1 g.gd.nd g.lv).sublist (Sj.map _);have ll:((xs.filterMap De.lv).filter λp=>decide (p.d<=n)).length<=41:=by
    have a:=O8 (λp:Pp=>decide (p.d<=n)) (xs.filterMap De.lv);have b:=TL De.lv xs;omega
   refine⟨λd hd R z=>?_,by rw [Oe];omega,?_,λds' h5 h6=>⟨lt 3 VC,?_,lt9 4 VC,λga ua=>?_⟩⟩
   ·obtain⟨p,hp,rfl⟩:=OE.mp hd;exact⟨.oth (Od "leave") p.d p.nm [.str p.kd],rfl,z⟩
   ·rw [OI];exact xP nd
   ·show fY (Od "mark") [Od "day",Od "rules",Od "holds",Od "leaves"]=true;decide+kernel
   ·rw [MG nd h5 h6];have g5:qx (eV xs n rows):=by
     refine⟨LU g.gd h1 h2,h3,?_,λp hp=>?_⟩
     ·show(bE _).length<=41;rw [fG];exact ll
     ·have hp:=(Po.mp (jG.mp hp)).1;obtain⟨x,hx,e⟩:=yk hp;obtain⟨kd,e2,h⟩:=g.le p.d p.nm [.str p.kd] (by rw [<-e];exact hx);simp only [Pe,P1,and_true] at e2;rw [e2];exact h
    have q:=q g5;subst hB;walk_at "r";refine⟨λi δ=>∃o5,δ=[some (Sl.r l t.u_Round ga ua (eV xs n rows).fd (fo ((rows.take i).foldl cI ([],[])).1) (fJ ((rows.take i).foldl cI ([],[])).2)),some (Sl.v (O5 (Pn De.enc xs))),some (Sl.v (OJ n)),some (Sl.b (Pn Ro.enc rows)),some (Sl.v (PX (((xs.filterMap De.lv).filter λp=>decide (p.d<=n)).map jO))),o5],⟨none,rfl⟩,?_,?_⟩
    ·rintro i z δ hz ⟨o5,rfl⟩;rw [OD] at hz;cases hz':rows[i]? with
     | none=>rw [hz'] at hz;cases hz
     | some r=>
      rw [hz'] at hz;cases hz;have ts:(rows.take (i+1)).foldl cI ([],[])=cI ((rows.take i).foldl cI ([],[])) r:=by
       rw [Pd,hz',Q2];rfl
      obtain⟨m1,m2⟩:=yj (rows.take i) ([],[]);rw [Pf] at m1 m2;simp only [Px] at m1 m2;simp only [ts,Ro.enc];walk_at "r";generalize hM:(rows.take i).foldl cI ([],[])=M at m1 m2;refine⟨rfl,ym _,by unfold fo;rw [Oe];omega,by unfold fJ;rw [Oe];omega,?_⟩;have e1:(cI M r).1=oq M.1 r.nm r.d:=rfl;rw [e1,DV];cases hv:r.lv with
      | none=>
       have e2:(cI M r).2=M.2:=by unfold cI;rw [hv]
       rw [e2];exact .inl ⟨rfl,rfl,rfl,_,rfl⟩
      | some v=>
       have e2:(cI M r).2=qz M.2 v:=by unfold cI;rw [hv]
       rw [e2];exact .inr ⟨v,rfl,rfl,DW _ _,_,rfl⟩
    ·rintro δ ⟨o5,rfl⟩;rw [Oe,OZ (Oi _)];exact⟨_,_,_,_,_,rfl,q⟩
end
local macro_rules | `(tactic| walk_at "r") =>rzT (rzS++" Sl.i.injEq Sl.r.injEq Sl.b.injEq exists_and_left rj xk xi xv uR BR xm BS")
theorem D2:bq (ag jA) ["deeds"] ["name","deeds"] 1 [0] ⟨Oq,[ (Of ".0",Xk),(Of "name",Xk),(Of "Paper",OQ),(Of "line_of",OQ),(Of "deeds",OA)],false,false,[]⟩:=⟨rfl,VB,VB,VB,rfl,VB,VB,VB,rfl⟩
section
variable {P:VW} {w:VX} {K:Og} {mg:Str->Option VJ} {base:VY} {t:cz}
theorem MJ(T:Txt K mg t):t.u_Look≠t.u_Round:=λe=>by
 have h1:=T.mk_Look.init;have h2:=T.mk_Round.init;rw [e,h2] at h1;have h3:t.a_j=t.a_g:=by injection h1 with h1;injection h1 with h1;injection h1
 obtain⟨_,_,_,_,_,_,_,_,_,e1,k1,_⟩:=T.F_g.ex;obtain⟨_,_,_,_,_,_,_,_,_,e2,k2,_⟩:=T.F_j.ex;rw [<-h3,k2] at k1;simp only [P2,Obj.mk.injEq,Data.func.injEq] at k1;have h4:t.d_j=t.d_g:=k1.2.2.1;rw [e1,e2] at h4;have h5:("Round.__init__":Str)="Look.__init__":=congrArg FuncData.qualname h4;exact absurd h5 VB
abbrev Sf:=Rp×List Pp
def Sf.enc(C:VM)(s:Sf):VI:= .tuple [s.1.enc C,.list (s.2.map Pp.enc)]
def fK(xs:List De):List Sf:=(bE (aI xs)).map λc=>(gb xs c,qv (aI xs) c)
def D3(s:Sf):Prop:=gH s.1/\va s.2
def MK(C:VM):List VI->(VI->Prop)->Prop:=λds Q=>∃xs:List De,ds=[.tuple (xs.map De.enc)]/\hJ xs/\((∀s∈fK xs,D3 s)->Q (.list ((fK xs).map (Sf.enc C))))
theorem ML(T:Txt K mg t):aD P w K mg base CX0 9 t.a_n t.d_n ["deeds"] (aW K (MK t.u_Paper)):=by
 have G_I:=@Cz P w _ _ base _ T;have G_M:=@xS P w _ _ base _ T;have G_P:=@Mn P w _ _ base _ T;refine T.F_n.okD KD (λds Q h=>?_) (λ_ _ _ _ H O ds Q E hr h=>?_)
 ·obtain⟨xs,rfl,_⟩:=h;rfl
 ·obtain⟨xs,rfl,gd,q⟩:=h;refine'⟨_,?A,?B⟩
  case A=>
   refine' aA ?C
   case' C=>refine' aT ?D
   case' D=>refine' fe ?E
   case E=>exact(i6 rfl D2 (df (PE.imp (aH G_M (hr.mono VC) rfl T.m_M T.F_M.kp T.b_M .nil aB (aa (dv 0) ao)) aR)) aN bO VC (λ_ _ _ _=>(aM (i:=0) D2.nd rfl VG)) (λ_ _ _ _=>dA) (λ_ _ _ _=>(bN (aa (PE.imp (tT T.mk_Paper G_I (hr.mono VC) rfl T.c_Paper T.b_I .nil aB (aa (dv 1) (aa (dv 0) ao))) wG) (aa (PE.imp (aH G_P (hr.mono VC) rfl T.m_P T.F_P.kp T.b_P .nil aB (aa (dv 1) (aa (dv 0) ao))) aR) ao)))))
  case B=>
  clear hr T G_I G_M G_P;walk_at "z";have ln:=gd.gx.ln;have ol:=fG (ps:=aI xs);have pl:=gd.gx.gp.ln;refine⟨xs,rfl,gd.gx,_,rfl,by rw [Oe,Oe];omega,?_⟩;refine⟨λi acc=>acc=((bE (aI xs)).take i).map (λc=>Sf.enc t.u_Paper (gb xs c,qv (aI xs) c))/\∀c∈(bE (aI xs)).take i,gH (gb xs c),⟨rfl,VH⟩,?_,?_⟩
  ·rintro i z acc hz ⟨rfl,hh⟩;rw [OD,OD] at hz;cases hz':(bE (aI xs))[i]? with
   | none=>rw [hz'] at hz;cases hz
   | some c=>
    rw [hz'] at hz;cases hz;walk_at "z";have hc:=jG.mp (O4 hz');refine⟨xs,c,rfl,gd,hc,λh1 h2 h3=>⟨xs,c,rfl,gd.gx,hc,?_,λc' hc'=>?_⟩⟩
    ·rw [Pd,hz',OO];rfl
    ·rw [Pd,hz'] at hc';rcases ON.mp hc' with y | y
     ·exact hh c' y
     ·have y:c'=c:=by simpa using y
      rw [y];exact CU gd hc h1 h3
  ·rintro acc ⟨rfl,hh⟩;simp only [Oe,U1] at hh⊢;have e:(bE (aI xs)).map (λc=>Sf.enc t.u_Paper (gb xs c,qv (aI xs) c))=(fK xs).map (Sf.enc t.u_Paper):=by unfold fK;rw [OI];rfl
   rw [e];refine q λs hs=>?_;obtain⟨c,hc,rfl⟩:=OE.mp hs;exact⟨hh c hc,Ml gd.gx.gp (jG.mp hc)⟩
abbrev jP:=List (Str×Int)×List Str
def tu(go:List (Str×Int))(z:Str):Bool:=go.any λp=>decide (p.1=z)
def Rn.at(R:Rn)(m:jP):Rn:={R with go:=m.1,us:=m.2}
def fq(R:Rn)(st:jP×List Lk)(s:Sf):jP×List Lk:=
 if (decide (s.1.c.d<=R.n) && !tu st.1.1 s.1.c.nm)=true then((if (eU (R.at st.1) s.1 s.2).lets=true then cI st.1 (eU (R.at st.1) s.1 s.2).row else st.1),st.2++[eU (R.at st.1) s.1 s.2]) else st
def jQ(R:Rn)(ss:List Sf):jP×List Lk:=ss.foldl (fq R) ((R.go,R.us),[])
def qA(xs:List De)(n:Int)(rows:List Ro)(ss:List Sf):List Lk:=(jQ (eV xs n rows) ss).2
theorem yp:∀{ds:List VI},(∀d∈ds,cS d=true)->fF ds=true
 | [],_=>rfl
 | d::ds,h=>by
  rw [fF,h d Pa,yp λx hx=>h x (OT _ hx)];rfl
theorem D4(o:Option Int):cS (bT o)=true:=by cases o <;> rfl
theorem MM(o:Option Str):cS (iM o)=true:=by cases o <;> rfl
theorem MN{r:Rp}{n:Int}{g:Gn}{pt:Pt}{d:VI}(h:rP r n g pt=some d):cS d=true:=by
 cases pt with
 | two w kd=>
  simp only [rP] at h;split at h
  ·rw [Ri] at h;obtain⟨s,_,rfl⟩:=h;rfl
  ·cases h
 | five w kd s k u=>
  simp only [rP] at h;split at h
  ·cases h;exact D4 _
  ·cases h
theorem MO{r:Rp}{n:Int}{g:Gn}{pt:Pt}{d:VI}(h:rQ r n g pt=some d):cS d=true:=by
 cases pt with
 | two w kd=>
  simp only [rQ] at h;split at h
  ·rw [Ri] at h;obtain⟨s,_,rfl⟩:=h;rfl
  ·cases h
 | five w kd s k u=>
  simp only [rQ] at h;split at h
  ·cases h;exact D4 _
  ·cases h
theorem D5{r:Rp}{n:Int}{g:Gn}{L:List (Str×Pt)}{z:Str×VI}(h:z∈hU r n g L):cS z.2=true:=by
 obtain⟨y,_,hy⟩:=U2.mp h;unfold xX at hy;rw [UQ,Ri] at hy;obtain⟨b,hb,rfl⟩:=hy;exact MN hb
theorem MP{r:Rp}{n:Int}{g:Gn}{L:List (Str×Pt)}{z:Str×VI}(h:z∈lF r n g L):cS z.2=true:=by
 obtain⟨y,_,hy⟩:=U2.mp h;unfold xY at hy;rw [UQ,Ri] at hy;obtain⟨b,hb,rfl⟩:=hy;exact MO hb
theorem D6{l:List (Str×VI)}(h:∀z∈l,cS z.2=true):fF (l.map cA)=true:=yp λd hd=>by
 obtain⟨z,hz,rfl⟩:=OE.mp hd;show(true && (cS z.2 && true))=true;rw [h z hz];rfl
theorem MQ{CR CL:VM}(ne:CL≠CR)(R:Rn)(r:Rp)(line:List Pp):xf CR ((eU R r line).enc CL):=by
 refine .inr ⟨CL,_,_,ne,rfl,?_⟩;have h1:fF ((hU r R.n R.gn R.L).map cA)=true:=D6 λz hz=>D5 hz;have h2:fF ((lF r R.n R.gn R.L).map cA)=true:=D6 λz hz=>MP hz;have h3:fF (eU R r line).bars=true:=yp λd hd=>by
  have hd:d∈(hU r R.n R.gn R.L).map vd++(gI R.hs line).map ve++(if qy R r.c.kd=none then(hV r.c.kd R.L).map vg else []):=hd;rcases ON.mp hd with hd | hd
  ·rcases ON.mp hd with hd | hd
   ·obtain⟨z,hz,rfl⟩:=OE.mp hd;show(true && (true && (cS z.2 && true)))=true;rw [D5 hz];rfl
   ·obtain⟨z,hz,rfl⟩:=OE.mp hd;rfl
  ·split at hd
   ·obtain⟨z,hz,rfl⟩:=OE.mp hd;rfl
   ·cases hd
 show(true && (true && (fF ((hU r R.n R.gn R.L).map cA) && (fF ((lF r R.n R.gn R.L).map cA) && (fF (eU R r line).bars && (cS (iM (eU R r line).lv) && true))))))=true;rw [h1,h2,h3,MM];rfl
theorem MR(R:Rn)(st:jP×List Lk)(s:Sf):(fq R st s).1.1.length<=st.1.1.length+1/\(fq R st s).1.2.length<=st.1.2.length+1/\(fq R st s).2.length<=st.2.length+1:=by
 unfold fq;split
 ·refine⟨?_,?_,VH⟩
  ·show(if _ then _ else _:jP).1.length<=_;split
   ·exact DX _ _ _
   ·exact Qj _
  ·show(if _ then _ else _:jP).2.length<=_;split
   ·unfold cI;cases (eU (R.at st.1) s.1 s.2).row.lv with
    | none=>exact Qj _
    | some v=>exact DY _ _
   ·exact Qj _
 ·exact⟨Qj _,Qj _,Qj _⟩
theorem yq(R:Rn):∀(ss:List Sf)(st:jP×List Lk),(ss.foldl (fq R) st).1.1.length<=st.1.1.length+ss.length/\(ss.foldl (fq R) st).1.2.length<=st.1.2.length+ss.length/\(ss.foldl (fq R) st).2.length<=st.2.length+ss.length
 | [],st=>⟨Oi _,Oi _,Oi _⟩
 | s::ss,st=>by
  obtain⟨h1,h2,h3⟩:=yq R ss (fq R st s);obtain⟨a1,a2,a3⟩:=MR R st s;rw [PF,OC];exact⟨VD,VD,VD⟩
theorem D7(R:Rn)(g:qx R):∀(ss:List Sf)(st:jP×List Lk),(∀k∈st.2,lG k)->∀k∈(ss.foldl (fq R) st).2,lG k
 | [],st,h=>h
 | s::ss,st,h=>by
  rw [PF];refine D7 R g ss _ λk hk=>?_;unfold fq at hk;split at hk
  ·rcases ON.mp hk with z | z
   ·exact h k z
   ·rw [OS] at z;rw [z];exact DN ⟨g.rl,g.hd,g.ll,g.lk⟩
  ·exact h k hk
theorem MS(go:List (Str×Int))(z:Str):(fD (fo go) (.inr z)).isSome=tu go z:=by
 unfold fD tu;rw [SI,<-DU,Rr,List.find?_isSome,Ra]
theorem MT(R:Rn):fY (Od "look") (R.fd.map (·.1))=true:=by
 show fY (Od "look") [Od "day",Od "rules",Od "holds",Od "leaves"]=true;decide+kernel
theorem D8:Od "lets_go" ∉ cB:=VB
theorem D9:Od "as_row" ∉ cB:=VB
def MU(xs:List De)(ss:List Sf)(n:Int)(rows:List Ro)(l CR CP CL ga ua:VM)(R:Rn)(st:jP×List Lk)(δ:Dl):Prop:=∃(o6 o7 o8:Option Sl),δ=[some (Sl.v (O5 (Pn De.enc xs))),some (Sl.v (PX (Pn (Sf.enc CP) ss))),some (Sl.v (OJ n)),some (Sl.b (Pn Ro.enc rows)),some (Sl.r l CR ga ua R.fd (fo st.1.1) (fJ st.1.2)),some (Sl.o (st.2.map (Lk.enc CL))),o6,o7,o8]
def MV(CP CL:VM):List VI->List VI->(VI->Prop)->Prop:=λds es Q=>∃(xs:List De)(ss:List Sf)(n:Int)(rows:List Ro),ds=[.tuple (xs.map De.enc),.list (ss.map (Sf.enc CP)),.int n]/\es=rows.map Ro.enc/\gf xs/\rows.length<=100000/\ss.length<=41/\(∀s∈ss,D3 s)/\((∀k∈qA xs n rows ss,lG k)->Q (.list ((qA xs n rows ss).map (Lk.enc CL))))
theorem MW(T:Txt K mg t):aD P w K mg base CX0 9 t.a_o t.d_o ["deeds","shelf","day","done"] (xp K (MV t.u_Paper t.u_Look)):=by
 have G_j:=@MI P w _ _ base _ T;have G_k:=@DR P w _ _ base _ T;have G_m:=@MD P w _ _ base _ T;have G_h:=@DC P w _ _ base _ T;have G_i:=@DD P w _ _ base _ T;have two:=MJ T;refine T.F_o.okB rE (λds es Q h=>?_) (λcdv A outer s H O ds es Q E hr h0 h=>?_)
 ·obtain⟨xs,ss,n,rows,rfl,_⟩:=h;rfl
 ·obtain⟨xs,ss,n,rows,rfl,rfl,g,rl,sl,so,q⟩:=h;have hX:∀b,H b=none->∀o z,H b≠some (.frz o z):=λb hb o z e=>by
   rw [hb] at e;cases e
  refine'⟨_,?A,?B⟩
  case A=>
   refine' aq ?C ?D
   case C=>exact(Kh (C:=t.u_Round) (i:=4) (j:=3) rE.nd rfl VG T.mk_Round G_j (hr.mono VC) rfl T.c_Round T.b_j aB (dv 0) (dv 2) (pv 3))
   case' D=>refine' aq (iZ (i:=5) rE.nd rfl VG (cn ao)) ?E
   case' E=>refine' aq ?F (aA (sN (pv 5)))
   case F=>
    refine' mr Pk rfl (dv 1) ?G (gB (b7 aN (b7 aN gA))) ?H
    case G=>exact(gj (n:=2) rfl (b0 (aM (i:=6) rE.nd rfl VG) (b0 (aM (i:=7) rE.nd rfl VG) gi)))
    case' H=>refine' aA ?I
    case' I=>refine' bH ?J ?K bG
    case J=>exact(PW.pt (fg (aU jW cW (df (cu (C:=t.u_Paper) T.cl_Paper T.na_Paper_coming (dv 6))) (df (dv 2)) (aE _)) (fc (Kf (C:=t.u_Round) (i:=4) hr.units T.cl_Round T.na_Round_gone (pv 4) (cu (C:=t.u_Paper) T.cl_Paper T.na_Paper_name (dv 6))))))
    case' K=>refine' aq ?L ?M
    case L=>exact(bt (i:=8) rE.nd rfl VG (PE.imp (zH (pv 4) T.cl_Round T.mt_Round_look G_m (hr.mono VC) T.b_m .nil aB (aa (dv 6) (aa (dv 7) ao))) Kd))
    case' M=>refine' aq (lZ (i:=5) (pv 5) (dv 8)) ?N
    case' N=>refine' aA ?O
    case' O=>refine' bH (fO (PE.imp (tS (dv 8) T.cl_Look T.mt_Look_lets_go G_h (hr.mono VC) T.b_h .nil aB) uP)) ?P bG
    case' P=>refine' aA ?Q
    case Q=>exact(BP (C:=t.u_Round) (i:=4) hX (pv 4) T.cl_Round T.mt_Round_mark G_k (hr.mono VC) T.b_k aB (PE.imp (tS (dv 8) T.cl_Look T.mt_Look_as_row G_i (hr.mono VC) T.b_i .nil aB) uP))
  case B=>
  clear hr T G_j G_k G_m G_h G_i h0 hX;simp only [n9,Ol,Pw,PN,PL,S8,OC,Px,Qm,Qn,OL];walk_at "r";refine⟨xs,n,rows,rfl,rfl,g,rl,λgR l ga ua=>?_⟩;have q:Q (.list ((jQ (eV xs n rows) ss).2.map (Lk.enc t.u_Look))):=q (D7 _ gR ss _ (λk hk=>nomatch hk));obtain⟨m1,m2⟩:=yj rows ([],[]);have m1:(eV xs n rows).go.length<=100000:=by
   have:(eV xs n rows).go.length<=0+rows.length:=m1;omega
  have m2:(eV xs n rows).us.length<=100000:=by
   have:(eV xs n rows).us.length<=0+rows.length:=m2;omega
  generalize hE:d4.mk _ _ _ _=EE;have eN:EE.nx=iX 5 {nx:=λx=>Q RH,rt:=Q}:=by rw [<-hE]
  have hn:(eV xs n rows).n=n:=rfl;clear hE rl;generalize eV xs n rows=R at*;refine⟨λi=>MU xs ss n rows l t.u_Round t.u_Paper t.u_Look ga ua R (jQ R (ss.take i)),⟨none,none,none,rfl⟩,?_,?_⟩
  ·rintro i z δ hz ⟨o6,o7,o8,rfl⟩;rw [OD] at hz;cases hz':ss[i]? with
   | none=>rw [hz'] at hz;cases hz
   | some s=>
    rw [hz'] at hz;cases hz;have ts:jQ R (ss.take (i+1))=fq R (jQ R (ss.take i)) s:=by
     unfold jQ;rw [Pd,hz',Q2];rfl
    obtain⟨b1,b2,b3⟩:=yq R (ss.take i) ((R.go,R.us),[]);have b1:(jQ R (ss.take i)).1.1.length<=R.go.length+(ss.take i).length:=b1;have b2:(jQ R (ss.take i)).1.2.length<=R.us.length+(ss.take i).length:=b2;have b3:(jQ R (ss.take i)).2.length<=0+(ss.take i).length:=b3;rw [Pf] at b1 b2 b3;obtain⟨so1,so2⟩:=so s (O4 hz');simp only [ts];generalize jQ R (ss.take i)=st at b1 b2 b3;simp only [Sf.enc];walk_at "r";have no:(decide (s.1.c.d<=R.n) && !tu st.1.1 s.1.c.nm)=false->fq R st s=st:=λh=>by
     unfold fq;rw [VE (by rw [h];exact Ot)]
    refine⟨[Od "name",Od "coming",Od "kind",Od "makers",Od "happenings"],_,rfl,_,uX,_,rfl,?_⟩;by_cases hd:s.1.c.d<=n
    ·rw [VF hd];refine⟨[Od "name",Od "coming",Od "kind",Od "makers",Od "happenings"],_,rfl,_,DP,_,rfl,ym R,?_⟩;rw [MS];by_cases hg:tu st.1.1 s.1.c.nm=false
     ·rw [VF hg];have eS:fq R st s=((if (eU (R.at st.1) s.1 s.2).lets=true then cI st.1 (eU (R.at st.1) s.1 s.2).row else st.1),st.2++[eU (R.at st.1) s.1 s.2]):=by
       unfold fq;rw [VF (by rw [hn,decide_eq_true hd,hg];rfl)]
      have gR':qx (R.at st.1):=⟨gR.rl,gR.hd,gR.ll,gR.lk⟩;refine⟨MT R,st.1.1.map (·.1),by unfold fo;rw [OI,OI];rfl,st.1.2,by unfold fJ;rw [OI];rfl,?_⟩;refine⟨R.at st.1,s.1,s.2,by rw [<-Mx];rfl,gR',so1,so2,MQ two _ _ _,by rw [Oe];omega,cB,⟨_,rfl⟩,D8,eU (R.at st.1) s.1 s.2,rfl,DN gR',_,rfl,?_⟩;rw [eS];generalize eU (R.at st.1) s.1 s.2=k;by_cases hl:k.lets=true
      ·rw [VF hl,VF hl];refine⟨rfl,ym R,cB,⟨_,rfl⟩,D9,k,rfl,k.nm,.int k.d,iM k.lv,rfl,by unfold fo;rw [Oe];omega,by unfold fJ;rw [Oe];omega,?_⟩;have e3:st.2.map (Lk.enc t.u_Look)++[k.enc t.u_Look]=(st.2++[k]).map (Lk.enc t.u_Look):=by rw [OO];rfl
       rw [DV,e3];cases hv:k.lv with
       | none=>
        have e2:cI st.1 k.row=(oq st.1.1 k.nm k.d,st.1.2):=by
         unfold cI;rw [show k.row.lv=none from hv];rfl
        exact .inl ⟨rfl,_,_,_,by rw [e2]⟩
       | some v=>
        have e2:cI st.1 k.row=(oq st.1.1 k.nm k.d,qz st.1.2 v):=by
         unfold cI;rw [show k.row.lv=some v from hv];rfl
        exact .inr ⟨v,rfl,_,_,_,by rw [DW,e2]⟩
      ·rw [VE hl,VE hl];exact⟨_,_,_,by rw [OO];rfl⟩
     ·rw [VE hg,no (by rw [Tu] at hg;rw [hg,Vj];rfl)];exact⟨_,_,_,rfl⟩
    ·rw [VE hd,no (by rw [hn,decide_eq_false hd];rfl)];exact⟨_,_,_,rfl⟩
  ·rintro δ ⟨o6,o7,o8,rfl⟩;rw [eN,Oe,OZ (Oi _)];walk_at "r";exact q
end
theorem Ea:bq (ag jB) ["looks"] ["look"] 1 [] ⟨Oq,[(Of ".0",Xk),(Of "look",Xk)],false,false,[]⟩:=⟨rfl,VB,VB,VB,rfl,VB,VB,VB,rfl⟩
section
variable {P:VW} {w:VX} {K:Og} {mg:Str->Option VJ} {base:VY} {t:cz}
def ot(ks:List Lk):List Ro:=(ks.filter Lk.lets).map Lk.row
def MX(CL:VM):List VI->(VI->Prop)->Prop:=λds Q=>∃ks:List Lk,ds=[.list (ks.map (Lk.enc CL))]/\(∀k∈ks,lG k)/\ks.length<=100000/\Q (.list ((ot ks).map Ro.enc))
theorem Eb(T:Txt K mg t):aD P w K mg base CX0 2 t.a_q t.d_q ["looks"] (aW K (MX t.u_Look)):=by
 have G_h:=@DC P w _ _ base _ T;have G_i:=@DD P w _ _ base _ T;refine T.F_q.okD KH (λds Q h=>?_) (λ_ _ _ _ H O ds Q E hr h=>?_)
 ·obtain⟨ks,rfl,_⟩:=h;rfl
 ·obtain⟨ks,rfl,ok,le,q⟩:=h;refine'⟨_,?A,?B⟩
  case A=>
   refine' aA ?C
   case' C=>refine' aT ?D
   case' D=>refine' fe ?E
   case E=>exact(dU rfl Ea (df (dv 0)) aN bO VC (λ_ _ _ _=>(aM (i:=0) Ea.nd rfl VG)) (λ_ _ _ _=>(cU (fO (PE.imp (tS (dv 0) T.cl_Look T.mt_Look_lets_go G_h (hr.mono VC) T.b_h .nil aB) uP)))) (λ_ _ _ _=>(PE.imp (tS (dv 0) T.cl_Look T.mt_Look_as_row G_i (hr.mono VC) T.b_i .nil aB) uP)))
  case B=>
  clear hr T G_h G_i;walk_at "r";refine⟨by rw [Oe];omega,cZ Lk.lets (λk=>k.row.enc) (λk hk R S h=>?_) ?_⟩
  ·walk_at "r";refine⟨cB,⟨_,rfl⟩,D8,k,rfl,ok k hk,_,rfl,?_⟩;by_cases hl:k.lets=true
   ·rw [VF hl] at h⊢;exact⟨cB,⟨_,rfl⟩,D9,k,rfl,h⟩
   ·rw [VE hl] at h⊢;exact h
  ·have e:(ks.filter Lk.lets).map (λk=>k.row.enc)=(ot ks).map Ro.enc:=by unfold ot;rw [OI];rfl
   rw [e];exact q
def vh(xs:List De)(ss:List Sf)(st:List Ro×List Lk)(n:Int):List Ro×List Lk:=(st.1++ot (qA xs n st.1 ss),st.2++qA xs n st.1 ss)
def gJ(xs:List De)(ss:List Sf)(ns:List Int):List Ro×List Lk:=ns.foldl (vh xs ss) ([],[])
theorem MY{xs:List De}(g:hJ xs):(fK xs).length<=41:=by
 unfold fK;rw [Oe,fG];exact g.gx.gp.ln
theorem MZ(xs:List De)(n:Int)(rows:List Ro)(ss:List Sf):(qA xs n rows ss).length<=ss.length:=by
 have h:=(yq (eV xs n rows) ss (((eV xs n rows).go,(eV xs n rows).us),[])).2.2;rw [Px,Rq] at h;exact h
theorem Ec(ks:List Lk):(ot ks).length<=ks.length:=by
 unfold ot;rw [Oe];exact O8 _ _
theorem M3{xs:List De}{ss:List Sf}{ns:List Int}{i:Nat}{n:Int}(h:ns[i]?=some n):gJ xs ss (ns.take (i+1))=vh xs ss (gJ xs ss (ns.take i)) n:=by
 unfold gJ;rw [Pd,h,Q2];rfl
def M4(xs:List De)(ss:List Sf)(ns:List Int)(CP CL:VM)(i:Nat)(st:List Ro×List Lk)(δ:Dl):Prop:=∃(o6 o7:Option Sl),st.1.length<=41*i/\st.2.length<=41*i/\(∀k∈st.2,lG k)/\δ=[some (Sl.v (O5 (Pn De.enc xs))),some (Sl.v (O5 (Pn OJ ns))),some (Sl.v (PX [])),some (Sl.v (PX (ss.map (Sf.enc CP)))),some (Sl.o (st.1.map Ro.enc)),some (Sl.o (st.2.map (Lk.enc CL))),o6,o7]
def F_p(CL:VM):List VI->(VI->Prop)->Prop:=λds Q=>∃(xs:List De)(ns:List Int),ds=[.tuple (xs.map De.enc),.tuple (ns.map .int),.list []]/\gf xs/\ns.length < 64/\((∀k∈(gJ xs (fK xs) ns).2,lG k)->(gJ xs (fK xs) ns).2.length<=100000->Q (.list ((gJ xs (fK xs) ns).2.map (Lk.enc CL))))
theorem M5(T:Txt K mg t):aD P w K mg base CX0 10 t.a_p t.d_p ["deeds","days","done"] (aW K (F_p t.u_Look)):=by
 have G_n:=@ML P w _ _ base _ T;have G_o:=@MW P w _ _ base _ T;have G_q:=@Eb P w _ _ base _ T;refine T.F_p.okD rF (λds Q h=>?_) (λ_ _ _ _ H O ds Q E hr h=>?_)
 ·obtain⟨xs,ns,rfl,_⟩:=h;rfl
 ·obtain⟨xs,ns,rfl,g,nl,q⟩:=h;refine'⟨_,?A,?B⟩
  case A=>
   refine' aq ?C ?D
   case C=>exact(bt (i:=3) rF.nd rfl VG (PE.imp (aH G_n (hr.mono VC) rfl T.m_n T.F_n.kp T.b_n .nil aB (aa (dv 0) ao)) aR))
   case' D=>refine' aq (iZ (i:=4) rF.nd rfl VG (HA rfl T.n_list Hc (bj (df (dv 2)) bo))) ?E
   case' E=>refine' aq (iZ (i:=5) rF.nd rfl VG (cn ao)) ?F
   case' F=>refine' aq ?G (aA (sN (pv 5)))
   case G=>
    refine' mw Pk rfl (dv 1) (aM (i:=6) rF.nd rfl VG) aN ?H
    case' H=>refine' aq ?I ?J
    case I=>exact(bt (i:=7) rF.nd rfl VG (Kk (j:=4) G_o (hr.mono VC) rfl T.m_o T.F_o.kp T.b_o aB (dv 0) (dv 3) (dv 6) (pv 4)))
    case J=>exact aq (wR (i:=4) (pv 4) (PE.imp (aH G_q (hr.mono VC) rfl T.m_q T.F_q.kp T.b_q .nil aB (aa (dv 7) ao)) aR)) (aA (wR (i:=5) (pv 5) (dv 7)))
  case B=>
  clear hr T G_n G_o G_q;walk_at "r";refine⟨xs,rfl,g.gd,λso=>?_⟩;have sl:=MY g.gd;generalize fK xs=ss at*;generalize hE:d4.mk _ _ _ _=EE;have eN:EE.nx=iX 5 {nx:=λx=>Q RH,rt:=Q}:=by rw [<-hE]
  clear hE;refine⟨λi=>M4 xs ss ns t.u_Paper t.u_Look i (gJ xs ss (ns.take i)),⟨none,none,Pc _,Pc _,(λk hk=>nomatch hk),rfl⟩,?_,?_⟩
  ·rintro i z δ hz ⟨o6,o7,l1,l2,ok,rfl⟩;rw [OD] at hz;cases hz':ns[i]? with
   | none=>rw [hz'] at hz;cases hz
   | some n=>
    rw [hz'] at hz;cases hz;have hi:=(OB.mp hz').1;simp only [M3 hz'];generalize gJ xs ss (ns.take i)=st at*;walk_at "r";have k1:=MZ xs n st.1 ss;have k2:=Ec (qA xs n st.1 ss);refine⟨xs,ss,n,st.1,rfl,rfl,g,VD,sl,so,λkok=>⟨qA xs n st.1 ss,rfl,kok,VD,_,rfl,by rw [Oe,Oe];omega,_,rfl,by rw [Oe,Oe];omega,?_⟩⟩;have a1:(vh xs ss st n).1.length<=41*(i+1):=by
     show(st.1++_).length<=_;rw [OG];omega
    have a2:(vh xs ss st n).2.length<=41*(i+1):=by
     show(st.2++_).length<=_;rw [OG];omega
    refine⟨_,_,a1,a2,λk hk=>?_,by rw [<-OO,<-OO];rfl⟩;rcases ON.mp hk with z | z
    ·exact ok k z
    ·exact kok k z
  ·rintro δ ⟨o6,o7,l1,l2,ok,rfl⟩;rw [Oe,OZ (Oi _)] at l2 ok;rw [eN,Oe,OZ (Oi _)];walk_at "r";exact q ok VD
def M6(CL:VM):List VI->(VI->Prop)->Prop:=λds Q=>∃xs:List De,ds=[.tuple (xs.map De.enc)]/\gf xs/\qt xs/\((∀k∈(gJ xs (fK xs) (iL xs)).2,lG k)->(gJ xs (fK xs) (iL xs)).2.length<=100000->Q (.list ((gJ xs (fK xs) (iL xs)).2.map (Lk.enc CL))))
theorem M7(T:Txt K mg t):aD P w K mg base CX0 11 t.a_r t.d_r ["deeds"] (aW K (M6 t.u_Look)):=by
 have G_p:=@M5 P w _ _ base _ T;have G_f:=@L7 P w _ _ base _ T;refine T.F_r.okD KI (λds Q h=>?_) (λ_ _ _ _ H O ds Q E hr h=>?_)
 ·obtain⟨xs,rfl,_⟩:=h;rfl
 ·obtain⟨xs,rfl,g,few,q⟩:=h;refine'⟨_,?A,?B⟩
  case A=>
   refine' aA ?C
   case' C=>refine' aT ?D
   case D=>exact(PE.imp (aH G_p (hr.mono VC) rfl T.m_p T.F_p.kp T.b_p .nil aB (aa (dv 0) (aa (PE.imp (aH G_f (hr.mono VC) rfl T.m_f T.F_f.kp T.b_f .nil aB (aa (dv 0) ao)) aR) (aa (fe (cn ao)) ao)))) aR)
  case B=>
  clear hr T G_p G_f;walk_at "r";exact⟨xs,rfl,g.gd,λ_=>few,λ_ tl=>⟨xs,iL xs,rfl,g,tl,q⟩⟩
end
theorem Ed:bq (ag jC) ["deeds","rows","row"] ["name","rows"] 1 [1] ⟨Oq,[ (Of ".0",Xk),(Of "name",Xk),(Of "rows",OA)],false,false,[]⟩:=⟨rfl,VB,VB,VB,rfl,VB,VB,VB,rfl⟩
theorem Ee:bq (ag iD) ["deeds","day","days","come"] ["coming","day"] 1 [1] ⟨Oq,[ (Of ".0",Xk),(Of "coming",Xk),(Of "day",OA)],false,false,[]⟩:=⟨rfl,VB,VB,VB,rfl,VB,VB,VB,rfl⟩
theorem Ef:bq (ag iD) ["deeds","day","days","come"] ["name","day","days"] 1 [1,2] ⟨Oq,[ (Of ".0",Xk),(Of "name",Xk),(Of "day",OA),(Of "days",OA)],false,false,[]⟩:=⟨rfl,VB,VB,VB,rfl,VB,VB,VB,rfl⟩
section
variable {P:VW} {w:VX} {K:Og} {mg:Str->Option VJ} {base:VY} {t:cz}
def cC{α:Type}(m:List (Str×α))(k:Str)(v:α):List (Str×α):=if (m.any λp=>decide (p.1=k))=true then m.map (λp=>if p.1=k then(p.1,v) else p) else m++[(k,v)]
def ft{α:Type}(f:α->VI)(m:List (Str×α)):List (au×VI):=m.map λp=>(P4 p.1,f p.2)
def iN{α:Type}(m:List (Str×α))(z:Str):Option α:=(m.find? λp=>decide (p.1=z)).map (·.2)
theorem yt{α:Type}(f:α->VI)(m:List (Str×α))(k:Str)(v:α):fS (ft f m) (.inr k) (f v)=ft f (cC m k v):=by
 have e:((ft f m).any λp=>decide (p.1=P4 k))=m.any λp=>decide (p.1=k):=by
  unfold ft;rw [SV];congr 1;funext p;simp only [QC,decide_eq_decide];exact ja
 unfold fS cC;rw [e];split
 ·unfold ft;rw [OI,OI];apply Q6;intro p _;simp only [QC];by_cases h:p.1=k
  ·rw [VF (by rw [h]),VF h]
  ·rw [VE (λe=>h (ja.mp e)),VE h]
 ·unfold ft;rw [OO];rfl
theorem M8{α:Type}(m:List (Str×α))(k:Str)(v:α):(cC m k v).length<=m.length+1:=by
 unfold cC;split <;> simp
theorem M9{α:Type}(m:List (Str×α))(k:Str)(v:α)(z:Str):iN (cC m k v) z=if k=z then some v else iN m z:=by
 unfold cC iN;by_cases h:(m.any λp=>decide (p.1=k))=true
 ·rw [VF h]
  induction m with
  | nil=>cases h
  | cons p m ih=>
   rw [Ol,PJ,PJ];by_cases hp:p.1=k
   ·rw [VF hp];by_cases hz:k=z
    ·rw [VF hz,hp,hz];simp
    ·rw [VE hz];have e1:decide (p.1=z)=false:=decide_eq_false (λe=>hz (by rw [<-hp,e]));simp only [e1];have key:∀l:List (Str×α),(l.map λp=>if p.1=k then(p.1,v) else p).find? (λp=>decide (p.1=z))=l.find? λp=>decide (p.1=z):=λl=>by
      induction l with
      | nil=>rfl
      | cons a l ih=>
       rw [Ol,PJ,PJ,ih];by_cases ha:a.1=k
       ·rw [VF ha];have e2:decide (a.1=z)=false:=decide_eq_false (λe=>hz (by rw [<-ha,e]));simp only [e2]
       ·rw [VE ha]
     rw [key]
   ·rw [VE hp];rw [PQ,decide_eq_false hp,QB] at h;have ih:=ih h;by_cases hz:p.1=z
    ·rw [decide_eq_true hz,VE (λe=>hp (by rw [hz,e]))]
    ·simp only [decide_eq_false hz];exact ih
 ·rw [VE h,UP];have no:∀p∈m,p.1≠k:=λp hp e=>h (Ra.mpr ⟨p,hp,by rw [e];simp⟩);by_cases hz:k=z
  ·rw [VF hz,Sz.mpr (λp hp=>by rw [<-hz];simpa using no p hp),hz];simp
  ·rw [VE hz,PJ,decide_eq_false hz];simp
theorem vi{α:Type}(f:α->VI):∀(m:List (Str×α))(z:Str),br (m.map (·.1)) (m.map λp=>f p.2) z=(iN m z).map f
 | [],_=>rfl
 | p::m,z=>by
  have ih:=vi f m z;unfold iN at ih⊢;rw [Ol,Ol,br,PJ];by_cases h:p.1=z
  ·rw [VF h,decide_eq_true h];rfl
  ·rw [VE h,decide_eq_false h];exact ih
theorem yu{α:Type}(f:α->VI)(m:List (Str×α)):(ft f m).map (·.1)=(m.map (·.1)).map P4:=by
 unfold ft;rw [OI,OI];rfl
theorem yx{α:Type}(f:α->VI)(m:List (Str×α)):(ft f m).map (·.2)=m.map λp=>f p.2:=by
 unfold ft;rw [OI];rfl
def oz(rs:List Ro):List (Str×Ro):=rs.foldl (λm r=>cC m r.nm r) []
theorem vj{α β:Type}(kf:β->Str)(vf:β->α):∀(rs:List β)(m:List (Str×α)),(rs.foldl (λm r=>cC m (kf r) (vf r)) m).length<=m.length+rs.length
 | [],m=>Oi _
 | r::rs,m=>by
  have h:=vj kf vf rs (cC m (kf r) (vf r));have h2:=M8 m (kf r) (vf r);rw [PF,OC];omega
theorem yz{α β:Type}(kf:β->Str)(vf:β->α)(z:Str):∀(rs:List β)(m:List (Str×α)),iN (rs.foldl (λm r=>cC m (kf r) (vf r)) m) z=rs.foldl (λo r=>if kf r=z then some (vf r) else o) (iN m z)
 | [],m=>rfl
 | r::rs,m=>by
  rw [PF,PF,yz kf vf z rs,M9]
def rY(xs:List De):List Ro:=ot (gJ xs (fK xs) (iL xs)).2
structure Pl where
 nm:Str
 d:Option Int
 lv:Option Str
def Pl.enc(p:Pl):VI:= .tuple [.str p.nm,bT p.d,iM p.lv]
def Ro.pl(r:Ro):Pl:=⟨r.nm,some r.d,r.lv⟩
def rZ(rs:List Ro)(z:Str):Option Ro:=rs.foldl (λo r=>if r.nm=z then some r else o) none
def bW(xs:List De):List Pl:=(bE (aI xs)).map λc=>((rZ (rY xs) c.nm).map Ro.pl).getD ⟨c.nm,none,none⟩
def F_s:List VI->(VI->Prop)->Prop:=λds Q=>∃xs:List De,ds=[.tuple (xs.map De.enc)]/\gf xs/\qt xs/\Q (.tuple ((bW xs).map Pl.enc))
theorem Eg(T:Txt K mg t):aD P w K mg base CX0 12 t.a_s t.d_s ["deeds"] (aW K F_s):=by
 have G_r:=@M7 P w _ _ base _ T;have G_q:=@Eb P w _ _ base _ T;have G_M:=@xS P w _ _ base _ T;refine T.F_s.okD xC (λds Q h=>?_) (λ_ _ _ _ H O ds Q E hr h=>?_)
 ·obtain⟨xs,rfl,_⟩:=h;rfl
 ·obtain⟨xs,rfl,g,few,q⟩:=h;refine'⟨_,?A,?B⟩
  case A=>
   refine' aq (uu (i:=1) xC.nd rfl VG ur) ?C
   case' C=>refine' aq ?D ?E
   case D=>
    refine' mr Pk rfl (PE.imp (aH G_q (hr.mono VC) rfl T.m_q T.F_q.kp T.b_q .nil aB (aa (PE.imp (aH G_r (hr.mono VC) rfl T.m_r T.F_r.kp T.b_r .nil aB (aa (dv 0) ao)) aR) ao)) aR) (aM (i:=2) xC.nd rfl VG) aN ?F
    case F=>exact aA (uw (i:=1) hr.units (pv 1) (aj aF aJ (df (dv 2)) (df af)) (dv 2))
   case' E=>refine' aA ?G
   case' G=>refine' wF 1 ?H
   case' H=>refine' aT ?I
   case I=>exact(PE.imp (dF gr rfl T.n_tuple fy (bj (df (fe (i6 rfl Ed (df (PE.imp (aH G_M (hr.mono VC) rfl T.m_M T.F_M.kp T.b_M .nil aB (aa (dv 0) ao)) aR)) aN bO VC (λ_ _ _ _=>(aM (i:=0) Ed.nd rfl VG)) (λ_ _ _ _=>dA) (λ_ _ _ _=>(J4 hr.units (dv 1) (dv 0) (bN (aa (dv 0) (aa d5 (aa d5 ao)))) ⟨rfl,rfl,rfl,rfl⟩))))) bo)) (bD gC))
  case B=>
  clear hr T G_r G_q G_M;walk_at "r";refine⟨xs,rfl,g,few,λkok kl=>⟨_,rfl,kok,kl,_,rfl,?_⟩⟩;have rl:(rY xs).length<=100000:=O7 (Ec _) kl;have q:Q (.tuple ((bE (aI xs)).map λc=>(((rZ (rY xs) c.nm).map Ro.pl).getD ⟨c.nm,none,none⟩).enc)):=by
   have q:Q (.tuple ((bW xs).map Pl.enc)):=q;unfold bW at q;rw [OI] at q;exact q
  have eR:ot (gJ xs (fK xs) (iL xs)).2=rY xs:=rfl;rw [eR];clear kok kl few eR;generalize rY xs=rs at*;refine⟨λi δ=>∃o2,δ=[some (Sl.v (O5 (Pn De.enc xs))),some (Sl.k (ft Ro.enc (oz (rs.take i)))),o2],⟨none,rfl⟩,?_,?_⟩
  ·rintro i z δ hz ⟨o2,rfl⟩;rw [OD] at hz;cases hz':rs[i]? with
   | none=>rw [hz'] at hz;cases hz
   | some r=>
    rw [hz'] at hz;cases hz;have ts:oz (rs.take (i+1))=cC (oz (rs.take i)) r.nm r:=by
     unfold oz;rw [Pd,hz',Q2];rfl
    have ml:(oz (rs.take i)).length<=0+(rs.take i).length:=vj (λr:Ro=>r.nm) (λr=>r) (rs.take i) [];rw [Pf] at ml;simp only [ts];generalize oz (rs.take i)=M at*;simp only [Ro.enc];walk_at "r";exact⟨by unfold ft;rw [Oe];omega,yt Ro.enc M r.nm r,_,rfl⟩
  ·rintro δ ⟨o2,rfl⟩;rw [Oe,OZ (Oi _)];have ma:∀z,iN (oz rs) z=rZ rs z:=λz=>yz (λr:Ro=>r.nm) (λr=>r) z rs [];generalize oz rs=M at*;walk_at "r";have pl:=g.gd.gx.gp.ln;refine⟨M.map (·.1),yu _ _,xs,rfl,g.gd.gx,_,rfl,by rw [Oe,Oe,fG];omega,?_⟩;rw [yx];refine iI (λ_=>true) (λz=>(((rZ rs z).map Ro.pl).getD ⟨z,none,none⟩).enc) (λz hz R S h1 _=>?_) ?_
   ·walk_at "r";have h:=h1 rfl;refine⟨_,_,rfl,?_⟩;rw [vi Ro.enc,ma]
    revert h
    cases rZ rs z with
    | none=>exact id
    | some r=>exact id
   ·rw [fZ,OI];exact q
def qB(xs:List De):List (Str×Option Int):=(bW xs).foldl (λm p=>cC m p.nm p.d) []
def yA{α:Type}(f:α->VI)(m:List (Str×α)):VI:=fW (m.map (·.1)) (m.map λp=>f p.2)
def Na:List VI->(VI->Prop)->Prop:=λds Q=>∃xs:List De,ds=[.tuple (xs.map De.enc)]/\gf xs/\qt xs/\Q (yA bT (qB xs))
theorem yB{xs:List De}(g:gf xs):(bW xs).length<=41:=by
 unfold bW;rw [Oe,fG];exact g.gd.gx.gp.ln
theorem Nb(T:Txt K mg t):aD P w K mg base CX0 13 t.a_t t.d_t ["deeds"] (aW K Na):=by
 have G_s:=@Eg P w _ _ base _ T;refine T.F_t.okD sX (λds Q h=>?_) (λ_ _ _ _ H O ds Q E hr h=>?_)
 ·obtain⟨xs,rfl,_⟩:=h;rfl
 ·obtain⟨xs,rfl,g,few,q⟩:=h;refine'⟨_,?A,?B⟩
  case A=>
   refine' aq (uu (i:=1) sX.nd rfl VG ur) ?C
   case' C=>refine' aq ?D (aA (wF 1 (aT (dv 1))))
   case D=>
    refine' mw Pk rfl (PE.imp (aH G_s (hr.mono VC) rfl T.m_s T.F_s.kp T.b_s .nil aB (aa (dv 0) ao)) aR) ?E (gB (b7 aN (b7 aN (b7 aN gA)))) (aA (uw (i:=1) hr.units (pv 1) (dv 2) (dv 3)))
    case E=>exact(gj (n:=3) rfl (b0 (aM (i:=2) sX.nd rfl VG) (b0 (aM (i:=3) sX.nd rfl VG) (b0 (aM (i:=4) sX.nd rfl VG) gi))))
  case B=>
  clear hr T G_s;walk_at "r";have pl:=yB g;have q:Q (yA bT ((bW xs).foldl (λm p=>cC m p.nm p.d) [])):=q;refine⟨xs,rfl,g,few,_,rfl,?_⟩;generalize bW xs=ps at*;refine⟨λi δ=>∃(o2 o3 o4:Option Sl),δ=[some (Sl.v (O5 (Pn De.enc xs))),some (Sl.k (ft bT ((ps.take i).foldl (λm p=>cC m p.nm p.d) []))),o2,o3,o4],⟨none,none,none,rfl⟩,?_,?_⟩
  ·rintro i z δ hz ⟨o2,o3,o4,rfl⟩;rw [OD] at hz;cases hz':ps[i]? with
   | none=>rw [hz'] at hz;cases hz
   | some r=>
    rw [hz'] at hz;cases hz;have ts:(ps.take (i+1)).foldl (λm p=>cC m p.nm p.d) []=cC ((ps.take i).foldl (λm p=>cC m p.nm p.d) []) r.nm r.d:=by
     rw [Pd,hz',Q2];rfl
    have ml:((ps.take i).foldl (λm p=>cC m p.nm p.d) []).length<=0+(ps.take i).length:=vj (λr:Pl=>r.nm) (λr=>r.d) (ps.take i) [];rw [Pf] at ml;simp only [ts];generalize (ps.take i).foldl (λm p=>cC m p.nm p.d) []=M at*;simp only [Pl.enc];walk_at "r";refine⟨by unfold ft;rw [Oe];omega,yt bT M r.nm r.d,?_⟩;exact⟨_,rfl⟩
  ·rintro δ ⟨o2,o3,o4,rfl⟩;rw [Oe,OZ (Oi _)];generalize ps.foldl (λm p=>cC m p.nm p.d) []=M at*;walk_at "r";refine⟨M.map (·.1),yu _ _,?_⟩;rw [yx];exact q
def oA(ps:List Pl)(z:Str):Option (Option Int):=ps.foldl (λo p=>if p.nm=z then some p.d else o) none
def qC(n:Int):Option (Option Int)->Bool
 | some (some d)=>decide (d > n)
 | _=>true
theorem Eh{z:Str}:∀(rs:List Ro)(o:Option Ro),(∀r,o=some r->r.nm=z)->∀r,rs.foldl (λo r=>if r.nm=z then some r else o) o=some r->r.nm=z
 | [],o,h,r,e=>h r e
 | a::rs,o,h,r,e=>by
  rw [PF] at e;refine Eh rs _ (λr' e'=>?_) r e;by_cases ha:a.nm=z
  ·rw [VF ha] at e';cases e';exact ha
  ·rw [VE ha] at e';exact h r' e'
theorem Ei{z:Str}:∀(ps:List Pl)(o:Option (Option Int)),(o.isSome=true\/∃p∈ps,p.nm=z)->(ps.foldl (λo p=>if p.nm=z then some p.d else o) o).isSome=true
 | [],o,h=>by
  rcases h with h | ⟨p,hp,_⟩
  ·exact h
  ·cases hp
 | a::ps,o,h=>by
  rw [PF];refine Ei ps _ ?_;by_cases ha:a.nm=z
  ·rw [VF ha];exact .inl rfl
  ·rw [VE ha];rcases h with h | ⟨p,hp,e⟩
   ·exact .inl h
   ·rcases Ox.mp hp with y | y
    ·exact absurd (by rw [<-y];exact e) ha
    ·exact .inr ⟨p,y,e⟩
theorem Nc{xs:List De}{c:Pp}(h:c∈bE (aI xs)):∃p∈bW xs,p.nm=c.nm:=by
 refine⟨_,OE.mpr ⟨c,h,rfl⟩,?_⟩;cases e:rZ (rY xs) c.nm with
 | none=>rfl
 | some r=>exact Eh _ none (λr h=>nomatch h) r e
theorem Nd{xs:List De}{c:Pp}(h:c∈bE (aI xs)):∃o,iN (qB xs) c.nm=some o/\oA (bW xs) c.nm=some o:=by
 have e:iN (qB xs) c.nm=oA (bW xs) c.nm:=yz (λr:Pl=>r.nm) (λr=>r.d) c.nm (bW xs) [];have s:(oA (bW xs) c.nm).isSome=true:=Ei (bW xs) none (.inr (Nc h));obtain⟨o,ho⟩:=Sy.mp s;exact⟨o,e.trans ho,ho⟩
def qD(xs:List De)(n:Int):List Str:=(((bE (aI xs)).filter λc=>decide (c.d<=n)).map (·.nm)).filter λz=>qC n (oA (bW xs) z)
theorem Ej{xs:List De}{n:Int}{Q:VI->Prop}(q:Q (.tuple ((qD xs n).map .str))):iw (i3 0) (jZ (dR (cV ki (jd (cf 2) (cf 0)) (dC RH))) (dR (cV (dI λi j=>Rh (decide (j < i))) (jd (cf 2) (cf 0)) (cf 1)))) (cf 0) [none,some (Sl.v (OJ n)),some (Sl.v (yA bT (qB xs)))] ((QV (λc:Pp=>decide (c.d<=n)) (bE (aI xs))).map (λc=>Oj c.nm)) λds=>Q (O5 ds):=by
 have e1:(QV (λc:Pp=>decide (c.d<=n)) (bE (aI xs))).map (λc=>Oj c.nm)=((QV (λc:Pp=>decide (c.d<=n)) (bE (aI xs))).map (·.nm)).map Oj:=by rw [OI];rfl
 rw [e1];have key:∀z∈(QV (λc:Pp=>decide (c.d<=n)) (bE (aI xs))).map (·.nm),∃o,iN (qB xs) z=some o/\oA (bW xs) z=some o:=λz hz=>by
  obtain⟨c,hc,rfl⟩:=OE.mp hz;exact Nd (Po.mp hc).1
 have q:Q (.tuple ((((QV (λc:Pp=>decide (c.d<=n)) (bE (aI xs))).map (·.nm)).filter λz=>qC n (oA (bW xs) z)).map .str)):=q;generalize (QV (λc:Pp=>decide (c.d<=n)) (bE (aI xs))).map (·.nm)=cs at*;refine cZ (enc:=Oj) (λz=>qC n (oA (bW xs) z)) Oj (λz hz R S h=>?_) q;obtain⟨o,h1,h2⟩:=key z hz;rw [h2] at h;walk_at "r";refine⟨_,_,rfl,bT o,by rw [vi bT,h1];rfl,?_⟩;cases o with
 | none=>
  rw [VF (by rfl)];rw [VF (by rfl)] at h;exact h
 | some d=>
  rw [VE (by simp [dN,bT])];refine⟨_,_,rfl,bT (some d),by rw [vi bT,h1];rfl,d,rfl,?_⟩;by_cases hd:n < d
  ·rw [VF hd];rw [VF (show qC n (some (some d))=true from decide_eq_true hd)] at h;exact h
  ·rw [VE hd];rw [VE (show ¬qC n (some (some d))=true by rw [show qC n (some (some d))=false from decide_eq_false hd];exact Ot)] at h;exact h
def F_u:List VI->(VI->Prop)->Prop:=λds Q=>∃(xs:List De)(n:Int),ds=[.tuple (xs.map De.enc),.int n]/\gf xs/\qt xs/\Q (.tuple ((qD xs n).map .str))
theorem Nf(T:Txt K mg t):aD P w K mg base CX0 14 t.a_u t.d_u ["deeds","day"] (aW K F_u):=by
 have G_t:=@Nb P w _ _ base _ T;have G_K:=@xQ P w _ _ base _ T;refine T.F_u.okD xD (λds Q h=>?_) (λ_ _ _ _ H O ds Q E hr h=>?_)
 ·obtain⟨xs,n,rfl,_⟩:=h;rfl
 ·obtain⟨xs,n,rfl,g,few,q⟩:=h;refine'⟨_,?A,?B⟩
  case A=>
   refine' aq ?C ?D
   case C=>exact(bt (i:=2) xD.nd rfl VG (PE.imp (aH G_t (hr.mono VC) rfl T.m_t T.F_t.kp T.b_t .nil aB (aa (dv 0) ao)) aR))
   case' D=>refine' aq ?E ?F
   case E=>exact(i9 (i:=3) xD.nd rfl VG (we rfl Ee (df (PE.imp (aH G_K (hr.mono VC) rfl T.m_K T.F_K.kp T.b_K .nil aB (aa (dv 0) ao)) aR)) aN bO VC (λ_ _ _ _=>(aM (i:=0) Ee.nd rfl VG)) (λ_ _ _ _=>(cU (aU jW cW (df (aj aF aJ (df (dv 0)) (df af))) (df (dv 1)) (aE _)))) (λ_ _ _ _=>(aj aF aJ (df (dv 0)) (df af)))))
   case' F=>refine' aA ?G
   case' G=>refine' aT ?H
   case H=>exact(PE.imp (dF gr rfl T.n_tuple fy (bj (df (fe (dU rfl Ef (df (dv 3)) aN bO VC (λ_ _ _ _=>(aM (i:=0) Ef.nd rfl VG)) (λ_ _ _ _=>(cU (PW.pt (qO (aU lK nz (df (uG hr.units (dv 2) (dv 0) (λ_ _=>rfl))) (df d5) (aE _)) (qN (aU iS cW (df (uG hr.units (dv 2) (dv 0) (λ_ _=>rfl))) (df (dv 1)) (aE _))))))) (λ_ _ _ _=>(dv 0))))) bo)) (bD gC))
  case B=>
  clear hr T G_t G_K;walk_at "r";have pl:=g.gd.gx.gp.ln;refine⟨xs,rfl,g,few,xs,.inr rfl,g.gd.gx,_,rfl,by rw [Oe,fG];omega,?_⟩;refine cZ (enc:=Pp.enc) (λc=>decide (c.d<=n)) (λc=>.str c.nm) (λc hc R S h=>?_) ?_
  ·simp only [Pp.enc];walk_at "r";by_cases hd:c.d<=n
   ·rw [VF hd];rw [VF (by simpa using hd)] at h;exact h
   ·rw [VE hd];rw [VE (by simpa using hd)] at h;exact h
  ·have fl:=O8 (λc:Pp=>decide (c.d<=n)) (bE (aI xs));rw [fG] at fl;exact⟨by rw [Oe];omega,Ej q⟩
theorem Ng{g:DG}{tb:DS}{E:d4}{xs:List VI}{δf:Int->Dl}{C D p q X:Prop} [Decidable C] [Decidable D]{d1 d2 d3:Int}(hp:p)(hq:q)(hX:X)(key:∀dg,iu g tb E xs (δf dg)):
 if C then p/\q/\iu g tb E xs (δf d1) else X/\if D then p/\q/\iu g tb E xs (δf d2) else p/\q/\iu g tb E xs (δf d3):=by
 split
 ·exact⟨hp,hq,key _⟩
 ·refine⟨hX,?_⟩;split
  ·exact⟨hp,hq,key _⟩
  ·exact⟨hp,hq,key _⟩
def Ek:List VI->(VI->Prop)->Prop:=λds Q=>∃(ns:List Int)(k:Int),ds=[fN (ns.map .int),.int k]/\0<=k/\k<=1000/\∀c:Int,Q (.int c)
theorem yC(T:Txt K mg t):aD P w K mg base CX0 1 t.a_v t.d_v ["_law_script","_law_k"] (aW K Ek):=by
 refine T.F_v.okD uV (λds Q h=>?_) (λ_ _ _ _ H O ds Q E hr h=>?_)
 ·obtain⟨ns,k,rfl,_⟩:=h;rfl
 ·obtain⟨ns,k,rfl,k0,k1,q⟩:=h;refine'⟨_,?A,?B⟩
  case A=>
   refine' aq ?C ?D
   case C=>
    exact bH (aU tO cW (df (dv 1)) (df (PE.imp (bV dj rfl T.n_len Pu (bj (df (dv 0)) bo)) (bD Hw))) (aE _)) (aA (aT (aj aX IK (df (dv 0)) (df (dv 1))))) bG
   case' D=>refine' aq ?E ?F
   case E=>
    refine' bt (i:=2) uV.nd rfl VG ?G (hs:=kh)
    case G=>exact(az bh aL (df (az gm aL (df af) (df (az bP bZ (df (az bP bZ (df (az gm aL (df (dv 1)) (df (dv 1)))) (df (az gm aL (df af) (df (dv 1)))))) (df af))))) (df af))
   case' F=>refine' aq ?H (aA (aT (dv 2)))
   case H=>
    refine' mr Pk rfl (fe (IL (df (dv 0)) i7 (cK af))) (aM (i:=3) uV.nd rfl VG) aN ?I
    case' I=>refine' aA ?J
    case J=>exact bt (i:=2) uV.nd rfl VG (az bh aL (df (az bP bZ (df (az gm aL (df (dv 2)) (df af))) (df (dv 3)))) (df af)) (hs:=kh)
  case B=>
  clear hr T;walk_at "z";refine⟨_,rfl,?_⟩;rw [Oe];split
  ·rename_i hlt;obtain⟨j,rfl⟩:=QD k0;have hj:j < ns.length:=VD
   exact⟨_,rfl,.int ns[j],fM (by simp [hj]),q _⟩
  ·refine⟨.inl ⟨VD,VD⟩,_,rfl,λi δ=>∃(st:Int)(o:Option Sl),δ=[some (Sl.v (fN (ns.map .int))),some (Sl.v (.int k)),some (Sl.v (.int st)),o],⟨_,_,rfl⟩,?_,?_⟩
   ·rintro i x δ hx ⟨st,o,rfl⟩;have hm:=O4 hx;unfold d6 at hm;have hm2:=Uh (RF hm);obtain⟨c,_,rfl⟩:=OE.mp hm2;walk_at "z";exact⟨_,rfl⟩
   ·rintro δ ⟨st,o,rfl⟩;walk_at "z";exact q _
def El:List VI->(VI->Prop)->Prop:=λds Q=>∃c m:Int,ds=[.int c,.int m]/\0<=m/\m<=64/\∀ns:List Int,(ns.length:Int)=m->(∀z∈ns,0<=z/\z < 2000000000)->Q (.list (ns.map .int))
theorem yD(T:Txt K mg t):aD P w K mg base CX0 1 t.a_w t.d_w ["_law_cell_here","_law_many"] (aW K El):=by
 refine T.F_w.okD oe (λds Q h=>?_) (λ_ _ _ _ H O ds Q E hr h=>?_)
 ·obtain⟨c,m,rfl,_⟩:=h;rfl
 ·obtain⟨c,m,rfl,m0,m1,q⟩:=h;refine'⟨_,?A,?B⟩
  case A=>
   refine' aq (iZ (i:=2) oe.nd rfl VG (cn ao)) ?C
   case' C=>refine' aq ?D ?E
   case D=>
    refine' bt (i:=3) oe.nd rfl VG ?F (hs:=kh)
    case F=>exact(az bh aL (df (az gm aL (df (az bP bZ (df (az bh aL (df (dv 0)) (df af))) (df af))) (df af))) (df af))
   case' E=>refine' aq (bt (i:=4) oe.nd rfl VG af) ?G
   case' G=>refine' aq ?H ?I
   case H=>
    refine' bH ?J ?K bG
    case J=>exact(PW.pt (qO (aU tO cW (df (dv 0)) (df af) (aE _)) (qN (aU zu cW (df (dv 0)) (df (az Fz aL (df af) (df af))) (aE _)))))
    case' K=>refine' aA ?L
    case L=>exact(bt (i:=4) oe.nd rfl VG (PE.imp (bV FI rfl T.n_abs PyProof.Rows.boot_abs (bj (df (dv 0)) bo)) (bD IJ)))
   case' I=>refine' aq ?M (aA (sN (pv 2)))
   case M=>
    refine' Hq Pk rfl rfl T.n_range (aa (dv 1) ao) (aM (i:=5) oe.nd rfl VG) aN ?N
    case' N=>refine' aq ?O ?P
    case O=>
     generalize hG15:SY _ _ _ _=eg15;refine' bt (i:=3) oe.nd rfl VG ?Q (hs:=by subst hG15;exact kh)
     case' Q=>subst hG15
     exact(az bh aL (df (az bP bZ (df (az bP bZ (df (az gm aL (df (dv 3)) (df (az bP bZ (df (az bh aL (df (dv 3)) (df af))) (df af))))) (df (az gm aL (df af) (df (dv 5)))))) (df af))) (df af))
    case' P=>refine' aq ?R (aA (bt (i:=4) oe.nd rfl VG (az cT aL (df (dv 4)) (df af))))
    case R=>
     refine' lZ (i:=2) (pv 2) ?S
     case S=>exact aj aX bb (df (fe (cn (aa (dv 3) (aa (az bh aL (df (dv 4)) (df af)) ao))))) (df (PE.imp (dF sG rfl T.n_int oI (bj (df (cO iS cW (df (dv 4)) (df af) (aE _))) bo)) (bD sO)))
  case B=>
  clear hr T;walk_at "z";have bI:0<=(c % 1999999913+41)*674506081 % 1999999913/\(c % 1999999913+41)*674506081 % 1999999913 < 1999999913:=⟨Rt _ VC,QT _ VC⟩;generalize (c % 1999999913+41)*674506081 % 1999999913=st at*;have b1:-4611686018427387904<=m:=VD
  have b2:m < 4611686018427387904:=VD
  refine Ng (δf:=λdg=>[some (Sl.v (.int c)),some (Sl.v (.int m)),some (Sl.o []),some (Sl.v (.int st)),some (Sl.v (.int dg)),none]) b1 b2 VC ?T
  case T=>
   intro dg;refine⟨λi δ=>∃(ns:List Int)(st dg:Int)(o:Option Sl),ns.length=i/\(∀z∈ns,0<=z/\z < 2000000000)/\0<=st/\st < 1999999913/\δ=[some (Sl.v (.int c)),some (Sl.v (.int m)),some (Sl.o (ns.map .int)),some (Sl.v (.int st)),some (Sl.v (.int dg)),o],⟨[],st,dg,none,rfl,VH,bI.1,bI.2,rfl⟩,?_,?_⟩
   ·rintro i x δ hx ⟨ns,st,dg,o,hl,hn,s0,s1,rfl⟩;obtain⟨hi,rfl⟩:=qU hx;clear bI;walk_at "z";have n0:0<=(st*(st % 64921+39119)+11*(0+(i:Int))+3)% 1999999913:=Rt _ VC;have n1:(st*(st % 64921+39119)+11*(0+(i:Int))+3)% 1999999913 < 1999999913:=QT _ VC;generalize (st*(st % 64921+39119)+11*(0+(i:Int))+3)% 1999999913=nx at*;have d0:0<=dg % 1000000:=Rt _ VC;have d1:dg % 1000000 < 1000000:=QT _ VC;obtain⟨z,hz,z0,z1⟩:∃z:Int,atI [OJ nx,OJ (dg % 1000000)] (if 0 < dg then 1 else 0)=some (.int z)/\0<=z/\z < 2000000000:=by
     split
     ·exact⟨_,eQ,d0,VD⟩
     ·exact⟨_,d7,n0,VD⟩
    refine⟨.inl ⟨VD,VD⟩,.int z,hz,by rw [Oe];omega,ns++[z],by simp [hl],λy hy=>?_,nx,n0,n1,VH,rfl,_,rfl⟩;rcases ON.mp hy with h | h
    ·exact hn y h
    ·rw [OS] at h;rw [h];exact⟨z0,z1⟩
   ·rintro δ ⟨ns,st,dg,o,hl,hn,s0,s1,rfl⟩;walk_at "z";have hm:(ns.length:Int)=m:=by rw [hl];unfold oK;simp;omega
    exact q ns hm hn
end
theorem Em:bq (ag g9) ["_law_x","_law_many","_law_letters","_law_words","_law_size","_law_at","_law_stem","_law_ends"] ["_law_k","_law_words","_law_x"] 1 [3,0] ⟨Oq,[ (Of ".0",Xk),(Of "_law_k",Xk),(Of "len",OQ),(Of "_law_words",OA),(Of "_law_x",OA)],false,false,[]⟩:=⟨rfl,VB,VB,VB,rfl,VB,VB,VB,rfl⟩
theorem En:bq (ag g9) ["_law_x","_law_many","_law_letters","_law_words","_law_size","_law_at","_law_stem","_law_ends"] ["_law_k","_law_letters","_law_x"] 1 [2,0] ⟨Oq,[ (Of ".0",Xk),(Of "_law_k",Xk),(Of "_law_letters",OA),(Of "_law_x",OA)],false,false,[]⟩:=⟨rfl,VB,VB,VB,rfl,VB,VB,VB,rfl⟩
theorem Eo:bq (ag g9) ["_law_x","_law_many","_law_letters","_law_words","_law_size","_law_at","_law_stem","_law_ends"] ["_law_one","_law_stem","_law_at","_law_size"] 1 [6,5,4] ⟨Oq,[ (Of ".0",Xk),(Of "_law_one",Xk),(Of "_law_at",OA),(Of "_law_size",OA),(Of "_law_stem",OA)],false,false,[]⟩:=⟨rfl,VB,VB,VB,rfl,VB,VB,VB,rfl⟩
section
variable {P:VW} {w:VX} {K:Og} {mg:Str->Option VJ} {base:VY} {t:cz}
theorem qE{c:DB}{t r:DS}{E:d4}{δ:Dl}(h:∀R,R=r->c δ λb=>if b=true then t {E with nx:=R E} δ else R E δ):fP (gQ c t j2) r E δ:=h r rfl
theorem Nh{c:Nat}{n:Int}(h0:0<=n):(To ⟨#[c]⟩ n).cps.toList=OL n.toNat c:=by
 have key:∀(k:Nat)(a:Array Nat),((OL k #[c]).foldl (·++·) a).toList=a.toList++OL k c:=by
  intro k
  induction k with
  | zero=>intro a;simp
  | succ k ih=>intro a;rw [Qk,PF,ih];simp [Qk]
 unfold To;split
 ·rw [show n.toNat=0 by omega];rfl
 ·split
  ·rename_i h;have:n=1:=by
    rw [show(⟨#[c]⟩:Str).length=1 from rfl] at h;simpa using h
   subst this;rfl
  ·show((OL n.toNat #[c]).foldl (·++·) #[]).toList=_;rw [key];rfl
theorem mul_one{c:Nat}(hc:c < 0x110000){n:Int}(h0:0<=n)(h1:n<=50):PySem.MulOk ⟨#[c]⟩ n/\mS n.toNat (To ⟨#[c]⟩ n):=by
 have lc:(⟨#[c]⟩:Str).length=1:=rfl;constructor
 ·refine⟨by simp;omega,λa b=>?_,λa b=>?_⟩
  ·rw [lc];have:(2 ^ 63 - 1:Int)/ n >= 1:=by rw [ge_iff_le,Int.le_ediv_iff_mul_le VD];omega
   omega
  ·rw [lc];obtain⟨k,rfl⟩:=QD h0;rw [Nat.one_mul];unfold PySem.Builtin.Str.tooLong;simp;have:VV=16777216:=by first | rfl | decide | exact Wg
   omega
 ·have l:=Nh (c:=c) h0;refine⟨sQ.mpr λd hd=>?_,?_⟩
  ·rw [l] at hd;rw [(List.mem_replicate.mp hd).2];exact hc
  ·show(To ⟨#[c]⟩ n).cps.size<=_;rw [<-O3,l,SO];exact Oi _
def Ni:List VI->(VI->Prop)->Prop:=λds Q=>∃y:Int,ds=[.int y]/\Q (.int (cv y))
theorem Nj(T:Txt K mg t):aD P w K mg base CX0 1 t.a_y t.d_y ["_law_year"] (aW K Ni):=by
 refine T.F_y.okD B5 (λds Q h=>?_) (λ_ _ _ _ H O ds Q E hr h=>?_)
 ·obtain⟨y,rfl,_⟩:=h;rfl
 ·obtain⟨y,rfl,q⟩:=h;refine'⟨_,?A,?B⟩
  case A=>
   refine' aq (bt (i:=1) B5.nd rfl VG (az eM bZ (df (dv 0)) (df af))) ?C
   case' C=>refine' aA ?D
   case' D=>generalize hG4:SY _ _ _ _=eg4
   refine' aT ?E
   case' E=>subst hG4
   exact(az bP bZ (df (az eM bZ (df (az bP bZ (df (az gm aL (df (dv 1)) (df af))) (df (az cT aL (df (az bP bZ (df (dv 1)) (df af))) (df af))))) (df (az cT aL (df (az bP bZ (df (dv 1)) (df af))) (df af))))) (df (az cT aL (df (az bP bZ (df (dv 1)) (df af))) (df af))))
  case B=>
  clear hr T;walk_at "z";have e:(y - 2000)*365+(y - 2000+3)/ 4 - (y - 2000+99)/ 100+(y - 2000+399)/ 400=cv y:=by rw [<-J1 y];omega
  rw [e];exact q
def tw(y:Int):List Int:=[31,28+ld y,31,30,31,30,31,31,30,31,30,31]
def Nk:List VI->(VI->Prop)->Prop:=λds Q=>∃y:Int,ds=[.int y]/\Q (.list ((tw y).map .int))
theorem Nl(T:Txt K mg t):aD P w K mg base CX0 1 t.a_z t.d_z ["_law_year"] (aW K Nk):=by
 refine T.F_z.okD B6 (λds Q h=>?_) (λ_ _ _ _ H O ds Q E hr h=>?_)
 ·obtain⟨y,rfl,_⟩:=h;rfl
 ·obtain⟨y,rfl,q⟩:=h;refine'⟨_,?A,?B⟩
  case A=>
   refine' aq ?C ?D
   case C=>
    refine' bt (i:=1) B6.nd rfl VG ?E (hs:=IA)
    case E=>exact(Hn (cO (cx hr.units) cy (df (az bh aL (df (dv 0)) (df af))) (df af) (aE _)) (lV (j0 (cO (cx hr.units) cy (df (az bh aL (df (dv 0)) (df af))) (df af) (aE _)) (lV (cO iS cW (df (az bh aL (df (dv 0)) (df af))) (df af) (aE _))))))
   case' D=>refine' aA ?F
   case' F=>generalize hG5:UG _ _=eg5
   refine' aT ?G
   case' G=>subst hG5
   refine' fe ?H
   case' H=>refine' cn ?I
   case' I=>refine' aa af ?J
   case' J=>refine' aa (az bP bZ (df af) (df (PE.imp (dF sG rfl T.n_int oI (bj (df (dv 1)) bo)) (bD sO)))) ?K
   case K=>refine' oV (ds:=[.int 31,.int 30,.int 31,.int 30,.int 31,.int 31,.int 30,.int 31,.int 30,.int 31]) (by rfl)
  case B=>
  clear hr T;walk_at "z";have l1:=sW y;have hl:∀b:Bool,iz y=b->ld y=if b=true then 1 else 0:=λb e=>by unfold ld;rw [e]
  have fin:∀v:Int,v=ld y->Q (.list ([31,28+v,31,30,31,30,31,31,30,31,30,31].map .int)):=λv e=>by rw [e];exact q
  split
  ·rename_i h;have h:y % 400=0:=by simpa using h
   exact fin 1 (by rw [hl true (l1.mpr (.inl h))];rfl)
  ·rename_i h;have h:¬y % 400=0:=by simpa using h
   split
   ·rename_i h4;have h4:y % 4=0:=by simpa using h4
    by_cases h1:0 < y % 100
    ·rw [VF h1];exact fin 1 (by rw [hl true (l1.mpr (.inr ⟨h4,VD⟩))];rfl)
    ·rw [VE h1];exact fin 0 (by rw [hl false (by rw [<-QA,l1];omega)];rfl)
   ·rename_i h4;have h4:¬y % 4=0:=by simpa using h4
    exact fin 0 (by rw [hl false (by rw [<-QA,l1];omega)];rfl)
theorem Ep:∀{l:List Int},(∀z∈l,z<=31)->l.sum<=31*(l.length:Int)
 | [],_=>by simp
 | a::l,h=>by
  have ih:=Ep λz hz=>h z (OT _ hz);have:=h a Pa;rw [Ru,OC];omega
theorem Nm(y:Int)(m:Nat):((tw y).take m).sum<=31*(m:Int):=by
 have h:∀z∈(tw y).take m,z<=31:=λz hz=>by
  have hz:=RF hz;have l0:ld y<=1:=by unfold ld;split <;> omega
  unfold tw at hz;simp only [Ox,OY,or_false] at hz;omega
 have:=Ep h;rw [Pf] at this;omega
def yE:List Str:=["paper","rule","keep","gone","coming","days","first","last","kind","deep","end","hold","lift","leave","while","follow","happens","none","never","months","there","plan"]
theorem Nn:∀z∈yE,Om z=true:=by
 intro z hz;have a:yE.all Om=true:=VB
 exact Q9.mp a z hz
def Np:List VI->(VI->Prop)->Prop:=λds Q=>∃x m:Int,ds=[.int x,.int m]/\0<=m/\m<=50/\∀ss:List Str,(ss.length:Int)=m->(∀z∈ss,Om z=true)->Q (.list (ss.map .str))
theorem Nq(T:Txt K mg t):aD P w K mg base CX0 1 t.a_x t.d_x ["_law_x","_law_many"] (aW K Np):=by
 refine T.F_x.okD oh (λds Q h=>?_) (λ_ _ _ _ H O ds Q E hr h=>?_)
 ·obtain⟨x,m,rfl,_⟩:=h;rfl
 ·obtain⟨x,m,rfl,m0,m1,q⟩:=h;refine'⟨_,?A,?B⟩
  case A=>
   refine' aq (bt (i:=2) oh.nd rfl VG bg) ?C
   case' C=>refine' aq ?D ?E
   case D=>
    generalize hE4_0:UG _ _=ee4_0;exact bt (i:=3) oh.nd rfl VG (fe (wa (ds:=[.str "paper",.str "rule",.str "keep",.str "gone",.str "coming",.str "days",.str "first",.str "last",.str "kind",.str "deep",.str "end",.str "hold",.str "lift"]) (by first | (subst hE4_0;rfl)))) (hs:=HX (ds:=[.str "paper",.str "rule",.str "keep",.str "gone",.str "coming",.str "days",.str "first",.str "last",.str "kind",.str "deep",.str "end",.str "hold",.str "lift"]) (by first | (subst hE4_0;rfl)))
   case' E=>refine' aq ?F ?G
   case F=>
    generalize hE6_0:UG _ _=ee6_0;exact(bt (i:=3) oh.nd rfl VG (fe (j7 (df (dv 3)) (df (fe (wa (ds:=[.str "leave",.str "while",.str "follow",.str "happens",.str "none",.str "never",.str "months",.str "there",.str "plan"]) (by first | (subst hE6_0;rfl))))))))
   case' G=>refine' aq ?H ?I
   case H=>
    refine' bH (aU (cx hr.units) cy (df (az bh aL (df (az cT aL (df (dv 0)) (df af))) (df af))) (df af) (aE _)) ?J bG
    case' J=>refine' aA ?K
    case' K=>refine' aT ?L
    case' L=>refine' fe ?M
    case M=>exact(vZ rfl Em rfl T.n_range (bj (df (dv 1)) bo) aN bO VC (λ_ _ _ _=>(aM (i:=0) Em.nd rfl VG)) (λ_ _ _ _=>dA) (λ_ _ _ _=>(aj aX bb (df (dv 1)) (df (az bh aL (df (az bP bZ (df (az cT aL (df (dv 2)) (df af))) (df (dv 0)))) (df (PE.imp (bV dj rfl T.n_len Pu (bj (df (dv 1)) bo)) (bD dH))))))))
   case' I=>refine' aq (bt (i:=4) oh.nd rfl VG (az bP bZ (df af) (df (az bh aL (df (dv 0)) (df af))))) ?N
   case' N=>refine' aq (bt (i:=5) oh.nd rfl VG (az bh aL (df (az cT aL (df (dv 0)) (df af))) (df (dv 4)))) ?O
   case' O=>refine' aq ?P ?Q
   case P=>
    exact bt (i:=6) oh.nd rfl VG (aj zS Ao (df (dv 2)) (df (az bh aL (df (az cT aL (df (dv 0)) (df af))) (df af)))) (hs:=ph)
   case' Q=>refine' aq ?R ?S
   case R=>exact(i9 (i:=7) oh.nd rfl VG (AE rfl En rfl T.n_range (bj (df (dv 1)) bo) aN bO VC (λ_ _ _ _=>(aM (i:=0) En.nd rfl VG)) (λ_ _ _ _=>dA) (λ_ _ _ _=>(aj zS Ao (df (dv 1)) (df (az bh aL (df (az bP bZ (df (az cT aL (df (dv 2)) (df af))) (df (az gm aL (df af) (df (dv 0)))))) (df af)))))))
   case' S=>refine' aA ?T
   case' T=>refine' aT ?U
   case' U=>refine' fe ?V
   case V=>exact(dU rfl Eo (df (dv 7)) aN bO VC (λ_ _ _ _=>(aM (i:=0) Eo.nd rfl VG)) (λ_ _ _ _=>dA) (λ_ _ _ _=>(az zy An (df (az zy An (df (az A1 A2 (df (dv 1)) (df (dv 2)))) (df (dv 0)))) (df (az A1 A2 (df (dv 1)) (df (az eM bZ (df (az eM bZ (df (dv 3)) (df (dv 2)))) (df af))))))))
  case B=>
  clear hr T;walk_at "z";split
  ·refine⟨VD,by have:(16777216:Nat)=(16777216:Int):=rfl;omega,?_⟩;refine⟨λi acc=>∃ys:List Str,acc=ys.map .str/\ys.length=i/\∀y∈ys,Om y=true,⟨[],rfl,rfl,VH⟩,?_,?_⟩
   ·rintro i z acc hz ⟨ys,rfl,hl,hg⟩;obtain⟨hi,rfl⟩:=qU hz;walk_at "z";obtain⟨v,e1,m1⟩:=oH (xs:=yE.map Oj) (i:=(x / 344+(0+(i:Int)))% 22) VD (by show _ < (22:Int);omega);obtain⟨nm,hnm,rfl⟩:=OE.mp m1;refine⟨VC,_,e1,ys++[nm],by rw [OO];rfl,by simp [hl],λy hy=>?_⟩;rcases ON.mp hy with h | h
    ·exact hg y h
    ·rw [OS] at h;rw [h];exact Nn nm hnm
   ·rintro acc ⟨ys,rfl,hl,hg⟩;rw [ui] at hl;exact q ys VD hg
  ·refine⟨VD,VB,?_⟩;obtain⟨c,e1,_,c1⟩:=AD (j:=x / 64 % 26) VD VD;refine⟨c,e1,VD,by have:(16777216:Nat)=(16777216:Int):=rfl;omega,?_⟩;generalize hsz:1+x % 8=sz;have s0:1<=sz:=VD
   have s1:sz<=8:=VD
   generalize hat:x / 8 % sz=at0;have a0:0<=at0:=by rw [<-hat];exact Rt _ VD
   have a1:at0 < sz:=by rw [<-hat];exact QT _ VD
   clear hsz hat;refine⟨λi acc=>∃ys:List Nat,acc=ys.map (λy=>.str ⟨#[y]⟩)/\ys.length=i/\∀y∈ys,y < 0x110000,⟨[],rfl,rfl,VH⟩,?_,?_⟩
   ·rintro i z acc hz ⟨ys,rfl,hl,hg⟩;obtain⟨hi,rfl⟩:=qU hz;walk_at "z";obtain⟨y,g1,_,y1⟩:=AD (j:=(x / 1664+5*(0+(i:Int)))% 26) VD VD;refine⟨VB,y,g1,ys++[y],by rw [OO];rfl,by simp [hl],λz hz=>?_⟩;rcases ON.mp hz with h | h
    ·exact hg z h
    ·rw [OS] at h;rw [h];exact y1
   ·rintro acc ⟨ys,rfl,hl,hg⟩;rw [ui] at hl;refine⟨by rw [Oe];omega,?_⟩;refine⟨λi acc=>∃zs:List Str,acc=zs.map .str/\zs.length=i/\∀y∈zs,Om y=true,⟨[],rfl,rfl,VH⟩,?_,?_⟩
    ·rintro i z acc hz ⟨zs,rfl,hl2,hg2⟩;rw [OD] at hz;cases hz':ys[i]? with
     | none=>rw [hz'] at hz;cases hz
     | some y=>
      rw [hz'] at hz;cases hz;walk_at "z";obtain⟨mo,gg⟩:=mul_one c1 a0 VD;obtain⟨mo2,gg2⟩:=mul_one c1 (n:=sz - at0 - 1) VD VD;have ly:(⟨#[y]⟩:Str).length=1:=rfl;have l1:=gg.le;have l2:=gg2.le;refine⟨mo,by rw [ly];omega,mo2,by rw [AB,ly];omega,zs++[_],by rw [OO];rfl,by simp [hl2],λz hz=>?_⟩;rcases ON.mp hz with h | h
      ·exact hg2 z h
      ·rw [OS] at h;rw [h];exact((gg.append (mS.chr (hg y (O4 hz')))).append gg2).ok
    ·rintro acc ⟨zs,rfl,hl2,hg2⟩;rw [Oe] at hl2;exact q zs VD hg2
theorem atI_c5{α:Type}{a b c d e f:α}{l:List α}:atI (a::b::c::d::e::f::l) 5=some f:=fM (j:=5) rfl
theorem atI_c6{α:Type}{a b c d e f g:α}{l:List α}:atI (a::b::c::d::e::f::g::l) 6=some g:=fM (j:=6) rfl
theorem atI_c7{α:Type}{a b c d e f g h:α}{l:List α}:atI (a::b::c::d::e::f::g::h::l) 7=some h:=fM (j:=7) rfl
theorem atI_c8{α:Type}{a b c d e f g h i:α}{l:List α}:atI (a::b::c::d::e::f::g::h::i::l) 8=some i:=fM (j:=8) rfl
def Er:List VI->(VI->Prop)->Prop:=λds Q=>∃(x:Int)(b:Bool),ds=[.int x,.bool b]/\0<=x/\∀d:Int,0<=d/\d < 100000->Q (.int d)
theorem day_iff{x:Int}{b:Bool}{Q:VI->Prop}:Er [.int x,.bool b] Q↔0<=x/\∀d:Int,0<=d/\d < 100000->Q (.int d):=by
 constructor
 ·rintro⟨_,_,e,h,q⟩;simp only [Pe,PM,and_true] at e;rw [e.1];exact⟨h,q⟩
 ·rintro⟨h,q⟩;exact⟨x,b,rfl,h,q⟩
theorem cell_iff{ns:List Int}{k:Int}{Q:VI->Prop}:Ek [fN (ns.map .int),.int k] Q↔(0<=k/\k<=1000/\∀c:Int,Q (.int c)):=by
 constructor
 ·rintro⟨ns',k',e,a,b,q⟩;simp only [Pe,PM,and_true] at e;rw [e.2];exact⟨a,b,q⟩
 ·rintro⟨a,b,q⟩;exact⟨ns,k,rfl,a,b,q⟩
theorem numbers_iff{c m:Int}{Q:VI->Prop}:El [.int c,.int m] Q↔(0<=m/\m<=64/\∀ns:List Int,(ns.length:Int)=m->(∀z∈ns,0<=z/\z < 2000000000)->Q (.list (ns.map .int))):=by
 constructor
 ·rintro⟨c',m',e,a,b,q⟩;simp only [Pe,PM,and_true] at e;obtain⟨rfl,rfl⟩:=e;exact⟨a,b,q⟩
 ·rintro⟨a,b,q⟩;exact⟨c,m,rfl,a,b,q⟩
local macro_rules | `(tactic| walk_at "w") =>rzT (rzS++" K23.atI_c5 K23.atI_c6 K23.atI_c7 K23.atI_c8 K23.day_iff K23.cell_iff K23.numbers_iff true_and")
theorem Nr(T:Txt K mg t):aD P w K mg base CX0 2 t.a_AA t.d_AA ["_law_x","_law_far_here"] (aW K Er):=by
 have G_y:=@Nj P w _ _ base _ T;have G_z:=@Nl P w _ _ base _ T;refine T.F_AA.okD xE (λds Q h=>?_) (λ_ _ _ _ H O ds Q E hr h=>?_)
 ·obtain⟨x,b,rfl,_⟩:=h;rfl
 ·obtain⟨x,b,rfl,x0,q⟩:=h;refine'⟨_,?A,?B⟩
  case A=>
   refine' aq ?C ?D
   case C=>
    exact bH (oJ (fO (dv 1))) (aA (aT (az bh aL (df (dv 0)) (df af)))) bG
   case' D=>refine' aq ?E ?F
   case E=>
    exact bH (aU (cx hr.units) cy (df (az bh aL (df (az cT aL (df (dv 0)) (df af))) (df af))) (df af) (aE _)) (aA (aT (az bh aL (df (az cT aL (df (dv 0)) (df af))) (df af)))) bG
   case' F=>refine' aq (bt (i:=2) xE.nd rfl VG (az bh aL (df (az cT aL (df (dv 0)) (df af))) (df af))) ?G
   case' G=>refine' aq ?H ?I
   case H=>
    generalize hG12:SY _ _ _ _=eg12;refine' bt (i:=3) xE.nd rfl VG ?J (hs:=by subst hG12;exact kh)
    case' J=>subst hG12
    exact(az bP bZ (df (PE.imp (aH G_y (hr.mono VC) rfl T.m_y T.F_y.kp T.b_y .nil aB (aa (az bP bZ (df af) (df (az cT aL (df (dv 2)) (df af)))) ao)) aR)) (df (PE.imp (bV (z5 rfl) rfl T.n_sum Ub (bj (df (fe (gW (df (PE.imp (aH G_z (hr.mono VC) rfl T.m_z T.F_z.kp T.b_z .nil aB (aa (az bP bZ (df af) (df (az cT aL (df (dv 2)) (df af)))) ao)) aR)) i7 (cK (az bh aL (df (dv 2)) (df af)))))) bo)) (bD JU))))
   case' I=>refine' aA ?K
   case' K=>refine' aT ?L
   case L=>exact(PE.imp (bV (zz rfl) rfl T.n_max Uc (bj (df af) (bj (df (az bP bZ (df (az eM bZ (df (dv 3)) (df af))) (df (az bh aL (df (dv 0)) (df af))))) bo))) (bD Al))
  case B=>
  clear hr T G_y G_z;walk_at "z";split
  ·exact q _ VD
  ·split
   ·exact q _ VD
   ·have e12:x / 6 % 3280 % 12=((x / 6 % 3280 % 12).toNat:Int):=VD
    rw [e12];have sl:=Nm (2000+x / 6 % 3280 / 12) (x / 6 % 3280 % 12).toNat;have ys:cv (2000+x / 6 % 3280 / 12)+31*(((x / 6 % 3280 % 12).toNat:Nat):Int) < 100000:=by
     unfold cv lb;omega
    refine⟨_,rfl,_,rfl,_,rfl,(tw (2000+x / 6 % 3280 / 12)).take (x / 6 % 3280 % 12).toNat,?_,_,rfl,?_⟩
    ·rw [v5 VD (by rw [Oe];show _<=((12:Nat):Int);omega),Ql,Se]
    ·split
     ·exact q _ VD
     ·exact q 0 VD
def Es:List VI->(VI->Prop)->Prop:=λds Q=>∃(x:Int)(a b:Str),ds=[.int x,.list [.str a,.str b]]/\Om a=true/\Om b=true/\∀s:cc,s.Ok->Q s.enc
theorem Nt(T:Txt K mg t):aD P w K mg base CX0 1 t.a_AB t.d_AB ["_law_x","_law_words"] (aW K Es):=by
 refine T.F_AB.okD KJ (λds Q h=>?_) (λ_ _ _ _ H O ds Q E hr h=>?_)
 ·obtain⟨x,a,b,rfl,_⟩:=h;rfl
 ·obtain⟨x,a,b,rfl,ha,hb,q⟩:=h;refine'⟨_,?A,?B⟩
  case A=>
   refine' aA ?C
   case' C=>generalize hG2:Sa _ _ _=eg2
   refine' aT ?D
   case' D=>subst hG2
   refine' aj aX bb (df ?E) (df (az bh aL (df (dv 0)) (df af)))
   case E=>
    refine' fe ?F
    case' F=>refine' cn ?G
    case' G=>refine' aa (bN (aa bg ao)) ?H
    case' H=>refine' aa ?I ?J
    case I=>
     exact bN (aa bg (aa (aj aX bb (df (dv 1)) (df (az bh aL (df (az cT aL (df (dv 0)) (df af))) (df af)))) ao))
    case' J=>refine' aa ?K ao
    case K=>exact bN (aa bg (aa (aj aX bb (df (dv 1)) (df (az bh aL (df (az cT aL (df (dv 0)) (df af))) (df af)))) ao))
  case B=>
  clear hr T;walk_at "z";obtain⟨v,e1,mv⟩:=oH (xs:=[Oj a,Oj b]) (i:=x / 3 % 2) VD (by show _ < ((2:Nat):Int);omega);have hv:∃wd,v= .str wd/\Om wd=true:=by
   simp only [Ox,OY,or_false] at mv;rcases mv with rfl | rfl
   ·exact⟨_,rfl,ha⟩
   ·exact⟨_,rfl,hb⟩
  obtain⟨wd,rfl,hwd⟩:=hv;refine⟨_,e1,_,e1,?_⟩;obtain⟨v,e2,mv⟩:=oH (xs:=[O5 [Oj (Od "coming")],O5 [Oj (Od "first"),Oj wd],O5 [Oj (Od "last"),Oj wd]]) (i:=x % 3) VD (by show _ < ((3:Nat):Int);omega);refine⟨_,e2,?_⟩;simp only [Ox,OY,or_false] at mv;rcases mv with rfl | rfl | rfl
  ·exact q .com trivial
  ·exact q (.fst wd) hwd
  ·exact q (.lst wd) hwd
theorem lH(ss:List Str){i:Int}(h0:0<=i)(h1:i < ss.length):∃nm∈ss,atI (ss.map Oj) i=some (.str nm):=by
 obtain⟨v,e,m⟩:=oH (xs:=ss.map Oj) h0 (by rw [Oe];exact h1);obtain⟨nm,hn,rfl⟩:=OE.mp m;exact⟨nm,hn,e⟩
theorem Nu:∀z∈([Od "while",Od "follow",Od "leave"]:List Str),¬KG z/\Om z=true:=by
 intro z hz;simp only [Ox,OY,or_false] at hz;rcases hz with rfl | rfl | rfl <;> exact⟨λh=>by rcases h with h | h <;> exact absurd h VB,VB⟩
theorem Et:∀z∈([Od "days",Od "months",Od "years"]:List Str),oj z:=by
 intro z hz;simp only [Ox,OY,or_false] at hz;exact hz
theorem Nv:∀z∈([Od "keep",Od "gone"]:List Str),KG z:=by
 intro z hz;simp only [Ox,OY,or_false] at hz;exact hz
def Nw:List VI->(VI->Prop)->Prop:=λds Q=>∃(x0 x1 x2 x3 x4 x5 x6 x7 x8:Int)(a b c d e:Str)(f:Bool),ds=[.list [.int x0,.int x1,.int x2,.int x3,.int x4,.int x5,.int x6,.int x7,.int x8],.list [.str a,.str b,.str c],.list [.str d,.str e],.bool f]/\(∀z∈[a,b,c,d,e],Om z=true)/\∀pt:Pt,pt.Ok->Q pt.enc
theorem Nx(T:Txt K mg t):aD P w K mg base CX0 2 t.a_AC t.d_AC ["_law_xs","_law_kinds","_law_words","_law_far_here"] (aW K Nw):=by
 have G_AB:=@Nt P w _ _ base _ T;refine T.F_AC.okD qm (λds Q h=>?_) (λ_ _ _ _ H O ds Q E hr h=>?_)
 ·obtain⟨x0,x1,x2,x3,x4,x5,x6,x7,x8,a,b,c,d,e,f,rfl,_⟩:=h;rfl
 ·obtain⟨x0,x1,x2,x3,x4,x5,x6,x7,x8,a,b,c,d,e,f,rfl,hok,q⟩:=h;refine'⟨_,?A,?B⟩
  case A=>
   refine' aq ?C ?D
   case C=>
    refine' bt (i:=4) qm.nd rfl VG ?E (hs:=ph)
    case' E=>refine' aj aX bb (df (dv 1)) ?F
    case F=>exact(df (az bh aL (df (az bh aL (df (aj aX bb (df (dv 0)) (df af))) (df af))) (df (PE.imp (bV dj rfl T.n_len Pu (bj (df (dv 1)) bo)) (bD dH)))))
   case' D=>refine' aq (bt (i:=5) qm.nd rfl VG (az bh aL (df (aj aX bb (df (dv 0)) (df af))) (df af))) ?G
   case' G=>refine' aq ?H ?I
   case H=>
    refine' bH (aU iS cW (df (dv 5)) (df af) (aE _)) ?J bG
    case' J=>refine' aA ?K
    case' K=>refine' aT ?L
    case' L=>refine' bN ?M
    case' M=>refine' aa ?N ?O
    case N=>
     exact aj aX bb (df (fe (cn (oV (ds:=[.str "while",.str "follow",.str "leave"]) (by rfl))))) (df (az eM bZ (df (dv 5)) (df af)))
    case O=>refine' aa (dv 4) ao
   case' I=>refine' aq ?P ?Q
   case P=>
    generalize hG19:Sa _ _ _=eg19;refine' bt (i:=6) qm.nd rfl VG ?R (hs:=by subst hG19;exact ph)
    case' R=>subst hG19
    exact aj aX bb (df (fe (cn (oV (ds:=[.str "days",.str "months",.str "years"]) (by rfl))))) (df (az bh aL (df (aj aX bb (df (dv 0)) (df af))) (df af)))
   case' Q=>refine' aq ?S ?T
   case S=>
    generalize hG23:Sa _ _ _=eg23;refine' bt (i:=7) qm.nd rfl VG ?U (hs:=by subst hG23;exact ph)
    case' U=>subst hG23
    refine' aj aX bb (df ?V) ?W
    case V=>
     refine' fe ?X
     case' X=>refine' cn ?Y
     case Y=>exact aa (az bh aL (df (aj aX bb (df (dv 0)) (df af))) (df af)) (aa (az bh aL (df (aj aX bb (df (dv 0)) (df af))) (df af)) ao)
    case W=>exact(df (PE.imp (dF sG rfl T.n_int oI (bj (df (cO (cx hr.units) cy (df (az bh aL (df (aj aX bb (df (dv 0)) (df af))) (df af))) (df af) (aE _))) bo)) (bD sO)))
   case' T=>refine' aq ?Z ?a
   case Z=>
    refine' bH (oJ (fO (dv 3))) ?b bG
    case' b=>refine' aq ?c ?d
    case c=>
     generalize hG35:Sa _ _ _=eg35;refine' bt (i:=6) qm.nd rfl VG ?e (hs:=by subst hG35;exact ph)
     case' e=>subst hG35
     exact aj aX bb (df (fe (cn (oV (ds:=[.str "days",.str "days",.str "months"]) (by rfl))))) (df (az bh aL (df (aj aX bb (df (dv 0)) (df af))) (df af)))
    case' d=>refine' aA ?f
    case' f=>generalize hG39:Sa _ _ _=eg39
    refine' bt (i:=7) qm.nd rfl VG ?g (hs:=by subst hG39;exact ph)
    case' g=>subst hG39
    refine' aj aX bb (df ?h) (df (PE.imp (dF sG rfl T.n_int oI (bj (df (cO (cD hr) cE (df (dv 6)) (df bg) (aE _))) bo)) (bD sO)))
    case h=>
     refine' fe ?i
     case' i=>refine' cn ?j
     case j=>exact aa (az bh aL (df (aj aX bb (df (dv 0)) (df af))) (df af)) (aa (az bh aL (df (aj aX bb (df (dv 0)) (df af))) (df af)) ao)
   case' a=>refine' aA ?k
   case' k=>refine' aT ?l
   case' l=>refine' bN ?m
   case' m=>refine' aa (aj aX bb (df (fe (cn (aa bg (aa bg ao))))) (df (az bh aL (df (dv 5)) (df af)))) ?n
   case' n=>refine' aa (dv 4) ?o
   case' o=>refine' aa ?p ?q
   case p=>exact(PE.imp (aH G_AB (hr.mono VC) rfl T.m_AB T.F_AB.kp T.b_AB .nil aB (aa (aj aX bb (df (dv 0)) (df af)) (aa (dv 2) ao))) aR)
   case' q=>refine' aa (dv 7) ?r
   case r=>refine' aa (dv 6) ao
  case B=>
  clear hr T G_AB;generalize hB:fP (gQ _ _ _) _=TB;walk_at "z";obtain⟨kd,hkd,ek⟩:=lH [a,b,c] (i:=x2 % 3 % 3) VD (by show _ < ((3:Nat):Int);omega);have kok:Om kd=true:=hok kd (by
   simp only [Ox,OY,or_false] at hkd⊢;rcases hkd with h | h | h <;> simp [h])
  refine⟨VC,_,ek,?_⟩;subst hB;refine qE λR hR=>?_;walk_at "z";split
  ·obtain⟨wo,hw,ew⟩:=lH [Od "while",Od "follow",Od "leave"] (i:=x3 % 8 - 5) VD (by show _ < ((3:Nat):Int);omega);obtain⟨w1,w2⟩:=Nu wo hw;exact⟨_,ew,q (.two wo kd) ⟨w1,w2,kok⟩⟩
  ·have fin:∀(k:Int)(u:Str),0<=k->k < 1000->oj u->∃d_7,atI [Oj (Od "keep"),Oj (Od "gone")] (x3 % 8 % 2)=some d_7/\Es [.int x7,PX [Oj d,Oj e]] λd=>Q (O5 [d_7,.str kd,d,.int k,.str u]):=λk u k0 k1 hu=>by
    obtain⟨wo,hw,ew⟩:=lH [Od "keep",Od "gone"] (i:=x3 % 8 % 2) VD (by show _ < ((2:Nat):Int);omega);exact⟨_,ew,x7,d,e,rfl,hok d VH,hok e VH,λs hs=>q (.five wo kd s k u) ⟨Nv wo hw,kok,hs,k0,k1,hu⟩⟩
   obtain⟨u,hu,eu⟩:=lH [Od "days",Od "months",Od "years"] (i:=x4 % 3) VD (by show _ < ((3:Nat):Int);omega);subst hR;generalize hB:fP (gQ _ _ _) _=TB;walk_at "w";refine⟨_,eu,?_⟩;have two:∀(p r:Int)(b:Bool),0<=p->p < 1000->0<=r->r < 1000->∃k,atI [OJ p,OJ r] (if b=true then 1 else 0)=some (.int k)/\0<=k/\k < 1000:=λp r b p0 p1 r0 r1=>by
    cases b
    ·exact⟨p,d7,p0,p1⟩
    ·exact⟨r,eQ,r0,r1⟩
   obtain⟨k,hk,k0,k1⟩:=two (x5 % 30) (x5 % 1000) (x6 % 4==0) VD VD VD VD;refine⟨_,hk,?_⟩;subst hB;refine qE λR hR=>?_;have fin:∀(k:Int)(u:Str),0<=k->k < 1000->oj u->R {nx:=λx=>Q RH,rt:=Q} [some (Sl.v (PX [OJ x0,OJ x1,OJ x2,OJ x3,OJ x4,OJ x5,OJ x6,OJ x7,OJ x8])),some (Sl.v (PX [Oj a,Oj b,Oj c])),some (Sl.v (PX [Oj d,Oj e])),some (Sl.v (Rh f)),some (Sl.v (Oj kd)),some (Sl.v (OJ (x3 % 8))),some (Sl.v (Oj u)),some (Sl.v (OJ k))]:=λk u k0 k1 hu=>by
    subst hR;walk_at "w";exact fin k u k0 k1 hu
   clear hR;walk_at "w";split
   ·obtain⟨u,hu,eu⟩:=lH [Od "days",Od "days",Od "months"] (i:=x4 % 3) VD (by show _ < ((3:Nat):Int);omega);refine⟨_,eu,rfl,?_⟩;obtain⟨k,hk,k0,k1⟩:=two (x5 % 21) (x5 % 2) ((Oj u).eqv (Oj (Od "months"))) VD VD VD VD;exact⟨_,hk,fin k u k0 k1 (Et u (by
     simp only [Ox,OY,or_false] at hu⊢;rcases hu with h | h | h <;> simp [h]))⟩
   ·exact fin k u k0 k1 (Et u hu)
structure lI (x:De):Prop where
 d0:0<=x.d/\x.d < 100000
 nm:Om x.nm=true
 w:Om x.w=true
 ly:cw 6 x.enc
 pp:∀p,x= .pap p->Om p.kd=true/\(∀m∈p.ms,Om m=true)/\p.ms.length<=50
 np:∀w d nm r,x= .oth w d nm r->w≠Od "paper"
 hp:∀d nm r,x= .oth (Od "happens") d nm r->∃wd,r=[.str wd]/\Om wd=true
 ru:∀d nm r,x= .oth (Od "rule") d nm r->∃pt:Pt,r=[pt.enc]/\pt.Ok
 ho:∀d nm r,x= .oth (Od "hold") d nm r->∃(ip:Bool)(tn:Str)(dp:Bool),r=[gc ip tn,.bool dp]/\Om tn=true
 le:∀d nm r,x= .oth (Od "leave") d nm r->∃kd,r=[.str kd]/\Om kd=true
 rl:∀w d nm r,x= .oth w d nm r->r.length<=5
def jR(x y:De):Prop:=x≠y/\(∀p q,x= .pap p->y= .pap q->p.nm≠q.nm)/\(x.isE=true->y.isE=true->¬(x.d=y.d/\x.nm=y.nm))/\(x.isL=true->y.isL=true->¬(x.d=y.d/\x.nm=y.nm))/\(x.w=Od "leave"->y.w=Od "leave"->x.nm≠y.nm)
def De.r:De->List VI
 | .pap p=>[.str p.kd,.tuple (p.ms.map .str)]
 | .oth _ _ _ r=>r
theorem sd(x:De):x.enc= .tuple (.str x.w:: .int x.d:: .str x.nm::x.r):=by cases x <;> rfl
theorem Ny(x:De):x.isE=true↔x.w=Od "rule"\/x.w=Od "end":=by
 cases x with
 | pap p=>exact⟨λh=>(nomatch h),λh=>absurd h (by show ¬(Od "paper"=_\/Od "paper"=_);decide+kernel)⟩
 | oth w d nm r=>simp [De.isE,De.w]
theorem Nz(x:De):x.isL=true↔x.w=Od "hold"\/x.w=Od "lift":=by
 cases x with
 | pap p=>exact⟨λh=>(nomatch h),λh=>absurd h (by show ¬(Od "paper"=_\/Od "paper"=_);decide+kernel)⟩
 | oth w d nm r=>simp [De.isL,De.w]
mutual
theorem Eu:∀d:VI,d.canLay0=true->OP d d=true
 | .none,_=>by simp [OP]
 | .bool _,_ | .int _,_ | .str _,_=>by simp [OP]
 | .list xs,h=>by rw [OP];exact yF xs (by simpa [Pr] using h)
 | .tuple xs,h=>by rw [OP];exact yF xs (by simpa [Pr] using h)
 | .dict _,h=>by simp [Pr] at h
theorem yF:∀ds:List VI,Qb ds=true->Qs ds ds=true
 | [],_=>by simp [Qs]
 | d::ds,h=>by
  rw [Qb,Pz] at h;rw [Qs,Eu d h.1,yF ds h.2];rfl
end
theorem Ew{a b:Int}{s u:Str}:OP (.tuple [.int a,.str s]) (.tuple [.int b,.str u])=false->¬(a=b/\s=u):=by
 rintro h ⟨rfl,rfl⟩;simp [OP,Qs] at h
def NA:List VI->(VI->Prop)->Prop:=λds Q=>∃x y:De,ds=[x.enc,y.enc]/\lI x/\lI y/\∀b:Bool,(b=false->jR x y)->Q (.bool b)
theorem NB(T:Txt K mg t):aD P w K mg base CX0 1 t.a_AD t.d_AD ["_law_one","_law_other"] (aW K NA):=by
 refine T.F_AD.okD KL (λds Q h=>?_) (λ_ _ _ _ H O ds Q E hr h=>?_)
 ·obtain⟨x,y,rfl,_⟩:=h;rfl
 ·obtain⟨x,y,rfl,gx,gy,q⟩:=h;refine'⟨_,?A,?B⟩
  case A=>
   refine' aq ?C ?D
   case C=>
    refine' bH (aU (cx hr.units) cy (df (dv 0)) (df (dv 1)) (aE _)) ?E bG
    case E=>refine' aA (aT vY)
   case' D=>refine' aq ?F ?G
   case F=>
    refine' bH ?H ?I bG
    case H=>exact(PW.pt (fg (aU (qX hr) qY (df (aj aF aJ (df (dv 0)) (df af))) (df (bN (aa bg (aa bg ao)))) rfl) (fc (aU (qX hr) qY (df (aj aF aJ (df (dv 1)) (df af))) (df (bN (aa bg (aa bg ao)))) rfl))))
    case' I=>refine' aA ?J
    case' J=>refine' aT ?K
    case K=>exact(cO (cx hr.units) cy (df (uo (df (dv 0)) (cK af) (cK af))) (df (uo (df (dv 1)) (cK af) (cK af))) (aE _))
   case' G=>refine' aq ?L ?M
   case L=>
    refine' bH ?N ?O bG
    case N=>exact(PW.pt (fg (aU (qX hr) qY (df (aj aF aJ (df (dv 0)) (df af))) (df (bN (aa bg (aa bg ao)))) rfl) (fc (aU (qX hr) qY (df (aj aF aJ (df (dv 1)) (df af))) (df (bN (aa bg (aa bg ao)))) rfl))))
    case' O=>refine' aA ?P
    case' P=>refine' aT ?Q
    case Q=>exact(cO (cx hr.units) cy (df (uo (df (dv 0)) (cK af) (cK af))) (df (uo (df (dv 1)) (cK af) (cK af))) (aE _))
   case' M=>refine' aA ?R
   case' R=>refine' aT ?S
   case S=>exact(j0 (cO (cx hr.units) cy (df (aj aF aJ (df (dv 0)) (df af))) (df (aj aF aJ (df (dv 1)) (df af))) (aE _)) (j0 (cO (qX hr) qY (df (aj aF aJ (df (dv 0)) (df af))) (df (bN (aa bg (aa bg ao)))) rfl) (lV (cO (cx hr.units) cy (df (aj aF aJ (df (dv 0)) (df af))) (df (aj aF aJ (df (dv 1)) (df af))) (aE _)))))
  case B=>
  clear hr T;have ex:=gx.ly.shp VC;have ey:=gy.ly.shp VC;have ne:(x.enc).eqv y.enc=false->x≠y:=λh e=>by rw [e,Eu _ gy.ly.can] at h;cases h
  have two:∀z:De,Om z.nm=true->QZ (O5 [OJ z.d,Oj z.nm])=true:=λz hz=>(gX (n:=1) λy hy=>by
   simp only [Ox,OY,or_false] at hy;rcases hy with rfl | rfl
   ·exact wb
   ·exact ke hz).shp VC
  have tx:=two x gx.nm;have ty:=two y gy.nm;have ax:=cJ.mpr gx.w;have ay:=cJ.mpr gy.w;have bx:=cJ.mpr gx.nm;have by':=cJ.mpr gy.nm
  rw [sd] at ex;rw [sd] at ey;have pw:∀z:De,∀p,z= .pap p->z.w=Od "paper":=λz p e=>by rw [e];rfl
  have eE:=Ny;have eL:=Nz;have q:∀b:Bool,(b=false->(x.enc).eqv y.enc=false/\(x.w=Od "paper"->y.w=Od "paper"->x.nm≠y.nm)/\((x.w=Od "rule"\/x.w=Od "end")->(y.w=Od "rule"\/y.w=Od "end")->¬(x.d=y.d/\x.nm=y.nm))/\((x.w=Od "hold"\/x.w=Od "lift")->(y.w=Od "hold"\/y.w=Od "lift")->¬(x.d=y.d/\x.nm=y.nm))/\(x.w=Od "leave"->y.w=Od "leave"->x.nm≠y.nm))->Q (.bool b):=λb h=>q b λe=>by
   obtain⟨h1,h2,h3,h4,h5⟩:=h e;refine⟨ne h1,λp q e1 e2=>?_,λa b=>h3 ((eE x).mp a) ((eE y).mp b),λa b=>h4 ((eL x).mp a) ((eL y).mp b),h5⟩;have h2:=h2 (pw x p e1) (pw y q e2);rw [e1,e2] at h2;exact h2
  clear ne pw eE eL two gx gy;rw [sd,sd] at q;rw [sd,sd];generalize x.w=xw at*;generalize y.w=yw at*;generalize x.d=xd at*;generalize y.d=yd at*;generalize x.nm=xn at*;generalize y.nm=yn at*;generalize x.r=xr at*;generalize y.r=yr at*;walk_at "z";refine⟨ex,ey,?_⟩;clear ex ey;split
  ·exact q true (λe=>by cases e)
  ·rename_i hn;rw [QA] at hn;have E':∀z:Str,(Od "rule"==z || Od "end"==z)=true↔(z=Od "rule"\/z=Od "end"):=λz=>by
    rw [Su,beq_iff_eq,beq_iff_eq];exact⟨λh=>h.imp Eq.symm Eq.symm,λh=>h.imp Eq.symm Eq.symm⟩
   have L':∀z:Str,(Od "hold"==z || Od "lift"==z)=true↔(z=Od "hold"\/z=Od "lift"):=λz=>by
    rw [Su,beq_iff_eq,beq_iff_eq];exact⟨λh=>h.imp Eq.symm Eq.symm,λh=>h.imp Eq.symm Eq.symm⟩
   have nw:∀{z:Str},(z=Od "rule"\/z=Od "end")\/(z=Od "hold"\/z=Od "lift")->z≠Od "paper"/\z≠Od "leave":=λ{z} h=>by
    rcases h with(h | h) | (h | h) <;> subst h <;> decide+kernel
   have cut:(xw=Od "rule"\/xw=Od "end")\/(xw=Od "hold"\/xw=Od "lift")->Q (Rh ((O5 [OJ xd,Oj xn]).eqv (O5 [OJ yd,Oj yn]))):=λhx=>q _ λe=>⟨hn,λa=>absurd a (nw hx).1,λ_ _=>Ew e,λ_ _=>Ew e,λa=>absurd a (nw hx).2⟩;have tl:¬((xw=Od "rule"\/xw=Od "end")/\(yw=Od "rule"\/yw=Od "end"))->¬((xw=Od "hold"\/xw=Od "lift")/\(yw=Od "hold"\/yw=Od "lift"))->QZ (Oj xw)=true/\QZ (Oj yw)=true/\(if (xw==yw)=true then(if (Od "paper"==xw || Od "leave"==xw)=true then QZ (Oj xn)=true/\QZ (Oj yn)=true/\Q (Rh (xn==yn)) else Q (Rh false)) else Q (Rh false)):=λhE hL=>by
    refine⟨ax,ay,?_⟩;split
    ·rename_i h;split
     ·exact⟨bx,by',q _ λe=>⟨hn,λ_ _=>by simpa using e,λa b=>absurd ⟨a,b⟩ hE,λa b=>absurd ⟨a,b⟩ hL,λ_ _=>by simpa using e⟩⟩
     ·rename_i h2;exact q _ λ_=>⟨hn,λa=>absurd (by rw [a];simp) h2,λa b=>absurd ⟨a,b⟩ hE,λa b=>absurd ⟨a,b⟩ hL,λa=>absurd (by rw [a];simp) h2⟩
    ·rename_i h;exact q _ λ_=>⟨hn,λa b=>absurd (by rw [a,b];simp) h,λa b=>absurd ⟨a,b⟩ hE,λa b=>absurd ⟨a,b⟩ hL,λa b=>absurd (by rw [a,b];simp) h⟩
   clear q ax ay bx by'
   split
   ·rename_i h1;split
    ·exact⟨tx,ty,cut (.inl ((E' _).mp h1))⟩
    ·rename_i h2;split
     ·rename_i h3;split
      ·exact⟨tx,ty,cut (.inl ((E' _).mp h1))⟩
      ·rename_i h4;exact tl (λz=>h2 ((E' _).mpr z.2)) (λz=>h4 ((L' _).mpr z.2))
     ·rename_i h3;exact tl (λz=>h2 ((E' _).mpr z.2)) (λz=>h3 ((L' _).mpr z.1))
   ·rename_i h1;split
    ·rename_i h3;split
     ·exact⟨tx,ty,cut (.inr ((L' _).mp h3))⟩
     ·rename_i h4;exact tl (λz=>h1 ((E' _).mpr z.1)) (λz=>h4 ((L' _).mpr z.2))
    ·rename_i h3;exact tl (λz=>h1 ((E' _).mpr z.1)) (λz=>h3 ((L' _).mpr z.1))
def NC:List VI->(VI->Prop)->Prop:=λds Q=>∃x:Int,ds=[.int x]/\∀n0 n1 n2 n3 n4 n5 n6:Str,(∀z∈[n0,n1,n2,n3,n4,n5,n6],Om z=true)->Q (.tuple [.list [.str n0,.str n1,.str n2,.str n3,.str n4,.str n5],.list [.str n1,.str n2,.str n3],.list [.str n2,.str n3],.list [.str n2,.str n3,.str n4,.str n5,.str n6]])
theorem ND(T:Txt K mg t):aD P w K mg base CX0 2 t.a_AF t.d_AF ["_law_x"] (aW K NC):=by
 have G_x:=@Nq P w _ _ base _ T;refine T.F_AF.okD B7 (λds Q h=>?_) (λ_ _ _ _ H O ds Q E hr h=>?_)
 ·obtain⟨x,rfl,_⟩:=h;rfl
 ·obtain⟨x,rfl,q⟩:=h;refine'⟨_,?A,?B⟩
  case A=>
   refine' aq ?C ?D
   case C=>exact(bt (i:=1) B7.nd rfl VG (PE.imp (aH G_x (hr.mono VC) rfl T.m_x T.F_x.kp T.b_x .nil aB (aa (dv 0) (aa af ao))) aR))
   case' D=>refine' aA ?E
   case' E=>generalize hG4:Va _ _ _=eg4
   refine' aT ?F
   case' F=>subst hG4
   refine' bN ?G
   case' G=>refine' aa (fe (gW (df (dv 1)) i7 (cK af))) ?H
   case H=>exact aa (fe (gW (df (dv 1)) (cK af) (cK af))) (aa (fe (gW (df (dv 1)) (cK af) (cK af))) (aa (fe (gW (df (dv 1)) (cK af) (cK af))) ao))
  case B=>
  clear hr T G_x;walk_at "z";refine⟨x,7,rfl,VD,VD,λss sl sok=>?_⟩;obtain⟨n0,n1,n2,n3,n4,n5,n6,rfl⟩:∃a b c d e f g,ss=[a,b,c,d,e,f,g]:=by
   match ss,(show ss.length=7 by omega) with
   | [a,b,c,d,e,f,g],_=>exact⟨_,_,_,_,_,_,_,rfl⟩
  walk_at "z";exact q n0 n1 n2 n3 n4 n5 n6 sok
def hZ:List Str:=[Od "paper",Od "paper",Od "paper",Od "paper",Od "paper",Od "rule",Od "rule",Od "rule",Od "rule",Od "rule",Od "happens",Od "happens",Od "happens",Od "hold",Od "hold",Od "end",Od "lift",Od "leave",Od "leave"]
def NF:List VI->(VI->Prop)->Prop:=λds Q=>ds=[]/\Q (.list (hZ.map .str))
theorem NG(T:Txt K mg t):aD P w K mg base CX0 1 t.a_AG t.d_AG [] (aW K NF):=by
 refine T.F_AG.okD B8 (λds Q h=>?_) (λ_ _ _ _ H O ds Q E hr h=>?_)
 ·obtain⟨rfl,_⟩:=h;rfl
 ·obtain⟨rfl,q⟩:=h;refine'⟨_,?A,?B⟩
  case A=>
   refine' aq ?C ?D
   case C=>
    generalize hG2:SY _ _ _ _=eg2;refine' bt (i:=0) B8.nd rfl VG ?E (hs:=by subst hG2;exact kh)
    case' E=>subst hG2
    refine' fe ?F
    case' F=>refine' j7 (df ?G) (df (fe (wQ (n:=3) VC (cn (aa bg ao)))))
    case G=>
     exact fe (j7 (df (fe (wQ (n:=5) VC (cn (aa bg ao))))) (df (fe (wQ (n:=5) VC (cn (aa bg ao))))))
   case' D=>refine' aA ?H
   case' H=>generalize hE11_0:UG _ _=ee11_0
   exact(aT (fe (j7 (df (dv 0)) (df (fe (wa (ds:=[.str "hold",.str "hold",.str "end",.str "lift",.str "leave",.str "leave"]) (by first | (subst hE11_0;rfl))))))))
  case B=>
  clear hr T;walk_at "z";refine⟨?_,?_,?_,q⟩
  ·show(10:Nat)<=16777216;decide
  ·show(13:Nat)<=16777216;decide
  ·show(13:Nat)<=16777210;decide
end
local macro_rules | `(tactic| walk_at "w") =>rzT (rzS++" K23.atI_c5 K23.atI_c6 K23.atI_c7 K23.atI_c8 K23.day_iff K23.cell_iff K23.numbers_iff true_and")
theorem Ey:bq (ag jD) ["_law_sort","_law_xs","_law_pools_here","_law_far_here","_law_names","_law_kinds","_law_words","_law_rules","_law_day_here","_law_some","_law_target"] ["_law_k","_law_names","_law_xs"] 1 [4,1] ⟨Oq,[ (Of ".0",Xk),(Of "_law_k",Xk),(Of "_law_names",OA),(Of "_law_xs",OA)],false,false,[]⟩:=⟨rfl,VB,VB,VB,rfl,VB,VB,VB,rfl⟩
section
variable {P:VW} {w:VX} {K:Og} {mg:Str->Option VJ} {base:VY} {t:cz}
theorem NH{a b:Str}(ha:Om a=true)(hb:Om b=true):cw 2 (.tuple [.str a,.str b]):=gX (cb (ke ha) (cb (ke hb) fR))
theorem Ez{w nm:Str}{d:Int}{r:List VI}(hw:Om w=true)(hn:Om nm=true)(hr:∀y∈r,cw 5 y):cw 6 (.tuple (.str w:: .int d:: .str nm::r)):=
 gX (cb ((ke hw).mono VC) (cb (wb.mono VC) (cb ((ke hn).mono VC) hr)))
structure NI (w:Str) (r:List VI):Prop where
 np:w≠Od "paper"
 hp:w=Od "happens"->∃wd,r=[.str wd]/\Om wd=true
 ru:w=Od "rule"->∃pt:Pt,r=[pt.enc]/\pt.Ok
 ho:w=Od "hold"->∃(ip:Bool)(tn:Str)(dp:Bool),r=[gc ip tn,.bool dp]/\Om tn=true
 le:w=Od "leave"->∃kd,r=[.str kd]/\Om kd=true
 ln:r.length<=5
theorem tD{w nm:Str}{d:Int}{r:List VI}(d0:0<=d/\d < 100000)(hw:Om w=true)(hn:Om nm=true)(hr:∀y∈r,cw 5 y)(o:NI w r):lI (.oth w d nm r):=by
 refine⟨d0,hn,hw,Ez hw hn hr,λp e=>(by cases e),λw' d' nm' r' e=>(by cases e;exact o.np),λd' nm' r' e=>(by cases e;exact o.hp rfl),λd' nm' r' e=>(by cases e;exact o.ru rfl),λd' nm' r' e=>(by cases e;exact o.ho rfl),λd' nm' r' e=>(by cases e;exact o.le rfl),λw' d' nm' r' e=>(by cases e;exact o.ln)⟩
theorem NJ{p:Pp}(d0:0<=p.d/\p.d < 100000)(hn:Om p.nm=true)(hk:Om p.kd=true)(hm:∀m∈p.ms,Om m=true)(hl:p.ms.length<=50):lI (.pap p):=by
 refine⟨d0,hn,xM,Ez xM hn (cb ((ke hk).mono VC) (cb ((gX (wt (n:=1) hm)).mono VC) fR)),λp' e=>(by cases e;exact⟨hk,hm,hl⟩),λw' d' nm' r' e=>(by cases e),λd' nm' r' e=>(by cases e),λd' nm' r' e=>(by cases e),λd' nm' r' e=>(by cases e),λd' nm' r' e=>(by cases e),λw' d' nm' r' e=>(by cases e)⟩
theorem NK:∀z∈hZ,Om z=true:=by
 intro z hz;have h:z∈([Od "paper",Od "rule",Od "happens",Od "hold",Od "end",Od "lift",Od "leave"]:List Str):=by
  simp only [hZ,Ox,OY,or_false] at hz⊢;rcases hz with h | h | h | h | h | h | h | h | h | h | h | h | h | h | h | h | h | h | h <;> simp only [h,true_or,or_true]
 simp only [Ox,OY,or_false] at h;rcases h with rfl | rfl | rfl | rfl | rfl | rfl | rfl <;> decide+kernel
theorem NL(ss:List Str)(lo hi:Option Int):∃ms:List Str,d6 (ss.map Oj) lo hi=ms.map .str/\(∀m∈ms,m∈ss)/\ms.length<=ss.length:=by
 unfold d6;rw [<-Uj,<-Se];exact⟨_,rfl,λm hm=>Uh (RF hm),by rw [Pf,Q8];omega⟩
def yG(n0 n1 n2 n3 n4 n5 n6:Str):VI:= .tuple [.list [.str n0,.str n1,.str n2,.str n3,.str n4,.str n5],.list [.str n1,.str n2,.str n3],.list [.str n2,.str n3],.list [.str n2,.str n3,.str n4,.str n5,.str n6]]
def NM:List VI->(VI->Prop)->Prop:=λds Q=>∃(so:Str)(x0 x1 x2 x3 x4 x5 x6 x7 x8:Int)(n0 n1 n2 n3 n4 n5 n6:Str)(f:Bool),ds=[.str so,.list [.int x0,.int x1,.int x2,.int x3,.int x4,.int x5,.int x6,.int x7,.int x8],yG n0 n1 n2 n3 n4 n5 n6,.bool f]/\so∈hZ/\0<=x0/\(∀z∈[n0,n1,n2,n3,n4,n5,n6],Om z=true)/\∀x:De,lI x->x.w=so->Q x.enc
theorem NN(T:Txt K mg t):aD P w K mg base CX0 3 t.a_AE t.d_AE ["_law_sort","_law_xs","_law_pools_here","_law_far_here"] (aW K NM):=by
 have G_AA:=@Nr P w _ _ base _ T;have G_AC:=@Nx P w _ _ base _ T;refine T.F_AE.okD oi (λds Q h=>?_) (λ_ _ _ _ H O ds Q E hr h=>?_)
 ·obtain⟨so,x0,x1,x2,x3,x4,x5,x6,x7,x8,n0,n1,n2,n3,n4,n5,n6,f,rfl,_⟩:=h;rfl
 ·obtain⟨so,x0,x1,x2,x3,x4,x5,x6,x7,x8,n0,n1,n2,n3,n4,n5,n6,f,rfl,hso,h0,hok,q⟩:=h;refine'⟨_,?A,?B⟩
  case A=>
   refine' aq ?C ?D
   case C=>exact(Ai (dv 2) (gj (n:=4) rfl (b0 (aM (i:=4) oi.nd rfl VG) (b0 (aM (i:=5) oi.nd rfl VG) (b0 (aM (i:=6) oi.nd rfl VG) (b0 (aM (i:=7) oi.nd rfl VG) gi))))) (gB (b7 aN (b7 aN (b7 aN (b7 aN gA))))))
   case' D=>refine' aq ?E ?F
   case E=>exact(bt (i:=8) oi.nd rfl VG (PE.imp (aH G_AA (hr.mono VC) rfl T.m_AA T.F_AA.kp T.b_AA .nil aB (aa (aj aX bb (df (dv 1)) (df af)) (aa (dv 3) ao))) aR))
   case' F=>refine' aq ?G ?H
   case G=>
    refine' bH (aU (cD hr) cE (df (dv 0)) (df bg) (aE _)) ?I bG
    case' I=>refine' aq ?J ?K
    case J=>exact(i9 (i:=9) oi.nd rfl VG (AE rfl Ey rfl T.n_range (bj (df (PE.imp (bV dj rfl T.n_len Pu (bj (df (dv 4)) bo)) (bD dH))) bo) aN bO VC (λ_ _ _ _=>(aM (i:=0) Ey.nd rfl VG)) (λ_ _ _ _=>(cU (PW.pt (fg (aU (cx hr.units) cy (df (az BA uL (df (az Bz uL (df (aj aX bb (df (dv 2)) (df af))) (df (dv 0)))) (df af))) (df af) (aE _)) (fc (aU (cx hr.units) cy (df (az BA uL (df (az Bz uL (df (aj aX bb (df (dv 2)) (df af))) (df (dv 0)))) (df af))) (df af) (aE _))))))) (λ_ _ _ _=>(aj aX bb (df (dv 1)) (df (dv 0))))))
    case' K=>refine' aA ?L
    case' L=>generalize hG10:Va _ _ _=eg10
    refine' aT ?M
    case' M=>subst hG10
    refine' bN ?N
    case' N=>refine' aa bg ?O
    case' O=>refine' aa (dv 8) ?P
    case' P=>refine' aa ?Q ?R
    case Q=>
     refine' aj aX bb (df (dv 4)) ?S
     case S=>exact(df (az bh aL (df (aj aX bb (df (dv 1)) (df af))) (df (PE.imp (bV dj rfl T.n_len Pu (bj (df (dv 4)) bo)) (bD dH)))))
    case' R=>refine' aa ?T ?U
    case T=>
     refine' aj aX bb (df (dv 5)) ?V
     case V=>exact(df (az bh aL (df (az bh aL (df (aj aX bb (df (dv 1)) (df af))) (df af))) (df (PE.imp (bV dj rfl T.n_len Pu (bj (df (dv 5)) bo)) (bD dH)))))
    case' U=>refine' aa ?W ao
    case W=>exact(PE.imp (dF gr rfl T.n_tuple fy (bj (df (fe (gW (df (fe (Il rfl T.n_sorted Qp (bj (df (dv 9)) bo)))) i7 (cK af)))) bo)) (bD gC))
   case' H=>refine' aq ?X ?Y
   case X=>
    refine' bH (aU (cD hr) cE (df (dv 0)) (df bg) (aE _)) ?Z bG
    case' Z=>refine' aA ?a
    case' a=>refine' aT ?b
    case' b=>refine' bN ?c
    case' c=>refine' aa bg ?d
    case' d=>refine' aa (dv 8) ?e
    case' e=>refine' aa ?f (aa (aj aX bb (df (dv 6)) (df (az bh aL (df (aj aX bb (df (dv 1)) (df af))) (df af)))) ao)
    case f=>
     refine' aj aX bb (df (dv 4)) ?g
     case g=>exact(df (az bh aL (df (aj aX bb (df (dv 1)) (df af))) (df (PE.imp (bV dj rfl T.n_len Pu (bj (df (dv 4)) bo)) (bD dH)))))
   case' Y=>refine' aq ?h ?i
   case h=>
    refine' bH (aU (cD hr) cE (df (dv 0)) (df bg) (aE _)) ?j bG
    case' j=>refine' aA ?k
    case' k=>refine' aT ?l
    case' l=>refine' bN ?m
    case' m=>refine' aa bg ?n
    case' n=>refine' aa (dv 8) ?o
    case' o=>refine' aa ?p ?q
    case p=>
     refine' aj aX bb (df (dv 7)) ?r
     case r=>exact(df (az bh aL (df (aj aX bb (df (dv 1)) (df af))) (df (PE.imp (bV dj rfl T.n_len Pu (bj (df (dv 7)) bo)) (bD dH)))))
    case' q=>refine' aa ?s ao
    case s=>exact(PE.imp (aH G_AC (hr.mono VC) rfl T.m_AC T.F_AC.kp T.b_AC .nil aB (aa (dv 1) (aa (dv 5) (aa (dv 6) (aa (dv 3) ao))))) aR)
   case' i=>refine' aq ?t ?u
   case t=>
    refine' bH (aU (cD hr) cE (df (dv 0)) (df bg) (aE _)) ?v bG
    case' v=>refine' aq ?w ?x
    case w=>
     generalize hG59:Sa _ _ _=eg59;refine' bt (i:=10) oi.nd rfl VG ?y (hs:=by subst hG59;exact ph)
     case' y=>subst hG59
     refine' aj aX bb (df ?z) (df (az bh aL (df (aj aX bb (df (dv 1)) (df af))) (df af)))
     case z=>
      refine' fe ?A0
      case' A0=>refine' cn ?A1
      case' A1=>refine' aa ?A2 ?A3
      case A2=>
       refine' bN ?A4
       case' A4=>refine' aa bg ?A5
       case' A5=>refine' aa ?A6 ao
       case' A6=>refine' aj aX bb (df (dv 4)) ?A7
       case A7=>exact(df (az bh aL (df (aj aX bb (df (dv 1)) (df af))) (df (PE.imp (bV dj rfl T.n_len Pu (bj (df (dv 4)) bo)) (bD dH)))))
      case' A3=>refine' aa ?A8 ao
      case' A8=>refine' bN ?A9
      case' A9=>refine' aa bg ?AA
      case' AA=>refine' aa ?AB ao
      case' AB=>refine' aj aX bb (df (dv 5)) ?AC
      case AC=>exact(df (az bh aL (df (aj aX bb (df (dv 1)) (df af))) (df (PE.imp (bV dj rfl T.n_len Pu (bj (df (dv 5)) bo)) (bD dH)))))
    case' x=>refine' aA ?AD
    case' AD=>generalize hG81:Va _ _ _=eg81
    refine' aT ?AE
    case' AE=>subst hG81
    refine' bN ?AF
    case' AF=>refine' aa bg ?AG
    case' AG=>refine' aa (dv 8) ?AH
    case' AH=>refine' aa ?AI ?AJ
    case AI=>
     exact aj aX bb (df (dv 7)) (df (az bh aL (df (aj aX bb (df (dv 1)) (df af))) (df af)))
    case' AJ=>refine' aa (dv 10) ?AK
    case AK=>exact aa (cO (cx hr.units) cy (df (az bh aL (df (aj aX bb (df (dv 1)) (df af))) (df af))) (df af) (aE _)) ao
   case' u=>refine' aq ?AL ?AM
   case AL=>
    refine' bH (aU (cD hr) cE (df (dv 0)) (df bg) (aE _)) ?AN bG
    case' AN=>refine' aA ?AO
    case' AO=>refine' aT ?AP
    case' AP=>refine' bN ?AQ
    case' AQ=>refine' aa bg ?AR
    case' AR=>refine' aa (dv 8) ?AS
    case' AS=>refine' aa ?AT ?AU
    case AT=>
     refine' aj aX bb (df (dv 4)) ?AV
     case AV=>exact(df (az bh aL (df (aj aX bb (df (dv 1)) (df af))) (df (PE.imp (bV dj rfl T.n_len Pu (bj (df (dv 4)) bo)) (bD dH)))))
    case' AU=>refine' aa ?AW ao
    case' AW=>refine' aj aX bb (df (dv 5)) ?AX
    case AX=>exact(df (az bh aL (df (az bh aL (df (aj aX bb (df (dv 1)) (df af))) (df af))) (df (PE.imp (bV dj rfl T.n_len Pu (bj (df (dv 5)) bo)) (bD dH)))))
   case' AM=>refine' aA ?AY
   case' AY=>refine' aT ?AZ
   case' AZ=>refine' bN ?Aa
   case' Aa=>refine' aa (dv 0) ?Ab
   case' Ab=>refine' aa (dv 8) ?Ac
   case' Ac=>refine' aa ?Ad ao
   case' Ad=>refine' aj aX bb (df (dv 7)) ?Ae
   case Ae=>exact(df (az bh aL (df (aj aX bb (df (dv 1)) (df af))) (df (aj aX bb (df (fe (cn (aa (PE.imp (bV dj rfl T.n_len Pu (bj (df (dv 7)) bo)) (bD dH)) (aa af ao))))) (df (PE.imp (dF sG rfl T.n_int oI (bj (df (cO (cD hr) cE (df (dv 0)) (df bg) (aE _))) bo)) (bD sO)))))))
  case B=>
  clear hr T G_AA G_AC;simp only [yG];generalize hB:fP (gQ _ _ _) _=TB;walk_at "w";refine⟨h0,λd d0=>?_⟩;subst hB;have six:∀i:Int,0<=i->i < 6->∃nm,atI [Oj n0,Oj n1,Oj n2,Oj n3,Oj n4,Oj n5] i=some (.str nm)/\Om nm=true:=λi i0 i1=>by
   obtain⟨nm,hm,e⟩:=lH [n0,n1,n2,n3,n4,n5] i0 (show i < ((6:Nat):Int) by omega);exact⟨nm,e,hok nm (by simp only [Ox,OY,or_false] at hm⊢;rcases hm with h | h | h | h | h | h <;> simp only [h,true_or,or_true])⟩
  have thr:∀i:Int,0<=i->i < 3->∃nm,atI [Oj n1,Oj n2,Oj n3] i=some (.str nm)/\Om nm=true:=λi i0 i1=>by
   obtain⟨nm,hm,e⟩:=lH [n1,n2,n3] i0 (show i < ((3:Nat):Int) by omega);exact⟨nm,e,hok nm (by simp only [Ox,OY,or_false] at hm⊢;rcases hm with h | h | h <;> simp only [h,true_or,or_true])⟩
  have fiv:∀i:Int,0<=i->i < 5->∃nm,atI [Oj n2,Oj n3,Oj n4,Oj n5,Oj n6] i=some (.str nm)/\Om nm=true:=λi i0 i1=>by
   obtain⟨nm,hm,e⟩:=lH [n2,n3,n4,n5,n6] i0 (show i < ((5:Nat):Int) by omega);exact⟨nm,e,hok nm (by simp only [Ox,OY,or_false] at hm⊢;rcases hm with h | h | h | h | h <;> simp only [h,true_or,or_true])⟩
  have l1:∀{s:Str},Om s=true->cw 5 (.str s):=λh=>(ke h).mono VC;refine qE λR hR=>?_;walk_at "w";split
  ·rename_i e;refine⟨VC,VC,λi acc=>∃ss:List Str,acc=ss.map .str/\ss.length<=i/\∀z∈ss,Om z=true,⟨[],rfl,Oi _,VH⟩,?_,?_⟩
   ·rintro i z acc hz ⟨ss,rfl,sl,sok⟩;obtain⟨hi,rfl⟩:=qU hz;have hi:i < 6:=hi;obtain⟨nm,en,hn⟩:=six (0+(i:Int)) VD VD;walk_at "z";have no:∃ss_1:List Str,Pn Oj ss=Pn Oj ss_1/\ss_1.length<=i+1/\∀(z:Str),z∈ss_1->Om z=true:=⟨ss,rfl,VD,sok⟩;refine⟨⟨_,rfl⟩,VD,λ_ r=>?_⟩;split
    ·refine⟨⟨_,rfl⟩,VD,λ_ r=>?_⟩;split
     ·refine⟨_,en,ss++[nm],by rw [OO];rfl,by rw [OG,QQ];omega,λz hz=>?_⟩;rcases ON.mp hz with h | h
      ·exact sok z h
      ·rw [OS] at h;rw [h];exact hn
     ·exact no
    ·exact no
   ·rintro acc ⟨ss,rfl,sl,sok⟩;rw [ui] at sl;have sl:ss.length<=6:=sl;obtain⟨nm,en,hn⟩:=six (x1 % 6) VD VD;obtain⟨kd,ek,hk⟩:=thr (x2 % 3 % 3) VD VD;refine⟨VC,_,en,VC,_,ek,ss,rfl,VD,?_⟩;obtain⟨ms,em,m1,m2⟩:=NL (fi ss) none (some 4);have sp:=kg ss;rw [em];exact q (.pap ⟨d,nm,kd,ms⟩) (NJ d0 hn hk (λm hm=>sok m (sp.mem_iff.mp (m1 m hm))) (by rw [sp.length_eq] at m2;show ms.length<=50;omega)) (eq_of_beq e).symm
  ·rename_i ep;subst hR;refine qE λR hR=>?_;walk_at "w";split
   ·rename_i e;obtain⟨nm,en,hn⟩:=six (x1 % 6) VD VD;obtain⟨kd,hk,ek⟩:=lH [n2,n3] (i:=x2 % 2) VD (by show _ < ((2:Nat):Int);omega);have hk:Om kd=true:=hok kd (by simp only [Ox,OY,or_false] at hk⊢;rcases hk with h | h <;> simp only [h,true_or,or_true]);exact⟨VC,_,en,_,ek,q (.oth (Od "happens") d nm [.str kd]) (tD d0 VB hn (cb (l1 hk) fR) ⟨VB,λ_=>⟨kd,rfl,hk⟩,λh=>absurd h VB,λh=>absurd h VB,λh=>absurd h VB,VH⟩) (eq_of_beq e).symm⟩
   ·rename_i eh;subst hR;refine qE λR hR=>?_;walk_at "w";split
    ·rename_i e;obtain⟨nm,en,hn⟩:=fiv (x1 % 5) VD VD;refine⟨VC,_,en,x0,x1,x2,x3,x4,x5,x6,x7,x8,n1,n2,n3,n2,n3,f,rfl,λz hz=>hok z ?_,λpt hpt=>?_⟩
     ·simp only [Ox,OY,or_false] at hz⊢;rcases hz with h | h | h | h | h <;> simp only [h,true_or,or_true]
     ·exact q (.oth (Od "rule") d nm [pt.enc]) (tD d0 VB hn (cb ((Pt.lay hpt).mono VC) fR) ⟨VB,λh=>absurd h VB,λ_=>⟨pt,rfl,hpt⟩,λh=>absurd h VB,λh=>absurd h VB,VH⟩) (eq_of_beq e).symm
    ·rename_i er;subst hR;refine qE λR hR=>?_;walk_at "w";split
     ·rename_i e;obtain⟨nm,en,hn⟩:=six (x2 % 6) VD VD;obtain⟨kd,ek,hk⟩:=thr (x2 % 3) VD VD;obtain⟨ho,eo,hh⟩:=fiv (x1 % 2) VD VD;obtain⟨v,ev,hv⟩:=oH (xs:=[O5 [Oj (Od "paper"),.str nm],O5 [Oj (Od "kind"),.str kd]]) (i:=x3 % 2) VD (by show _ < ((2:Nat):Int);omega);have lv:∃(ip:Bool)(z:Str),v=gc ip z/\Om z=true:=by
       simp only [Ox,OY,or_false] at hv;rcases hv with rfl | rfl
       ·exact⟨true,nm,rfl,hn⟩
       ·exact⟨false,kd,rfl,hk⟩
      obtain⟨ip,z,rfl,hz⟩:=lv;have ly:cw 5 (gc ip z):=(NH (by cases ip <;> decide+kernel) hz).mono VC;exact⟨VC,_,en,VC,_,ek,_,ev,_,eo,q (.oth (Od "hold") d ho [gc ip z,.bool (x4 % 2==0)]) (tD d0 VB hh (cb ly (cb (Ib.mono VC) fR)) ⟨VB,λh=>absurd h VB,λh=>absurd h VB,λ_=>⟨ip,z,_,rfl,hz⟩,λh=>absurd h VB,VH⟩) (eq_of_beq e).symm⟩
     ·rename_i eo;subst hR;refine qE λR hR=>?_;walk_at "w";split
      ·rename_i e;obtain⟨nm,en,hn⟩:=six (x1 % 6) VD VD;obtain⟨kd,ek,hk⟩:=thr (x2 % 3 % 3) VD VD;exact⟨VC,_,en,VC,_,ek,q (.oth (Od "leave") d nm [.str kd]) (tD d0 VB hn (cb (l1 hk) fR) ⟨VB,λh=>absurd h VB,λh=>absurd h VB,λh=>absurd h VB,λ_=>⟨kd,rfl,hk⟩,VH⟩) (eq_of_beq e).symm⟩
      ·rename_i el;have fin:∀m:Int,0 < m->m<=5->∃x_1,atI [Oj n2,Oj n3,Oj n4,Oj n5,Oj n6] (x1 % m)=some x_1/\Q (O5 [Oj so,OJ d,x_1]):=λm m0 m5=>by
        obtain⟨nm,en,hn⟩:=fiv (x1 % m) (Rt _ VD) (Int.lt_of_lt_of_le (QT _ m0) m5);exact⟨_,en,q (.oth so d nm []) (tD d0 (NK so hso) hn fR ⟨λh=>ep (by rw [h];rfl),λh=>absurd (by rw [h];rfl) eh,λh=>absurd (by rw [h];rfl) er,λh=>absurd (by rw [h];rfl) eo,λh=>absurd (by rw [h];rfl) el,VH⟩) rfl⟩
       subst hR;walk_at "w";split
       ·exact⟨_,eQ,2,rfl,VC,fin 2 VC VC⟩
       ·exact⟨_,d7,5,rfl,VC,fin 5 VC VC⟩
end
theorem EA:bq (ag jE) ["_law_script","_law_at","_law_far_here","_law_head","_law_pools_here","_law_found","_law_k","_law_sort","_law_xs","_law_deed_here","_law_turn"] ["_law_other","_law_deed_here"] 1 [9] ⟨Oq,[ (Of ".0",Xk),(Of "_law_other",Xk),(Of "_law_quarrel",OQ),(Of "_law_deed_here",OA)],false,false,[]⟩:=⟨rfl,VB,VB,VB,rfl,VB,VB,VB,rfl⟩
section
variable {P:VW} {w:VX} {K:Og} {mg:Str->Option VJ} {base:VY} {t:cz}
theorem EB{ns:List Int}(h:(ns.length:Int)=4):∃a b c d,ns=[a,b,c,d]:=by
 match ns,(show ns.length=4 by omega) with
 | [a,b,c,d],_=>exact⟨_,_,_,_,rfl⟩
theorem NO{ns:List Int}(h:(ns.length:Int)=9):∃a0 a1 a2 a3 a4 a5 a6 a7 a8,ns=[a0,a1,a2,a3,a4,a5,a6,a7,a8]:=by
 match ns,(show ns.length=9 by omega) with
 | [a0,a1,a2,a3,a4,a5,a6,a7,a8],_=>exact⟨_,_,_,_,_,_,_,_,_,rfl⟩
theorem EC{f:De->Bool}{s:Str}(h:∀x,f x=true->x.w=s):∀xs:List De,(xs.filter f).length<=((xs.map De.w).filter (·==s)).length
 | []=>Oi _
 | x::xs=>by
  have ih:=EC h xs;rw [Pb,Ol,Pb];by_cases hf:f x=true
  ·rw [VF hf,VF (by rw [h x hf];exact beq_self_eq_true _)];exact Nat.succ_le_succ ih
  ·rw [VE hf];split
   ·exact Nat.le_succ_of_le ih
   ·exact ih
theorem yH{f:De->Bool}{s:Str}{n:Nat}{xs:List De}(sl:(xs.map De.w).Sublist hZ)(hn:(hZ.filter (·==s)).length=n)(h:∀x,f x=true->x.w=s):(xs.filter f).length<=n:=by
 rw [<-hn];exact O7 (EC h xs) (sl.filter _).length_le
theorem jR.symm{x y:De}(h:jR x y):jR y x:=⟨λe=>h.1 e.symm,λp q e1 e2 e=>h.2.1 q p e2 e1 e.symm,λa b e=>h.2.2.1 b a ⟨e.1.symm,e.2.symm⟩,λa b e=>h.2.2.2.1 b a ⟨e.1.symm,e.2.symm⟩,λa b e=>h.2.2.2.2 b a e.symm⟩
structure Dr (np nr nh:Nat) (xs:List De):Prop where
 it:∀x∈xs,lI x
 pw:xs.Pairwise jR
 ln:xs.length<=20
 cP:(aI xs).length<=np
 cR:(xs.filter De.isR).length<=nr
 cH:(xs.filter De.isH).length<=nh
theorem Dr.of{xs:List De}(it:∀x∈xs,lI x)(pw:xs.Pairwise jR)(sl:(xs.map De.w).Sublist hZ):Dr 5 5 3 xs/\xs.length<=19:=by
 have ln:xs.length<=19:=by have:=sl.length_le;rwa [Oe] at this
 have pl:(aI xs).length<=5:=by
  have h1:=yH (f:=fH λ_=>true) sl (n:=5) (s:=Od "paper") VB (λx hx=>by cases x with | pap p=>rfl | oth=>cases hx);have h2:=congrArg S9 (rK (f:=λ_=>true) xs);rw [fZ,Oe,Oe] at h2;omega
 refine⟨⟨it,pw,VD,pl,?_,?_⟩,ln⟩
 ·exact yH sl (s:=Od "rule") VB (λx hx=>by cases x with | pap p=>cases hx | oth w d nm r=>exact eq_of_beq hx)
 ·exact yH sl (s:=Od "happens") VB (λx hx=>by cases x with | pap p=>cases hx | oth w d nm r=>exact eq_of_beq hx)
theorem Dr.perm{np nr nh:Nat}{xs ys:List De}(d:Dr np nr nh xs)(h:ys.Perm xs):Dr np nr nh ys:=
 ⟨λx hx=>d.it x (h.mem_iff.mp hx),(h.pairwise_iff λz=>z.symm).mpr d.pw,by rw [h.length_eq];exact d.ln,by unfold aI;rw [(h.filterMap _).length_eq];exact d.cP,by rw [(h.filter _).length_eq];exact d.cR,by rw [(h.filter _).length_eq];exact d.cH⟩
theorem Dr.good{np nr nh:Nat}{xs:List De}(h:Dr np nr nh xs):gf xs:=by
 have it:=h.it;have pw:=h.pw;have ln:=h.ln;clear h;have pg:∀p∈aI xs,lI (.pap p):=λp hp=>it _ (xK.mp hp);have pl:(aI xs).length<=xs.length:=TL De.pp xs;have two:∀{A:De->De->Prop},(∀x y,jR x y->¬A x y)->(∀x y,A x y->A y x)->∀x∈xs,∀y∈xs,A x y->x=y:=λ{A} h sy x hx y hy a=>by
  clear it pg pl ln
  induction xs with
  | nil=>cases hx
  | cons z xs ih=>
   rw [P5] at pw;rcases Ox.mp hx with e1 | h1
   ·rcases Ox.mp hy with e2 | h2
    ·rw [e1,e2]
    ·exact absurd (by rw [<-e1];exact a) (h z y (pw.1 y h2))
   ·rcases Ox.mp hy with e2 | h2
    ·exact absurd (by rw [<-e2];exact sy _ _ a) (h z x (pw.1 x h1))
    ·exact ih pw.2 h1 h2
 refine⟨⟨⟨⟨VD,?_,λp hp=>(pg p hp).nm,λp hp=>((pg p hp).pp p rfl).1,λp hp=>((pg p hp).pp p rfl).2⟩,λw d nm r h=>(it _ h).np w d nm r rfl,VD,λx hx=>(it x hx).w,λx hx=>(it x hx).nm⟩,λd nm r h=>(it _ h).hp d nm r rfl,λd nm r h=>(it _ h).ru d nm r rfl,pw.imp λh=>h.1,λx hx=>(it x hx).d0,λx hx y hy a1 a2 a3 a4=>?_⟩,λd nm r h=>(it _ h).ho d nm r rfl,λd nm r h=>(it _ h).le d nm r rfl,λx hx y hy a1 a2 a3 a4=>?_,λx hx y hy a1 a2 a3=>?_⟩
 ·rw [SX,PK];refine pw.filterMap De.pp λa b h p hp q hq=>?_;cases a with
  | oth=>cases hp
  | pap p'=>
   cases b with
   | oth=>cases hq
   | pap q'=>cases hp;cases hq;exact h.2.1 _ _ rfl rfl
 ·exact two (A:=λx y=>x.isE=true/\y.isE=true/\x.d=y.d/\x.nm=y.nm) (λx y h a=>h.2.2.1 a.1 a.2.1 a.2.2) (λx y a=>⟨a.2.1,a.1,a.2.2.1.symm,a.2.2.2.symm⟩) x hx y hy ⟨a1,a2,a3,a4⟩
 ·exact two (A:=λx y=>x.isL=true/\y.isL=true/\x.d=y.d/\x.nm=y.nm) (λx y h a=>h.2.2.2.1 a.1 a.2.1 a.2.2) (λx y a=>⟨a.2.1,a.1,a.2.2.1.symm,a.2.2.2.symm⟩) x hx y hy ⟨a1,a2,a3,a4⟩
 ·exact two (A:=λx y=>x.w=Od "leave"/\y.w=Od "leave"/\x.nm=y.nm) (λx y h a=>h.2.2.2.2 a.1 a.2.1 a.2.2) (λx y a=>⟨a.2.1,a.1,a.2.2.symm⟩) x hx y hy ⟨a1,a2,a3⟩
theorem NP(l:List (Int×Str)):(jH l).length<=l.length:=by
 unfold jH;split
 ·rename_i h;exact Uu h.choose_spec.1.length_eq
 ·exact Pc _
theorem ED{α:Type}{p q:α->Bool}(h:∀x,p x=true->q x=true):∀xs:List α,(xs.filter p).length+((xs.filter λx=>!p x).filter q).length<=(xs.filter q).length
 | []=>Oi _
 | x::xs=>by
  have ih:=ED h xs;by_cases hp:p x=true
  ·rw [Pb,VF hp,Pb,VE (by rw [hp];exact Ot),Pb,VF (h x hp),OC,OC];omega
  ·rw [Pb,VE hp,Pb,VF (by rw [QA] at hp;rw [hp];rfl),Pb,Pb];by_cases hq:q x=true
   ·rw [VF hq,VF hq,OC,OC];omega
   ·rw [VE hq,VE hq];exact ih
theorem yI{nm:Str}{x:De}(h:dP nm x=true):x.isH=true/\x.nm=nm:=by
 cases x with
 | pap p=>cases h
 | oth w d n r=>
  simp only [dP,Pz,beq_iff_eq] at h;exact⟨by simp [De.isH,h.1],h.2⟩
theorem EF:∀{nms:List Str},nms.Nodup->∀xs:List De,(nms.map λnm=>(xs.filter (dP nm)).length).sum<=(xs.filter De.isH).length
 | [],_,_=>Pc _
 | nm::nms,nd,xs=>by
  rw [P6] at nd;have ih:=EF nd.2 (xs.filter λx=>!dP nm x);have sp:=ED (p:=dP nm) (q:=De.isH) (λx h=>(yI h).1) xs;have e:(nms.map λnm'=>((xs.filter λx=>!dP nm x).filter (dP nm')).length)=nms.map λnm'=>(xs.filter (dP nm')).length:=by
   refine Q6 λnm' hn=>?_;rw [UD];congr 2;funext x;by_cases h:dP nm' x=true
   ·have h2:dP nm x=false:=by
     rw [<-QA];intro z;exact nd.1 (by rw [<-(yI z).2,(yI h).2];exact hn)
    rw [h,h2];rfl
   ·rw [QA] at h;rw [h];rfl
  rw [e] at ih;rw [Ol,Ru];omega
theorem tE{α β:Type}{f:α->List β}{g:α->Nat}:∀{l:List α},(∀x∈l,(f x).length<=g x)->(l.flatMap f).length<=(l.map g).sum
 | [],_=>Pc _
 | x::l,h=>by
  have ih:=tE (f:=f) (g:=g) (l:=l) λy hy=>h y (OT _ hy);have h1:=h x Pa;rw [Tt,OG,Ol,Ru];omega
theorem EG{α:Type}:∀l:List α,(l.map λ_=>1).sum=l.length
 | []=>rfl
 | _::l=>by rw [Ol,Ru,EG l,OC];omega
theorem NQ{np nr nh:Nat}{xs:List De}(h:Dr np nr nh xs)(kd:Str)(s:cc)(k:Int)(u:Str):(hW (dX xs) kd s k u).length<=max np nh:=by
 have rl:(dX xs).length=(aI xs).length:=by unfold dX;rw [Oe,fG]
 have c1:=h.cP;have c3:=h.cH;have hap:∀wd:Str,((dX xs).map λr=>(eF r.hs wd).length).sum<=nh:=λwd=>by
  have nd:((bE (aI xs)).map (·.nm)).Nodup:=((iG _).map _).nodup_iff.mpr h.good.gd.gx.gp.nd;have hs:=EF nd xs;have le:((dX xs).map λr=>(eF r.hs wd).length).sum<=(((bE (aI xs)).map (·.nm)).map λnm=>(xs.filter (dP nm)).length).sum:=by
   unfold dX;rw [OI,OI];generalize bE (aI xs)=cs
   induction cs with
   | nil=>exact Oi _
   | cons c cs ih=>
    rw [Ol,Ol,Ru,Ru];have h1:(eF (gb xs c).hs wd).length<=(xs.filter (dP c.nm)).length:=by
     unfold eF;rw [Oe];refine O7 (O8 _ _) (O7 (NP _) ?_);unfold fk;rw [Oe];exact Oi _
    exact Nat.add_le_add h1 ih
  omega
 unfold hW;cases s with
 | com=>
  have:=tE (f:=λr:Rp=>if (r.c.kd==kd)=true then(qq r .com).map λb=>jJ b k u else []) (g:=λ_=>1) (l:=dX xs) (λr _=>by
   split
   ·rw [Oe];exact Oi _
   ·exact Pc _)
  rw [EG] at this;omega
 | fst wd=>
  have:=tE (f:=λr:Rp=>if (r.c.kd==kd)=true then(qq r (.fst wd)).map λb=>jJ b k u else []) (g:=λr=>(eF r.hs wd).length) (l:=dX xs) (λr _=>by
   split
   ·rw [Oe];show((eF r.hs wd).take 1).length<=_;rw [Pf];omega
   ·exact Pc _)
  have:=hap wd;omega
 | lst wd=>
  have:=tE (f:=λr:Rp=>if (r.c.kd==kd)=true then(qq r (.lst wd)).map λb=>jJ b k u else []) (g:=λr=>(eF r.hs wd).length) (l:=dX xs) (λr _=>by
   split
   ·rw [Oe];exact Oi _
   ·exact Pc _)
  have:=hap wd;omega
theorem NR{np nr nh:Nat}{xs:List De}(h:Dr np nr nh xs){x:De}(hx:x∈xs):(cL xs x).length<=if x.isR=true then max np nh else 0:=by
 by_cases e:cL xs x=[]
 ·rw [e];exact Pc _
 ·have hr:x.isR=true:=by
   rw [<-Tu];exact λz=>e (ya z)
  rw [VF hr];cases x with
  | pap p=>cases hr
  | oth wo d nm r=>
   have hw:wo=Od "rule":=eq_of_beq hr;subst hw;obtain⟨pt,rfl,ok⟩:=(h.it _ hx).ru d nm r rfl;cases pt with
   | two w2 kd=>exact absurd (Df _ _ _ _ _ _) e
   | five w2 kd s k u=>
    rw [Dd];exact NQ h kd s k u
theorem EH(m:Nat):∀xs:List De,(xs.map λx=>if x.isR=true then m else 0).sum=m*(xs.filter De.isR).length
 | []=>rfl
 | x::xs=>by
  rw [Ol,Ru,EH m xs,Pb];split
  ·rw [OC,Vn];omega
  ·omega
theorem Dr.few{np nr nh:Nat}{xs:List De}(h:Dr np nr nh xs)(hn:20+max np nh*nr < 64):qt xs:=by
 have fb:=tE (f:=cL xs) (l:=xs) λx hx=>NR h hx;rw [EH] at fb;have ln:=h.ln;have mm:=Um (max np nh) h.cR;have tl:(jL xs).length < 64:=by
  unfold jL;rw [OG,Oe];omega
 exact⟨VD,jL xs,tl,λz hz=>hz⟩
def NS:List VI->(VI->Prop)->Prop:=λds Q=>∃(ns:List Int)(k:Int)(f:Bool),ds=[fN (ns.map .int),.int k,.bool f]/\0<=k/\k<=100/\∀xs,Dr 5 5 3 xs->xs.length<=19->Q (.tuple (xs.map De.enc))
def NT(ns:List Int)(k:Int)(f:Bool)(hd:List Int)(n0 n1 n2 n3 n4 n5 n6:Str)(i:Nat)(δ:Dl):Prop:=∃(xs:List De)(o6 o7 o8 o9:Option Sl),(xs.map De.w).Sublist (hZ.take i)/\(∀x∈xs,lI x)/\xs.Pairwise jR/\δ=[some (Sl.v (fN (ns.map .int))),some (Sl.v (.int k)),some (Sl.v (.bool f)),some (Sl.v (.list (hd.map .int))),some (Sl.v (yG n0 n1 n2 n3 n4 n5 n6)),some (Sl.o (xs.map De.enc)),o6,o7,o8,o9,none]
theorem NU(T:Txt K mg t):aD P w K mg base CX0 4 t.a_AH t.d_AH ["_law_script","_law_at","_law_far_here"] (aW K NS):=by
 have G_v:=@yC P w _ _ base _ T;have G_w:=@yD P w _ _ base _ T;have G_AF:=@ND P w _ _ base _ T;have G_AG:=@NG P w _ _ base _ T;have G_AE:=@NN P w _ _ base _ T;have G_AD:=@NB P w _ _ base _ T;refine T.F_AH.okD lr (λds Q h=>?_) (λ_ _ _ _ H O ds Q E hr h=>?_)
 ·obtain⟨ns,k,f,rfl,_⟩:=h;rfl
 ·obtain⟨ns,k,f,rfl,k0,k1,q⟩:=h;refine'⟨_,?A,?B⟩
  case A=>
   refine' aq ?C ?D
   case C=>exact(bt (i:=3) lr.nd rfl VG (PE.imp (aH G_w (hr.mono VC) rfl T.m_w T.F_w.kp T.b_w .nil aB (aa (PE.imp (aH G_v (hr.mono VC) rfl T.m_v T.F_v.kp T.b_v .nil aB (aa (dv 0) (aa (dv 1) ao))) aR) (aa af ao))) aR))
   case' D=>refine' aq ?E ?F
   case E=>exact(bt (i:=4) lr.nd rfl VG (PE.imp (aH G_AF (hr.mono VC) rfl T.m_AF T.F_AF.kp T.b_AF .nil aB (aa (aj aX bb (df (dv 3)) (df af)) ao)) aR))
   case' F=>refine' aq (iZ (i:=5) lr.nd rfl VG (cn ao)) ?G
   case' G=>refine' aq ?H ?I
   case H=>
    refine' JT Pk rfl rfl T.n_enumerate (aa (PE.imp (Gb G_AG (hr.mono VC) rfl T.m_AG T.F_AG.kp T.b_AG .nil aB) Hz) ao) ?J (gB (b7 aN (b7 aN gA))) ?K
    case J=>exact(gj (n:=2) rfl (b0 (aM (i:=6) lr.nd rfl VG) (b0 (aM (i:=7) lr.nd rfl VG) gi)))
    case' K=>refine' aq ?L ?M
    case L=>
     refine' bt (i:=8) lr.nd rfl VG ?N (hs:=qZ)
     case N=>exact(PE.imp (aH G_w (hr.mono VC) rfl T.m_w T.F_w.kp T.b_w .nil aB (aa (PE.imp (aH G_v (hr.mono VC) rfl T.m_v T.F_v.kp T.b_v .nil aB (aa (dv 0) (aa (az bP bZ (df (az bP bZ (df (dv 1)) (df af))) (df (dv 6))) ao))) aR) (aa af ao))) aR)
    case' M=>refine' aq ?O ?P
    case O=>exact(bt (i:=9) lr.nd rfl VG (PE.imp (aH G_AE (hr.mono VC) rfl T.m_AE T.F_AE.kp T.b_AE .nil aB (aa (dv 7) (aa (dv 8) (aa (dv 4) (aa (dv 2) ao))))) aR))
    case' P=>refine' aA ?Q
    case' Q=>refine' bH ?R (aA (lZ (i:=5) (pv 5) (dv 9))) bG
    case R=>exact(PW.pt (fg (aU iS cW (df (az bh aL (df (aj aX bb (df (dv 8)) (df af))) (df af))) (df af) (aE _)) (fc (oJ (fO (PE.imp (bV (Ad rfl) rfl T.n_any Af (bj (df (fe (dU rfl EA (dw 5) aN bO VC (λ_ _ _ _=>(aM (i:=0) EA.nd rfl VG)) (λ_ _ _ _=>dA) (λ_ _ _ _=>(PE.imp (aH G_AD (hr.mono VC) rfl T.m_AD T.F_AD.kp T.b_AD .nil aB (aa (dv 1) (aa (dv 0) ao))) aR))))) bo)) (bD uf)))))))
   case' I=>refine' aq ?S ?T
   case S=>
    refine' bt (i:=10) lr.nd rfl VG ?U (hs:=kh)
    case U=>exact(az bh aL (df (aj aX bb (df (dv 3)) (df af))) (df (az bP bZ (df (PE.imp (bV dj rfl T.n_len Pu (bj (dw 5) bo)) (bD dH))) (df af))))
   case' T=>refine' aA ?V
   case' V=>refine' aT ?W
   case W=>exact(PE.imp (dF gr rfl T.n_tuple fy (bj (df (fe (j7 (df (fe (gW (dw 5) (cK (dv 10)) i7))) (df (fe (gW (dw 5) i7 (cK (dv 10)))))))) bo)) (bD gC))
  case B=>
  clear hr T G_v G_w G_AF G_AG G_AE G_AD;walk_at "w";refine⟨k0,VD,λc ms ml mn=>?_⟩;obtain⟨a,b,c2,d,rfl⟩:=EB ml;have c20:=(mn c2 VH).1;clear ml mn;refine⟨_,eQ,b,rfl,λn0 n1 n2 n3 n4 n5 n6 nok=>⟨rfl,_,rfl,?_⟩⟩;generalize hE:d4.mk _ _ _ _=EE;have eN:=congrArg d4.nx hE;simp only at eN;clear hE;refine⟨NT ns k f [a,b,c2,d] n0 n1 n2 n3 n4 n5 n6,⟨[],_,_,_,_,List.nil_sublist _,VH,.nil,rfl⟩,?_,?_⟩
  ·rintro i z δ hz ⟨xs,o6,o7,o8,o9,sl,hg,hp,rfl⟩;rw [wN,OD] at hz;cases hz':hZ[i]? with
   | none=>rw [hz'] at hz;cases hz
   | some so=>
    rw [hz'] at hz;cases hz;have hi:i < 19:=(OB.mp hz').1;clear eN;walk_at "w";refine⟨VD,VD,λc1 ys yl yn=>?_⟩;obtain⟨y0,y1,y2,y3,y4,y5,y6,y7,y8,rfl⟩:=NO yl;have y00:=(yn y0 VH).1;clear yl yn;refine⟨so,y0,y1,y2,y3,y4,y5,y6,y7,y8,n0,n1,n2,n3,n4,n5,n6,f,rfl,O4 hz',y00,nok,λx gx hw=>?_⟩;walk_at "w";have ts:hZ.take (i+1)=hZ.take i++[so]:=by rw [Pd,hz'];rfl
    have sl1:(xs.map De.w).Sublist (hZ.take (i+1)):=by rw [ts];exact sl.trans (List.sublist_append_left _ _)
    have xl:xs.length<=19:=by have:=sl1.length_le;rw [Oe,Pf] at this;exact O7 this (TC _ _)
    split
    ·refine⟨by rw [Oe];omega,λi acc=>∃bs:List Bool,acc=bs.map .bool/\bs.length=i/\∀j:Nat,bs[j]?=some false->∀y,xs[j]?=some y->jR x y,⟨[],rfl,rfl,VH⟩,?_,?_⟩
     ·rintro j z acc hz ⟨bs,rfl,bl,hb⟩;rw [OD] at hz;cases hy':xs[j]? with
      | none=>rw [hy'] at hz;cases hz
      | some y=>
       rw [hy'] at hz;cases hz;walk_at "z";refine⟨x,y,rfl,gx,hg y (O4 hy'),λb hb2=>⟨bs++[b],by rw [OO];rfl,by rw [OG,bl];rfl,λn hn y' hy2=>?_⟩⟩;rcases QH n bs.length with h | h
       ·rw [PH h] at hn;exact hb n hn y' hy2
       ·rw [Qf h] at hn;have n0:n - bs.length=0:=by
         rcases UC (n - bs.length) with h0 | h0
         ·exact h0
         ·rw [Qo (by rw [QQ];omega)] at hn;cases hn
        rw [n0] at hn;have ek:n=j:=VD
        rw [ek,hy'] at hy2;cases hy2;exact hb2 (by simpa using hn)
     ·rintro acc ⟨bs,rfl,bl,hb⟩;rw [Oe] at bl;refine⟨bs,rfl,?_⟩;split
      ·rename_i hany;have hno:∀y∈xs,jR x y:=λy hy=>by
        obtain⟨j,hj⟩:=Ui hy;have jl:j < bs.length:=by rw [bl];exact(OB.mp hj).1
        refine hb j ?_ y hj;have:bs[j]=false:=by simpa using UI.mp hany bs[j] (Qr jl)
        rw [OW jl,this]
       refine⟨by rw [Oe];omega,xs++[x],_,_,_,_,?_,λy hy=>?_,SW.mpr ⟨hp,TY _ _,λu hu v hv=>?_⟩,by rw [OO];rfl⟩
       ·rw [ts,OO,Ol,Pw,hw];exact sl.append (List.Sublist.refl _)
       ·rcases ON.mp hy with h | h
        ·exact hg y h
        ·rw [OS] at h;rw [h];exact gx
       ·rw [OS] at hv;rw [hv];exact(hno u hu).symm
      ·exact⟨xs,_,_,_,_,sl1,hg,hp,rfl⟩
    ·exact⟨xs,_,_,_,_,sl1,hg,hp,rfl⟩
  ·rintro δ ⟨xs,o6,o7,o8,o9,sl,hg,hp,rfl⟩;rw [<-eN];clear eN;walk_at "z";rw [wM,Oe,OZ (Oi _)] at sl;have lm:(Pn De.enc xs).length=xs.length:=Oe _;have xl:xs.length<=19:=by have:=sl.length_le;rwa [Oe] at this
   refine⟨VD,?_⟩;generalize htn:c2 % (((Pn De.enc xs).length:Int)+1)=tn;have t0:0<=tn:=by rw [<-htn];exact Rt _ VD
   have t1:tn < ((Pn De.enc xs).length:Int)+1:=by rw [<-htn];exact QT _ VD
   rw [v7 t0 VD,v5 t0 VD];refine⟨by rw [Q8,Pf];omega,?_⟩;rw [<-Uj,<-Se,<-OO];have dr:=Dr.of hg hp sl;have pm:(xs.drop tn.toNat++xs.take tn.toNat).Perm xs:=by
    have:=List.perm_append_comm (l₁:=xs.drop tn.toNat) (l₂:=xs.take tn.toNat)
    rwa [R6] at this
   exact q _ (dr.1.perm pm) (by rw [pm.length_eq];exact dr.2)
end
theorem EI:bq (ag iE) ["_law_deeds_here"] ["_law_deed_here"] 1 [] ⟨Oq,[(Of ".0",Xk),(Of "_law_deed_here",Xk)],false,false,[]⟩:=⟨rfl,VB,VB,VB,rfl,VB,VB,VB,rfl⟩
theorem yJ:bq (ag iE) ["_law_deeds_here"] ["_law_day_here","_law_name"] 2 [] ⟨Oq,[ (Of ".0",Xk),(Of "_law_day_here",Xk),(Of "_law_name",Xk)],false,false,[]⟩:=⟨rfl,VB,VB,VB,rfl,VB,VB,VB,rfl⟩
theorem EJ:bq (ag jF) ["_law_found","_law_due"] ["_law_k","_law_found","_law_due"] 1 [0,1] ⟨Oq,[ (Of ".0",Xk),(Of "_law_k",Xk),(Of "_law_is",OQ),(Of "_law_due",OA),(Of "_law_found",OA)],false,false,[]⟩:=⟨rfl,VB,VB,VB,rfl,VB,VB,VB,rfl⟩
theorem EK:bq (ag iF) ["_law_deeds_here","_law_rows","_law_day_here","_law_gone","_law_name","_law_at","_law_leave","_law_some"] ["_law_name","_law_day_here","_law_deeds_here"] 1 [2,0] ⟨Oq,[ (Of ".0",Xk),(Of "_law_name",Xk),(Of "_law_row",OQ),(Of "_law_day_here",OA),(Of "_law_deeds_here",OA)],false,false,[]⟩:=⟨rfl,VB,VB,VB,rfl,VB,VB,VB,rfl⟩
theorem EL:bq (ag iF) ["_law_deeds_here","_law_rows","_law_day_here","_law_gone","_law_name","_law_at","_law_leave","_law_some"] ["_law_name","_law_day_here","_law_gone"] 1 [2,3] ⟨Oq,[ (Of ".0",Xk),(Of "_law_name",Xk),(Of "_law_day_here",OA),(Of "_law_gone",OA)],false,false,[]⟩:=⟨rfl,VB,VB,VB,rfl,VB,VB,VB,rfl⟩
theorem EM:bq (ag gE) ["_law_script","_law_deeds_here","_law_other","_law_xs","_law_rows","_law_others","_law_days","_law_asked","_law_day_here"] ["_law_deed_here"] 1 [] ⟨Oq,[(Of ".0",Xk),(Of "_law_deed_here",Xk)],false,false,[]⟩:=⟨rfl,VB,VB,VB,rfl,VB,VB,VB,rfl⟩
theorem EN:bq (ag gE) ["_law_script","_law_deeds_here","_law_other","_law_xs","_law_rows","_law_others","_law_days","_law_asked","_law_day_here"] ["_law_row_here"] 1 [] ⟨Oq,[(Of ".0",Xk),(Of "_law_row_here",Xk)],false,false,[]⟩:=⟨rfl,VB,VB,VB,rfl,VB,VB,VB,rfl⟩
theorem EO:bq (ag gE) ["_law_script","_law_deeds_here","_law_other","_law_xs","_law_rows","_law_others","_law_days","_law_asked","_law_day_here"] ["_law_k","_law_days","_law_xs"] 1 [6,3] ⟨Oq,[ (Of ".0",Xk),(Of "_law_k",Xk),(Of "max",OQ),(Of "len",OQ),(Of "_law_days",OA),(Of "_law_xs",OA)],false,false,[]⟩:=⟨rfl,VB,VB,VB,rfl,VB,VB,VB,rfl⟩
theorem ER:bq (ag gE) ["_law_script","_law_deeds_here","_law_other","_law_xs","_law_rows","_law_others","_law_days","_law_asked","_law_day_here"] ["_law_day_here","_law_other","_law_others"] 1 [2,5] ⟨Oq,[ (Of ".0",Xk),(Of "_law_day_here",Xk),(Of "_law_is",OQ),(Of "there",OQ),(Of "_law_there",OQ),(Of "_law_other",OA),(Of "_law_others",OA)],false,false,[]⟩:=⟨rfl,VB,VB,VB,rfl,VB,VB,VB,rfl⟩
section
variable {P:VW} {w:VX} {K:Og} {mg:Str->Option VJ} {base:VY} {t:cz}
theorem NV(T:Txt K mg t):aD P w K mg base CX0 1 t.a_AI t.d_AI ["_law_deeds_here","_law_name"] (aW K Cv):=by
 refine T.F_AI.okD B9 (λds Q h=>?_) (λ_ _ _ _ H O ds Q E hr h=>?_)
 ·obtain⟨ps,c,rfl,_⟩:=h;rfl
 ·obtain⟨xs,c,rfl,gd,hc,q⟩:=h;refine'⟨_,?A,?B⟩
  case A=>
   refine' aq ?C ?D
   case C=>
    refine' mw Pk rfl (dv 0) (aM (i:=2) B9.nd rfl VG) aN ?E
    case' E=>refine' aA ?F
    case' F=>refine' bH ?G (aA (aT (dv 2))) bG
    case G=>exact(PW.pt (fg (aU (cD hr) cE (df (aj aF aJ (df (dv 2)) (df af))) (df bg) (aE _)) (fc (aU (cx hr.units) cy (df (aj aF aJ (df (dv 2)) (df af))) (df (dv 1)) (aE _)))))
   case D=>refine' aA (aT d5)
  case B=>
  clear hr T;walk_at "z";refine⟨λi δ=>(∀x∈aI (xs.take i),x.nm≠c.nm)/\∃o2,δ=[some (Sl.v (.tuple (xs.map De.enc))),some (Sl.v (.str c.nm)),o2],⟨by simp [aI],_,rfl⟩,?_,?_⟩
  ·rintro i z δ hz ⟨hn,o2,rfl⟩;rw [OD] at hz;cases hz':xs[i]? with
   | none=>rw [hz'] at hz;cases hz
   | some x=>
    rw [hz'] at hz;cases hz;have hx:=O4 hz';cases x with
    | pap p=>
     simp only [De.enc,Pp.enc];walk_at "z";refine⟨cJ.mpr (gd.nm _ hx),cJ.mpr (gd.gp.nm c hc),?_⟩;split
     ·rename_i h;have e:=Co gd.gp.nd (xK.mpr hx) hc (eq_of_beq h);subst e;exact q
     ·rename_i h;refine⟨λy hy=>?_,_,rfl⟩;rw [Pd,hz'] at hy;unfold aI at hy;rw [R9] at hy;rcases ON.mp hy with z | z
      ·exact hn y z
      ·have:y=p:=by simpa [De.pp] using z
       rw [this];exact λe=>h (by rw [e];exact beq_self_eq_true _)
    | oth w d nm r=>
     simp only [De.enc];walk_at "z";rw [bS (gd.np w d nm r hx),VE Ot];refine⟨λy hy=>?_,_,rfl⟩;rw [Pd,hz'] at hy;unfold aI at hy;rw [R9] at hy;rcases ON.mp hy with z | z
     ·exact hn y z
     ·simp [De.pp] at z
  ·rintro δ ⟨hn,o2,rfl⟩;rw [Oe,OZ (Oi _)] at hn;exact absurd rfl (hn c hc)
def NW:List VI->(VI->Prop)->Prop:=λds Q=>∃xs:List De,ds=[.tuple (xs.map De.enc)]/\iH xs/\Q (.list (((bE (aI xs)).map (·.nm)).map .str))
theorem yK:∀xs:List De,(xs.filter (fH λ_=>true)).map (λx=>cq (x.d,x.nm))=((aI xs).map Pp.key).map cq
 | []=>rfl
 | .pap p::xs=>by
  have ih:=yK xs;rw [Pb,VF (show fH (λ_=>true) (.pap p)=true from rfl),Ol,ih];rfl
 | .oth w d nm r::xs=>by
  have ih:=yK xs;rw [Pb,VE (show ¬fH (λ_=>true) (.oth w d nm r)=true from Ot),ih];rfl
theorem NY(T:Txt K mg t):aD P w K mg base CX0 1 t.a_AJ t.d_AJ ["_law_deeds_here"] (aW K NW):=by
 refine T.F_AJ.okD KN (λds Q h=>?_) (λ_ _ _ _ H O ds Q E hr h=>?_)
 ·obtain⟨xs,rfl,_⟩:=h;rfl
 ·obtain⟨xs,rfl,gd,q⟩:=h;refine'⟨_,?A,?B⟩
  case A=>
   refine' aA ?C
   case' C=>refine' aT ?D
   case' D=>refine' fe ?E
   case E=>exact(dU rfl yJ (df (fe (Bn rfl T.n_sorted Qp (bj (df (fe (i6 rfl EI (df (dv 0)) aN bO VC (λ_ _ _ _=>(aM (i:=0) EI.nd rfl VG)) (λ_ _ _ _=>(cU (aU (cD hr) cE (df (aj aF aJ (df (dv 0)) (df af))) (df bg) (aE _)))) (λ_ _ _ _=>(bN (aa (aj aF aJ (df (dv 0)) (df af)) (aa (aj aF aJ (df (dv 0)) (df af)) ao))))))) bo)))) (gB (b7 aN (b7 aN gA))) uH VC (λ_ _ _ _=>(gj (n:=2) rfl (b0 (aM (i:=0) yJ.nd rfl VG) (b0 (aM (i:=1) yJ.nd rfl VG) gi)))) (λ_ _ _ _=>dA) (λ_ _ _ _=>(dv 1)))
  case B=>
  clear hr T;have ln:=gd.ln;have pl:=gd.gp.ln;walk_at "z";refine⟨by rw [Oe];omega,iI (fH λ_=>true) (λx:De=>cq (x.d,x.nm)) (λx hx R S h1 h0=>?_) ?_⟩
  ·cases x with
   | pap p=>
    simp only [De.enc,Pp.enc];walk_at "z";exact h1 rfl
   | oth w d nm r=>
    simp only [De.enc];walk_at "z";rw [bS (gd.np w d nm r hx),VE Ot];exact h0 rfl
  ·rw [yK];refine⟨(aI xs).map Pp.key,rfl,by rw [Oe];omega,xP gd.gp.nd,λps' h1 h2=>?_⟩;rw [Lb gd.gp.nd h1 h2];refine⟨by rw [Oe,Oe,fG];omega,iI (λ_=>true) (λx=>.str x.2) (λx hx R S h _=>?_) ?_⟩
   ·simp only [cq];walk_at "z";exact h rfl
   ·rw [fZ,OI];rw [OI] at q;exact q
def NZ:List VI->(VI->Prop)->Prop:=λds Q=>∃s:Str,ds=[.str s,.str s]/\Om s=true/\Q (.bool true)
def ES:List VI->(VI->Prop)->Prop:=λds Q=>∃ss:List Str,ds=[.tuple (ss.map .str),.tuple (ss.map .str)]/\(∀s∈ss,Om s=true)/\ss.length<=1000/\Q (.bool true)
theorem N0{k:Nat}{f:VM}{fd:VU}{ps:List Str}:aD P w K mg base CX0 k f fd ps (aW K λ_ _=>False):=⟨λvs H Q E uu74=>by obtain⟨_,_,_,_,_,h,_⟩:=uu74;exact h.elim,λ_ _ _ _ _ _ _ _ _ _ _ _ _ uu75=>by obtain⟨_,_,_,_,_,h,_⟩:=uu75;exact h.elim⟩
theorem ET{d:Nat}{F:List VI->(VI->Prop)->Prop}(T:Txt K mg t)(G_AK:aD P w K mg base CX0 d t.a_AK t.d_AK ["_law_found","_law_due"] (aW K F)):
 aD P w K mg base CX0 (d+1) t.a_AK t.d_AK ["_law_found","_law_due"] (aW K λds Q=>∃x,ds=[x,x]/\((∃s,x= .str s/\Om s=true)\/∃xs,x= .tuple xs/\xs.length<=1000/\∀y∈xs,∀R:VI->Prop,R (.bool true)->F [y,y] R)/\Q (.bool true)):=by
 refine T.F_AK.okD KO (λds Q h=>?_) (λ_ _ _ _ H O ds Q E hr h=>?_)
 ·obtain⟨x,rfl,_⟩:=h;rfl
 ·obtain⟨x,rfl,hx,q⟩:=h;refine'⟨_,?A,?B⟩
  case A=>
   refine' aq ?C ?D
   case C=>
    refine' bH (fO (nO (K':=K) (T:="tuple") rfl rfl T.n_isinstance lM (df (dv 1)) (lJ (v:= .ty "tuple") rfl T.n_tuple fy rfl))) ?E bG
    case' E=>refine' aq ?F ?G
    case F=>
     refine' bH ?H ?I bG
     case H=>exact(PW.pt (qO (oJ (fO (nO (K':=K) (T:="tuple") rfl rfl T.n_isinstance lM (df (dv 0)) (lJ (v:= .ty "tuple") rfl T.n_tuple fy rfl)))) (qN (aU (Hs hr.units) Ht (df (PE.imp (bV dj rfl T.n_len Pu (bj (df (dv 0)) bo)) (bD dH))) (df (PE.imp (bV dj rfl T.n_len Pu (bj (df (dv 1)) bo)) (bD dH))) (aE _)))))
     case I=>refine' aA (aT vY)
    case' G=>refine' aA ?J
    case' J=>refine' aT ?K
    case K=>exact(PE.imp (bV (Ac rfl) rfl T.n_all Ae (bj (df (fe (vZ rfl EJ rfl T.n_range (bj (df (PE.imp (bV dj rfl T.n_len Pu (bj (df (dv 1)) bo)) (bD dH))) bo) aN bO VC (λ_ _ _ _=>(aM (i:=0) EJ.nd rfl VG)) (λ_ _ _ _=>dA) (λ_ _ _ _=>(PE.imp (aH G_AK (hr.mono (Oi _)) rfl T.m_AK T.F_AK.kp T.b_AK .nil aB (aa (aj aF aJ (df (dv 1)) (df (dv 0))) (aa (aj aF aJ (df (dv 2)) (df (dv 0))) ao))) aR))))) bo)) (bD uf))
   case' D=>refine' aq ?L ?M
   case L=>
    exact bH (aU lK nz (df (dv 1)) (df d5) (aE _)) (aA (aT (cO lK nz (df (dv 0)) (df d5) (aE _)))) bG
   case' M=>refine' aq ?N ?O
   case N=>
    refine' bH (fO (nO (K':=K) (T:="bool") rfl rfl T.n_isinstance lM (df (dv 1)) (lJ (v:= .ty "bool") rfl T.n_bool vU rfl))) ?P bG
    case' P=>refine' aA ?Q
    case' Q=>refine' aT ?R
    case R=>exact(j0 (nO (K':=K) (T:="bool") rfl rfl T.n_isinstance lM (df (dv 0)) (lJ (v:= .ty "bool") rfl T.n_bool vU rfl)) (lV (cO (cx hr.units) cy (df (dv 0)) (df (dv 1)) (aE _))))
   case' O=>refine' aq ?S ?T
   case S=>
    refine' bH (fO (nO (K':=K) (T:="int") rfl rfl T.n_isinstance lM (df (dv 1)) (lJ (v:= .ty "int") rfl T.n_int oI rfl))) ?U bG
    case' U=>refine' aA ?V
    case' V=>refine' aT ?W
    case W=>exact(j0 (nO (K':=K) (T:="int") rfl rfl T.n_isinstance lM (df (dv 0)) (lJ (v:= .ty "int") rfl T.n_int oI rfl)) (j0 (Ho (nO (K':=K) (T:="bool") rfl rfl T.n_isinstance lM (df (dv 0)) (lJ (v:= .ty "bool") rfl T.n_bool vU rfl))) (lV (cO (cx hr.units) cy (df (dv 0)) (df (dv 1)) (aE _)))))
   case' T=>refine' aA ?X
   case' X=>refine' aT ?Y
   case Y=>exact(j0 (nO (K':=K) (T:="str") rfl rfl T.n_isinstance lM (df (dv 0)) (lJ (v:= .ty "str") rfl T.n_str Hb rfl)) (lV (cO (cx hr.units) cy (df (dv 0)) (df (dv 1)) (aE _))))
  case B=>
  clear hr T G_AK;walk_at "z";simp only [Iw,Iu,Ir,Iq];rcases hx with⟨z,rfl,hz⟩ | ⟨xs,rfl,hl,hF⟩
  ·simpa [wq,dN,AV,AU,AS,d8,cJ.mpr hz] using q
  ·simp only [wq];walk_at "z";refine⟨VH,VH,VD,VD,AX (p:=λb=>Q (.bool b)) (λ_=>true) (λx hx R hR=>?_) ?_⟩
   ·obtain⟨i,hi⟩:=Ui hx;obtain⟨hlt,rfl⟩:=qU hi;have hj:i < xs.length:=VD
    have ha:atI xs (0+(i:Int))=some xs[i]:=by rw [Int.zero_add];exact fM (by simp [hj])
    walk_at "z";exact⟨xs[i],ha,xs[i],ha,hF _ (Qr hj) R hR⟩
   ·have e:∀l:List VI,((l.map λ_=>true).all id)=true:=λl=>by rw [Vo];exact Q9.mpr λ_ _=>rfl
    rw [e];exact q
theorem N1(T:Txt K mg t):aD P w K mg base CX0 18 t.a_AK t.d_AK ["_law_found","_law_due"] (aW K NZ):=
 (ET T (d:=17) N0).imp λvs H Q E uu76=>by obtain⟨O,ds,Qd,a,b,⟨i,e,hi,q⟩,k⟩:=uu76;exact⟨O,ds,Qd,a,b,⟨.str i,e,.inl ⟨i,rfl,hi⟩,q⟩,k⟩
theorem N2(T:Txt K mg t):aD P w K mg base CX0 19 t.a_AK t.d_AK ["_law_found","_law_due"] (aW K ES):=
 (ET T (N1 T)).imp λvs H Q E uu77=>by obtain⟨O,ds,Qd,a,b,⟨ns,e,hs,hl,q⟩,k⟩:=uu77;exact⟨O,ds,Qd,a,b,⟨_,e,.inr ⟨_,rfl,by rw [Oe];exact hl,λy hy R hR=>by obtain⟨i,hi,rfl⟩:=OE.mp hy;exact⟨i,rfl,hs i hi,hR⟩⟩,q⟩,k⟩
def N3:List VI->(VI->Prop)->Prop:=λds Q=>∃(ns:List Int)(k:Int),ds=[fN (ns.map .int),.int k]/\0<=k/\k<=100/\∀b:Bool,Q (.bool b)
theorem N4(T:Txt K mg t):aD P w K mg base CX0 2 t.a_AL t.d_AL ["_law_script","_law_at"] (aW K N3):=by
 have G_v:=@yC P w _ _ base _ T;have G_w:=@yD P w _ _ base _ T;refine T.F_AL.okD KP (λds Q h=>?_) (λ_ _ _ _ H O ds Q E hr h=>?_)
 ·obtain⟨ns,k,rfl,_⟩:=h;rfl
 ·obtain⟨ns,k,rfl,k0,k1,q⟩:=h;refine'⟨_,?A,?B⟩
  case A=>
   refine' aA ?C
   case' C=>refine' aT ?D
   case D=>exact(cO (cx hr.units) cy (df (az bh aL (df (aj aX bb (df (PE.imp (aH G_w (hr.mono VC) rfl T.m_w T.F_w.kp T.b_w .nil aB (aa (PE.imp (aH G_v (hr.mono VC) rfl T.m_v T.F_v.kp T.b_v .nil aB (aa (dv 0) (aa (dv 1) ao))) aR) (aa af ao))) aR)) (df af))) (df af))) (df af) (aE _))
  case B=>
  clear hr T G_v G_w;walk_at "w";refine⟨VD,VD,λc ms ml mn=>?_⟩;obtain⟨a0,a1,a2,a3,rfl⟩:=EB ml;walk_at "z";exact q _
def EU:List VI->(VI->Prop)->Prop:=λds Q=>∃(xs:List De)(n:Int),ds=[.tuple (xs.map De.enc),.tuple ((bW xs).map Pl.enc),.int n]/\gf xs/\Q (.tuple ((qD xs n).map .str))
theorem N5(T:Txt K mg t):aD P w K mg base CX0 2 t.a_AM t.d_AM ["_law_deeds_here","_law_rows","_law_day_here"] (aW K EU):=by
 have G_AI:=@NV P w _ _ base _ T;have G_AJ:=@NY P w _ _ base _ T;refine T.F_AM.okD rG (λds Q h=>?_) (λ_ _ _ _ H O ds Q E hr h=>?_)
 ·obtain⟨xs,n,rfl,_⟩:=h;rfl
 ·obtain⟨xs,n,rfl,g,q⟩:=h;refine'⟨_,?A,?B⟩
  case A=>
   refine' aq (uu (i:=3) rG.nd rfl VG ur) ?C
   case' C=>refine' aq ?D ?E
   case D=>
    refine' mw Pk rfl (dv 1) ?F (gB (b7 aN (b7 aN (b7 aN gA)))) (aA (uw (i:=3) hr.units (pv 3) (dv 4) (dv 5)))
    case F=>exact(gj (n:=3) rfl (b0 (aM (i:=4) rG.nd rfl VG) (b0 (aM (i:=5) rG.nd rfl VG) (b0 (aM (i:=6) rG.nd rfl VG) gi))))
   case' E=>refine' aq ?G ?H
   case G=>exact(i9 (i:=7) rG.nd rfl VG (we rfl EK (df (PE.imp (aH G_AJ (hr.mono VC) rfl T.m_AJ T.F_AJ.kp T.b_AJ .nil aB (aa (dv 0) ao)) aR)) aN bO VC (λ_ _ _ _=>(aM (i:=0) EK.nd rfl VG)) (λ_ _ _ _=>(cU (aU jW cW (df (aj aF aJ (df (PE.imp (aH G_AI (hr.mono VC) rfl T.m_AI T.F_AI.kp T.b_AI .nil aB (aa (dv 2) (aa (dv 0) ao))) aR)) (df af))) (df (dv 1)) (aE _)))) (λ_ _ _ _=>(dv 0))))
   case' H=>refine' aA ?I
   case' I=>refine' wF 3 ?J
   case' J=>refine' aT ?K
   case K=>exact(PE.imp (dF gr rfl T.n_tuple fy (bj (df (fe (dU rfl EL (df (dv 7)) aN bO VC (λ_ _ _ _=>(aM (i:=0) EL.nd rfl VG)) (λ_ _ _ _=>(cU (PW.pt (qO (aU lK nz (df (uG hr.units (dv 2) (dv 0) (λ_ _=>rfl))) (df d5) (aE _)) (qN (aU iS cW (df (uG hr.units (dv 2) (dv 0) (λ_ _=>rfl))) (df (dv 1)) (aE _))))))) (λ_ _ _ _=>(dv 0))))) bo)) (bD gC))
  case B=>
  clear hr T G_AI G_AJ;have pl:=yB g;have pp:=g.gd.gx.gp.ln;generalize hE:fP (iW 7 _) _=TB;walk_at "z";refine⟨λi δ=>∃(o4 o5 o6:Option Sl),δ=[some (Sl.v (O5 (Pn De.enc xs))),some (Sl.v (O5 (Pn Pl.enc (bW xs)))),some (Sl.v (OJ n)),some (Sl.k (ft bT (((bW xs).take i).foldl (λm p=>cC m p.nm p.d) []))),o4,o5,o6,none],⟨none,none,none,rfl⟩,?_,?_⟩
  ·rintro i z δ hz ⟨o4,o5,o6,rfl⟩;rw [OD] at hz;cases hz':(bW xs)[i]? with
   | none=>rw [hz'] at hz;cases hz
   | some r=>
    rw [hz'] at hz;cases hz;have ts:((bW xs).take (i+1)).foldl (λm p=>cC m p.nm p.d) []=cC (((bW xs).take i).foldl (λm p=>cC m p.nm p.d) []) r.nm r.d:=by
     rw [Pd,hz',Q2];rfl
    have ml:(((bW xs).take i).foldl (λm p=>cC m p.nm p.d) []).length<=0+((bW xs).take i).length:=vj (λr:Pl=>r.nm) (λr=>r.d) ((bW xs).take i) [];rw [Pf] at ml;clear hE;simp only [ts];generalize ((bW xs).take i).foldl (λm p=>cC m p.nm p.d) []=M at*;simp only [Pl.enc];walk_at "z";refine⟨by unfold ft;rw [Oe];omega,yt bT M r.nm r.d,?_⟩;exact⟨_,rfl⟩
  ·rintro δ ⟨o4,o5,o6,rfl⟩;rw [Oe,OZ (Oi _),show(bW xs).foldl (λm p=>cC m p.nm p.d) []=qB xs from rfl];subst hE;walk_at "z";refine⟨xs,rfl,g.gd.gx,_,rfl,by rw [Oe,Oe,fG];omega,?_⟩;rw [OI];refine cZ (enc:=Oj ∘ λc:Pp=>c.nm) (λc=>decide (c.d<=n)) (λc=>.str c.nm) (λc hc R S h=>?_) ?_
   ·simp only [QC];walk_at "z";refine⟨xs,c,rfl,g.gd.gx,jG.mp hc,?_⟩;refine⟨_,rfl,_,eQ,c.d,rfl,?_⟩;by_cases hd:c.d<=n
    ·rw [VF hd];rw [VF (by simpa using hd)] at h;exact h
    ·rw [VE hd];rw [VE (by simpa using hd)] at h;exact h
   ·have fl:=O8 (λc:Pp=>decide (c.d<=n)) (bE (aI xs));rw [fG] at fl;refine⟨(qB xs).map (·.1),yu _ _,by rw [Oe];omega,?_⟩;rw [yx];exact Ej q
theorem yL{ms:List Int}{m:Nat}{k:Int}(ml:(ms.length:Int)=(m:Int))(h0:0<=k)(h1:k < (m:Int)):∃z,atI (ms.map OJ) k=some (.int z):=by
 obtain⟨v,e,hv⟩:=oH (xs:=ms.map OJ) (i:=k) h0 (by rw [Oe];omega);obtain⟨z,_,rfl⟩:=OE.mp hv;exact⟨z,e⟩
theorem N6{xs:List De}(g:gf xs)(n:Int):(∀s∈qD xs n,Om s=true)/\(qD xs n).length<=1000:=by
 refine⟨λz hz=>?_,?_⟩
 ·obtain⟨c,hc,rfl⟩:=OE.mp (Po.mp hz).1;exact g.gd.gx.gp.nm c (jG.mp (Po.mp hc).1)
 ·have h1:=O8 (λz=>qC n (oA (bW xs) z)) (((bE (aI xs)).filter λc=>decide (c.d<=n)).map (·.nm));have h2:=O8 (λc:Pp=>decide (c.d<=n)) (bE (aI xs));rw [Oe] at h1;rw [fG] at h2;have:=g.gd.gx.gp.ln;unfold qD;omega
def F_AN:List VI->(VI->Prop)->Prop:=λds Q=>∃ns:List Int,ds=[fN (ns.map .int)]/\ns.length<=63/\(∀z∈ns,P9 z<=1048576)/\Q (.bool true)
def sp_law(K:Og):Sp:=aW K F_AN
theorem start_law{K:Og}{H:Hp}{a:VM}{ns:List Int}(hl:ns.length<=63)(hb:∀z∈ns,P9 z<=1048576)(hS:bu K H a (ns.map V.int)):sp_law K [.ref a] H (λv _=>v= .bl true) λ_ _ _=>False:=
 ⟨λ_=>False,[fN (ns.map .int)],λd=>d= .bool true,λ_ z=>z.elim,.cons (.scr (by
  rcases hS with h | h
  ·exact .inl ⟨h,λz=>z⟩
  ·exact .inr (.inr h)) (ak.ints ns)) .nil,⟨ns,rfl,hl,hb,rfl⟩,λd v H' e _ r=>by subst e;cases r;rfl⟩
theorem ok_law(T:Txt K mg t):aD P w K mg base CX0 20 t.a_AN t.d_AN ["_law_script"] (sp_law K):=by
 have G_v:=@yC P w _ _ base _ T;have G_w:=@yD P w _ _ base _ T;have G_AH:=@NU P w _ _ base _ T;have G_AL:=@N4 P w _ _ base _ T;have G_AK:=@N2 P w _ _ base _ T;have G_AM:=@N5 P w _ _ base _ T;have G_s:=@Eg P w _ _ base _ T;have G_u:=@Nf P w _ _ base _ T;refine T.F_AN.okD lx (λds Q h=>?_) (λ_ _ _ _ H O ds Q E hr h=>?_)
 ·obtain⟨ns,rfl,_⟩:=h;rfl
 ·obtain⟨ns,rfl,_,_,q⟩:=h;refine'⟨_,?A,?B⟩
  case A=>
   refine' aq ?C ?D
   case C=>
    refine' bt (i:=1) lx.nd rfl VG ?E (hs:=qZ)
    case E=>exact(PE.imp (aH G_AH (hr.mono VC) rfl T.m_AH T.F_AH.kp T.b_AH .nil aB (aa (dv 0) (aa af (aa (PE.imp (aH G_AL (hr.mono VC) rfl T.m_AL T.F_AL.kp T.b_AL .nil aB (aa (dv 0) (aa af ao))) aR) ao)))) aR)
   case' D=>refine' aq ?F ?G
   case F=>
    refine' bt (i:=2) lx.nd rfl VG ?H (hs:=qZ)
    case H=>exact(PE.imp (aH G_AH (hr.mono VC) rfl T.m_AH T.F_AH.kp T.b_AH .nil aB (aa (dv 0) (aa af (aa (PE.imp (aH G_AL (hr.mono VC) rfl T.m_AL T.F_AL.kp T.b_AL .nil aB (aa (dv 0) (aa af ao))) aR) ao)))) aR)
   case' G=>refine' aq ?I ?J
   case I=>exact(bt (i:=3) lx.nd rfl VG (PE.imp (aH G_w (hr.mono VC) rfl T.m_w T.F_w.kp T.b_w .nil aB (aa (PE.imp (aH G_v (hr.mono VC) rfl T.m_v T.F_v.kp T.b_v .nil aB (aa (dv 0) (aa af ao))) aR) (aa af ao))) aR))
   case' J=>refine' aq ?K ?L
   case K=>exact(Ai (bN (aa (PE.imp (aH G_s (hr.mono VC) rfl T.m_s T.F_s.kp T.b_s .nil aB (aa (dv 1) ao)) aR) (aa (PE.imp (aH G_s (hr.mono VC) rfl T.m_s T.F_s.kp T.b_s .nil aB (aa (dv 2) ao)) aR) ao))) (gj (n:=2) rfl (b0 (aM (i:=4) lx.nd rfl VG) (b0 (aM (i:=5) lx.nd rfl VG) gi))) (gB (b7 aN (b7 aN gA))))
   case' L=>refine' aq ?M ?N
   case M=>
    generalize hG12:SY _ _ _ _=eg12;refine' bt (i:=6) lx.nd rfl VG ?O (hs:=by subst hG12;exact kh)
    case' O=>subst hG12
    refine' fe ?P
    case' P=>refine' j7 (df ?Q) (df (fe (cn (aa af ao))))
    case Q=>
     refine' fe ?R
     case' R=>refine' j7 (df ?S) (df ?T)
     case S=>exact(fe (i6 rfl EM (df (dv 1)) aN bO VC (λ_ _ _ _=>(aM (i:=0) EM.nd rfl VG)) (λ_ _ _ _=>dA) (λ_ _ _ _=>(aj aF aJ (df (dv 0)) (df af)))))
     case' T=>refine' fe ?U
     case U=>exact(i6 rfl EN (df (dv 4)) aN bO VC (λ_ _ _ _=>(aM (i:=0) EN.nd rfl VG)) (λ_ _ _ _=>(cU (aU vG wu (df (aj aF aJ (df (dv 0)) (df af))) (df d5) (aE _)))) (λ_ _ _ _=>(aj aF aJ (df (dv 0)) (df af))))
   case' N=>refine' aq ?V ?W
   case V=>
    generalize hG22:SY _ _ _ _=eg22;refine' bt (i:=7) lx.nd rfl VG ?X (hs:=by subst hG22;exact kh)
    case' X=>subst hG22
    refine' fe ?Y
    case' Y=>refine' j7 (df ?Z) (df ?a)
    case Z=>
     refine' fe ?b
     case b=>exact(vZ rfl EO rfl T.n_range (bj (df af) bo) aN bO VC (λ_ _ _ _=>(aM (i:=0) EO.nd rfl VG)) (λ_ _ _ _=>dA) (λ_ _ _ _=>(PE.imp (bV (zz rfl) rfl T.n_max Uc (bj (df af) (bj (df (az eM bZ (df (az bP bZ (df (aj aX bb (df (dv 1)) (df (az bh aL (df (aj aX bb (df (dv 2)) (df (dv 0)))) (df (PE.imp (bV dj rfl T.n_len Pu (bj (df (dv 1)) bo)) (bD dH))))))) (df (az bh aL (df (az cT aL (df (aj aX bb (df (dv 2)) (df (dv 0)))) (df af))) (df af))))) (df af))) bo))) (bD Al))))
    case' a=>refine' fe ?c
    case' c=>refine' cn ?d
    case d=>exact aa (az bh aL (df (aj aX bb (df (dv 3)) (df af))) (df af)) (aa (az bh aL (df (aj aX bb (df (dv 3)) (df af))) (df af)) ao)
   case' W=>refine' aq ?e ?f
   case e=>
    refine' mr Pk rfl (fe (j7 (df (dv 7)) (df (fe (gW (df (dv 7)) i7 (cK af)))))) (aM (i:=8) lx.nd rfl VG) aN ?g
    case' g=>refine' aA ?h
    case' h=>refine' bH ?i ?j bG
    case i=>exact(oJ (fO (PE.imp (aH G_AK (hr.mono (Oi _)) rfl T.m_AK T.F_AK.kp T.b_AK .nil aB (aa (PE.imp (aH G_u (hr.mono VC) rfl T.m_u T.F_u.kp T.b_u .nil aB (aa (dv 1) (aa (dv 8) ao))) aR) (aa (PE.imp (aH G_AM (hr.mono VC) rfl T.m_AM T.F_AM.kp T.b_AM .nil aB (aa (dv 1) (aa (dv 4) (aa (dv 8) ao)))) aR) ao))) aR)))
    case j=>refine' aA (aT vY)
   case' f=>refine' aA ?k
   case' k=>refine' aT ?l
   case l=>exact(PE.imp (bV (Ac rfl) rfl T.n_all Ae (bj (df (fe (dU rfl ER (df (fe (gW (df (dv 7)) (cK af) i7))) aN bO VC (λ_ _ _ _=>(aM (i:=0) ER.nd rfl VG)) (λ_ _ _ _=>dA) (λ_ _ _ _=>(PE.imp (aH G_AK (hr.mono (Oi _)) rfl T.m_AK T.F_AK.kp T.b_AK .nil aB (aa (PE.imp (aH G_u (hr.mono VC) rfl T.m_u T.F_u.kp T.b_u .nil aB (aa (dv 1) (aa (dv 0) ao))) aR) (aa (PE.imp (aH G_AM (hr.mono VC) rfl T.m_AM T.F_AM.kp T.b_AM .nil aB (aa (dv 1) (aa (dv 2) (aa (dv 0) ao)))) aR) ao))) aR))))) bo)) (bD uf))
  case B=>
  clear hr T G_v G_w G_AH G_AL G_AK G_AM G_s G_u;walk_at "w";refine⟨ns,0,rfl,VC,VC,λb1=>⟨ns,0,b1,rfl,VC,VC,λxs dr xl=>⟨ns,0,rfl,VC,VC,λb2=>⟨ns,20,b2,rfl,VC,VC,λys dr' yl=>λc ms ml mn=>?_⟩⟩⟩⟩;have g:=dr.good;have g':=dr'.good;have fw:=dr.few VC;have fw':=dr'.few VC;have pl:=yB g;refine⟨xs,rfl,g,fw,ys,rfl,g',fw',_,rfl,by rw [Oe];omega,iI (λ_=>true) (λx:De=>.int x.d) (λx hx R S h1 _=>?_) ?_⟩
  ·cases x <;> simp only [De.enc,Pp.enc] <;> walk_at "w" <;> exact h1 rfl
  ·rw [fZ];refine⟨_,rfl,by rw [Oe];omega,cZ (enc:=Pl.enc) (λp=>p.d.isSome) (λp=>bT p.d) (λp hp R S h=>?_) ?_⟩
   ·simp only [Pl.enc];walk_at "w";cases hd:p.d with
    | none=>
     rw [VE (by simp [dN,bT])];rw [hd,VE VH] at h;exact h
    | some d=>
     rw [VF (by simp [dN,bT])];rw [hd,VF VH] at h;exact h
   ·have e1:∃ds:List Int,(Pn (λx:De=>OJ x.d) xs++Pn (λp:Pl=>bT p.d) (QV (λp=>p.d.isSome) (bW xs))++[OJ 0])=ds.map .int/\0 < ds.length:=by
     refine⟨xs.map De.d++((bW xs).filter λp=>p.d.isSome).map (λp=>p.d.getD 0)++[0],?_,by rw [OG];show 0 < _+1;omega⟩;rw [OO,OO,OI,OI];congr 2;refine Q6 λp hp=>?_;have:=(Po.mp hp).2;obtain⟨d,hd⟩:=Sy.mp this;simp only [QC,hd];rfl
    obtain⟨dl,ed,d0⟩:=e1;have fl:=O8 (λp:Pl=>p.d.isSome) (bW xs);rw [ed];have fin:∀(zs:List De)(n:Int),gf zs->qt zs->∀R:VI->Prop,R (.bool true)->F_u [.tuple (zs.map De.enc),.int n] λd=>EU [.tuple (zs.map De.enc),.tuple ((bW zs).map Pl.enc),.int n] λd'=>ES [d,d'] R:=λzs n gz fz R hR=>by
     obtain⟨t1,t2⟩:=N6 gz n;exact⟨zs,n,rfl,gz,fz,zs,n,rfl,gz,qD zs n,rfl,t1,t2,hR⟩
    refine⟨by rw [Oe,Oe];omega,by rw [OG,Oe,Oe];omega,VC,?_⟩;refine⟨λi acc=>∃ks:List Int,acc=ks.map .int/\ks.length=i,⟨[],rfl,rfl⟩,?_,?_⟩
    ·rintro i z acc hz ⟨ks,rfl,kl⟩;obtain⟨hi,rfl⟩:=qU hz;have hi:i < 7:=hi;walk_at "w";obtain⟨m1,em⟩:=yL (k:=0+(i:Int)) ml VD (by show _ < ((12:Nat):Int);omega);obtain⟨v,ev,hv⟩:=oH (xs:=dl.map OJ) (i:=m1 % ((dl.map OJ).length:Int)) (Rt _ (by rw [Oe];omega)) (QT _ (by rw [Oe];omega));obtain⟨dz,_,rfl⟩:=OE.mp hv;exact⟨_,em,m1,rfl,by rw [Oe];omega,_,ev,_,em,m1,rfl,dz,rfl,ks++[_],by rw [OO];rfl,by rw [OG,kl];rfl⟩
    ·rintro acc ⟨ks,rfl,kl⟩;rw [ui] at kl;obtain⟨a7,e7⟩:=yL (k:=7) ml VC VC;obtain⟨a8,e8⟩:=yL (k:=8) ml VC VC;refine⟨_,e7,a7,rfl,_,e8,a8,rfl,?_⟩;have kl:ks.length=7:=kl;rw [show ks.map OJ++[OJ (a7 % 100000),OJ (a8 % 80)]=(ks++[a7 % 100000,a8 % 80]).map OJ by rw [OO];rfl];have kl2:(ks++[a7 % 100000,a8 % 80]).length=9:=by rw [OG,kl];rfl
     generalize ks++[a7 % 100000,a8 % 80]=as at*;rw [x9,<-Se,<-OO];generalize hE:d4.mk _ _ _ _=EE;have eN:=congrArg d4.nx hE;simp only at eN;clear hE;refine⟨by rw [Oe];omega,by rw [Oe,Oe,Pf];omega,?_⟩;refine⟨λi δ=>∃o8:Option Sl,δ=[some (Sl.v (fN (Pn OJ ns))),some (Sl.v (O5 (Pn De.enc xs))),some (Sl.v (O5 (Pn De.enc ys))),some (Sl.v (PX (Pn OJ ms))),some (Sl.v (O5 (Pn Pl.enc (bW xs)))),some (Sl.v (O5 (Pn Pl.enc (bW ys)))),some (Sl.v (PX (Pn OJ dl))),some (Sl.v (PX (as.map OJ))),o8],⟨none,rfl⟩,?_,?_⟩
     ·rintro i z δ hz ⟨o8,rfl⟩;rw [OD] at hz;cases hz':(as++as.take 1)[i]? with
      | none=>rw [hz'] at hz;cases hz
      | some n=>
       rw [hz'] at hz;cases hz;clear eN;walk_at "w";refine fin xs n g fw _ ⟨true,rfl,?_⟩;rw [VE VC];exact⟨_,rfl⟩
     ·rintro δ ⟨o8,rfl⟩;rw [<-eN];clear eN;walk_at "w";rw [v7 VC (by rw [Oe];omega),<-Uj];refine⟨by rw [Oe,Q8];omega,?_⟩;refine AX (p:=λb=>Q (.bool b)) (gg:=λbs=>bs.all id) (λ_=>true) (λd hd R hR=>?_) ?_
      ·obtain⟨n,hn,rfl⟩:=OE.mp hd;walk_at "w";exact fin ys n g' fw' _ hR
      ·have e:∀l:List VI,((l.map λ_=>true).all id)=true:=λl=>by
        rw [Vo];exact Q9.mpr λ_ _=>rfl
       rw [e];exact q
end
end K23
namespace PySem.W.Fast
def tw14812152004302780894:=0
def tw3742777887627281699:=0
def tw1746254476890627173:=0
def tw12653762775372256734:=0
def tw2524862296124555681:=0
def tw18103818523304047901:=0
def tw3351752817180503327:=0
def tw16843439746789044529:=0
def tw2878125859466729904:=0
def tw3055095284134998650:=0
def tw17663265600897328762:=0
def tw5023171833034262322:=0
def tw9636920371149080023:=0
def tw10956545606118458057:=0
def tw7809683603491925896:=0
def tw8118292078125865000:=0
def tw13886066378058296146:=0
def tw5885382243130940585:=0
def tw4116241403414437302:=0
def tw15612825718339535298:=0
def tw12653927514697530783:=0
def tw4064484904008790358:=0
def tw14287630990114841612:=0
def tw12716003707504024305:=0
def tw9447681111793038523:=0
def tw5152305231666098326:=0
def tw7155890394602725836:=0
def tw6826224048641434594:=0
def tw115217766272998198:=0
def tw7698282024682539155:=0
def tw13284985360061423412:=0
def tw10066762442419486128:=0
def tw13870769777901354551:=0
def tw14121379041913911972:=0
def tw17959447107689950606:=0
def tw16714812924911463705:=0
def tw8481194922823797980:=0
def tw12172666136469070829:=0
def tw662154068699351456:=0
def tw12015364400780037038:=0
def tw5642143042571467244:=0
def tw16422664181296271504:=0
def tw6394199570382015407:=0
def tw2202802515091879845:=0
def tw670291637461069856:=0
def tw7339519931219349583:=0
def tw12204697782535900590:=0
def tw3177290473340261432:=0
def tw13188502023786163648:=0
def tw13755258466556826439:=0
def tw8182579761444906345:=0
def tw6180095679681301939:=0
def tw6355854807859337587:=0
def tw7542401257693551259:=0
def tw11160257982956404758:=0
def tw12089645422739017715:=0
def tw7165606622006301349:=0
def tw1532042503402574813:=0
def tw15424722185316249933:=0
def tw15334173797752057212:=0
def tw18108897053220248346:=0
def tw18154634918124116235:=0
def tw15971191643624358836:=0
def tw9495521305428233854:=0
def tw13865884261474230836:=0
def tw1117229121097895367:=0
def tw11927460225233443840:=0
def tw921266250461979127:=0
def tw7863954205294344552:=0
def tw13397973130655554857:=0
def tw8994079675100526372:=0
def tw15860272849187585912:=0
def tw17909101181892878532:=0
def tw5065822160467720675:=0
def tw15880727801780854325:=0
def tw13272842862560384219:=0
def tw6707913253705122561:=0
def tw3242569198744049663:=0
def tw16624738349085046471:=0
def tw13582649503036116706:=0
def tw10335202485995595648:=0
def tw15355966841407523827:=0
def tw8909856329647015806:=0
def tw8518792279727877258:=0
def tw9907891988349200790:=0
def tw12718631603125103109:=0
def tw16020071939304759317:=0
def tw15311818034832214128:=0
def tw1716309032777052276:=0
def tw649093877293565592:=0
def tw3703293158238143684:=0
def tw13892914372279901527:=0
def tw12131351511827382372:=0
def tw8305207390975639983:=0
def tw17529542471224819863:=0
def tw2600539960088868910:=0
def tw5999319867907557276:=0
def tw12382681183040534431:=0
def tw7009175931268679763:=0
def tw6480917023197548271:=0
def tw6645651090492849175:=0
def tw2125440832371633278:=0
def tw8117173005300681874:=0
def tw5430503688906340393:=0
def tw1079835899973356183:=0
def tw11507186468183597294:=0
def tw14621810707979734100:=0
def tw5949889262093308584:=0
def tw13909912510972424550:=0
def tw9509259775649605151:=0
def tw5795591006524670685:=0
def tw11186751588301290782:=0
def tw9488587899464048895:=0
def tw9457409425517708813:=0
def tw7547149415801088160:=0
def tw923694528802016855:=0
def tw6829831133490446431:=0
def tw14091876129499999875:=0
def tw6990596767522456063:=0
def tw3632468071387185642:=0
def tw2204304529028476441:=0
def tw1834012939625335569:=0
def tw16307158218611447345:=0
def tw650536175603444529:=0
def tw16910788546264189461:=0
def tw18161348321134311203:=0
def tw10753089639067281175:=0
def tw17068287126835356944:=0
def tw13525904371687653861:=0
def tw3835041935270611068:=0
def tw11988306731919911272:=0
def tw4584282779734742327:=0
def tw11293184415488130607:=0
def tw9756223138019654421:=0
def tw2542807861574585296:=0
def tw7409448133779296246:=0
def tw447057717969771400:=0
def tw9160687209727152029:=0
def tw556056615124817251:=0
def tw2452272639353669063:=0
def tw10543721324789658018:=0
def tw1069132088434621130:=0
def tw3256543010140603633:=0
def tw11229713137127784007:=0
def tw15415862164739744629:=0
def tw14381200472650371256:=0
def tw621924916971312199:=0
def tw14482332053493135893:=0
def tw13319992343142321591:=0
def tw17521403274243775634:=0
def tw12765608684792046453:=0
def tw12797876743794310651:=0
def tw14042811634660717358:=0
def tw4562552746489501860:=0
def tw6939060800482056826:=0
def tw591251721641157563:=0
def tw2631474213216393169:=0
def tw12692004499879078170:=0
def tw7193615820051420992:=0
def tw15614034209246706920:=0
def tw7625959419589171825:=0
def tw1897829269619371279:=0
def tw4653667524651430286:=0
def tw12245146271638209157:=0
def tw4001870270412548488:=0
def tw16957850143818665295:=0
def tw1038715425495482742:=0
def tw13405697362275087241:=0
def tw94414469917507773:=0
def tw11016637309862915948:=0
def tw6433800340078484903:=0
def tw16515169431326382775:=0
def tw2103503431184407855:=0
def tw11734110978149499110:=0
def tw7664850943583017521:=0
def tw2306321024826894976:=0
def tw16882067375821009470:=0
def tw2263558273458699728:=0
def tw12631824059621616874:=0
def tw12893685349903620888:=0
def tw17538087969880171486:=0
def tw17791958763336783115:=0
def tw11793818080067744826:=0
def tw1664250886192782375:=0
def tw2882686040038399047:=0
def tw2215523748372789998:=0
def tw668820422308154815:=0
def tw8051811479517442697:=0
def tw5811085146792646044:=0
def tw870160043000875770:=0
def tw15952266820137194076:=0
def tw5219853816463505515:=0
def tw12329206240181061377:=0
def tw17074416127633117384:=0
def tw13299141115819553804:=0
def tw3182026776006446193:=0
def tw14079877206756453427:=0
def tw10776589722551291421:=0
def tw11048403130449617094:=0
def tw761948145353147269:=0
def tw10928929814842961082:=0
def tw11769168484436718302:=0
def tw4535406939837276591:=0
def tw14793595718277618178:=0
def tw13342566506999548906:=0
def tw17507313970292506196:=0
def tw1563787647586367229:=0
def tw18374895312419733280:=0
def tw17983601368797421766:=0
def tw17683015251629938771:=0
def tw13855073585475358527:=0
def tw12904989813222601878:=0
def tw10760450397163243736:=0
def tw1026078893536966552:=0
def tw1864902049653423770:=0
def tw11600388356395343859:=0
def tw8374652442218181902:=0
def tw4335206365941180547:=0
def tw4478637626647337149:=0
def tw16329959566135297049:=0
def tw16322466973960133086:=0
def tw7311186623003556483:=0
def tw2567754864505257963:=0
def tw14404503130316761372:=0
def tw11811464290139095097:=0
def tw9807341842441932044:=0
def tw7893083759460613648:=0
def tw15647825951568680191:=0
def tw5040675200783241718:=0
def tw3106895209231398322:=0
def tw1575783354591858689:=0
def tw14698962227435690474:=0
def tw3370755384592685543:=0
def tw2843654145502479612:=0
def tw18243346376217392323:=0
def tw18117118975089787253:=0
def tw18078396431584149961:=0
def tw17618792046735549938:=0
def tw1183591296674989553:=0
def tw12814918387449308124:=0
def tw9628995598709498885:=0
def tw9917142494273100026:=0
def tw8795705302360088483:=0
def tw14343912920634351224:=0
end PySem.W.Fast
open PySem PySem.W PyProof.Rows
set_option maxRecDepth 100000 in
theorem PySem.Challenge.cw_goneday_k23_there_on_days_holds : PySem.Challenge.rw_goneday_k23_there_on_days.Holds := by
 w_on;o_law;k_head;(case hw=>w_witness2)
 k_fill
 refine L2.walk_ofBK (l:=PySem.Challenge.rw_goneday_k23_there_on_days) (n:=63) (k:=20) (x:="_law_script") (CX:=L2.CX0) (sp:=K23.sp_law) rfl VC rfl ⟨rfl,VC,VC⟩ (λw h Y=>PySem.W.kIn_of Y) ?F ?S ?C
 case F=>
  intro w mg fa h KX G hmg;have T:∃t,K23.Txt (L2.KOf KX) mg t:=by
   dsimp only [L2.KOf];refine' K23.txt_mk KX G ?a0 ?l0 ?c0 ?k0 ?a1 ?l1 ?c1 ?k1 ?a2 ?l2 ?c2 ?k2 ?a3 ?l3 ?c3 ?k3 ?a4 ?l4 ?c4 ?k4 ?a5 ?l5 ?c5 ?k5 ?a6 ?l6 ?c6 ?k6 ?a7 ?l7 ?c7 ?k7 ?a8 ?i8 ?l8 ?c8 ?k8 ?a9 ?l9 ?c9 ?k9 ?a10 ?l10 ?c10 ?k10 ?a11 ?l11 ?c11 ?k11 ?a12 ?l12 ?c12 ?k12 ?a13 ?l13 ?c13 ?k13 ?a14 ?l14 ?c14 ?k14 ?a15 ?l15 ?c15 ?k15 ?a16 ?l16 ?c16 ?k16 ?a17 ?l17 ?c17 ?k17 ?a18 ?l18 ?c18 ?k18 ?a19 ?l19 ?c19 ?k19 ?a20 ?l20 ?c20 ?k20 ?a21 ?l21 ?c21 ?k21 ?a22 ?l22 ?c22 ?k22 ?a23 ?l23 ?c23 ?k23 ?a24 ?l24 ?c24 ?k24 ?a25 ?l25 ?c25 ?k25 ?a26 ?l26 ?c26 ?k26 ?a27 ?l27 ?c27 ?k27 ?a28 ?l28 ?c28 ?k28 ?a29 ?l29 ?c29 ?k29 ?a30 ?l30 ?c30 ?k30 ?a31 ?l31 ?c31 ?k31 ?a32 ?i32 ?l32 ?c32 ?k32 ?a33 ?i33 ?l33 ?c33 ?k33 ?a34 ?i34 ?l34 ?c34 ?k34 ?a35 ?i35 ?l35 ?c35 ?k35 ?a36 ?i36 ?l36 ?c36 ?k36 ?a37 ?i37 ?l37 ?c37 ?k37 ?a38 ?i38 ?l38 ?c38 ?k38 ?a39 ?l39 ?c39 ?k39 ?a40 ?l40 ?c40 ?k40 ?a41 ?l41 ?c41 ?k41 ?a42 ?l42 ?c42 ?k42 ?a43 ?l43 ?c43 ?k43 ?a44 ?l44 ?c44 ?k44 ?a45 ?l45 ?c45 ?k45 ?a46 ?l46 ?c46 ?k46 ?a47 ?l47 ?c47 ?k47 ?a48 ?l48 ?c48 ?k48 ?a49 ?l49 ?c49 ?k49 ?a50 ?l50 ?c50 ?k50 ?a51 ?l51 ?c51 ?k51 ?a52 ?l52 ?c52 ?k52 ?a53 ?l53 ?c53 ?k53 ?a54 ?l54 ?c54 ?k54 ?a55 ?l55 ?c55 ?k55 ?a56 ?l56 ?c56 ?k56 ?a57 ?l57 ?c57 ?k57 ?a58 ?l58 ?c58 ?k58 ?a59 ?l59 ?c59 ?k59 ?a60 ?l60 ?c60 ?k60 ?a61 ?l61 ?c61 ?k61 ?a62 ?l62 ?c62 ?k62 ?a63 ?l63 ?c63 ?k63 ?a64 ?l64 ?c64 ?k64 ?a65 ?l65 ?c65 ?k65 ?x_MONTH_DAYS ?y_MONTH_DAYS ?z_MONTH_DAYS ?w_MONTH_DAYS ?x_FIRST_YEAR ?r_FIRST_YEAR ?x_ROUND_DAYS ?r_ROUND_DAYS ?x_ROUND_YEARS ?r_ROUND_YEARS ?x_NoPaper ?x_Paper ?x_Look ?x_Round ?pg_Paper ?hd_Paper ?po_Paper ?sa_Paper ?mk_Paper ?kc_Paper ?na_Paper_name ?na_Paper_coming ?na_Paper_kind ?na_Paper_makers ?na_Paper_happenings ?pg_Look ?hd_Look ?po_Look ?sa_Look ?mk_Look ?kc_Look ?na_Look_day ?na_Look_paper ?na_Look_to_stay ?na_Look_to_go ?na_Look_bars ?na_Look_leave ?pg_Round ?hd_Round ?po_Round ?sa_Round ?mk_Round ?kc_Round ?na_Round_day ?na_Round_rules ?na_Round_holds ?na_Round_leaves ?na_Round_gone ?na_Round_used ?n_abs ?n_all ?n_any ?n_bool ?n_enumerate ?n_int ?n_isinstance ?n_len ?n_list ?n_max ?n_min ?n_range ?n_set ?n_sorted ?n_str ?n_sum ?n_tuple
   (case a0=>k_is)
   (case l0=>k_is)
   (case c0=>k_is)
   (case k0=>k_is)
   (case a1=>k_is)
   (case l1=>k_is)
   (case c1=>k_is)
   (case k1=>k_is)
   (case a2=>k_is)
   (case l2=>k_is)
   (case c2=>k_is)
   (case k2=>k_is)
   (case a3=>k_is)
   (case l3=>k_is)
   (case c3=>k_is)
   (case k3=>k_is)
   (case a4=>k_is)
   (case l4=>k_is)
   (case c4=>k_is)
   (case k4=>k_is)
   (case a5=>k_is)
   (case l5=>k_is)
   (case c5=>k_is)
   (case k5=>k_is)
   (case a6=>k_is)
   (case l6=>k_is)
   (case c6=>k_is)
   (case k6=>k_is)
   (case a7=>k_is)
   (case l7=>k_is)
   (case c7=>k_is)
   (case k7=>k_is)
   (case a9=>k_is)
   (case l9=>k_is)
   (case c9=>k_is)
   (case k9=>k_is)
   (case a10=>k_is)
   (case l10=>k_is)
   (case c10=>k_is)
   (case k10=>k_is)
   (case a11=>k_is)
   (case l11=>k_is)
   (case c11=>k_is)
   (case k11=>k_is)
   (case a12=>k_is)
   (case l12=>k_is)
   (case c12=>k_is)
   (case k12=>k_is)
   (case a13=>k_is)
   (case l13=>k_is)
   (case c13=>k_is)
   (case k13=>k_is)
   (case a14=>k_is)
   (case l14=>k_is)
   (case c14=>k_is)
   (case k14=>k_is)
   (case a15=>k_is)
   (case l15=>k_is)
   (case c15=>k_is)
   (case k15=>k_is)
   (case a16=>k_is)
   (case l16=>k_is)
   (case c16=>k_is)
   (case k16=>k_is)
   (case a17=>k_is)
   (case l17=>k_is)
   (case c17=>k_is)
   (case k17=>k_is)
   (case a18=>k_is)
   (case l18=>k_is)
   (case c18=>k_is)
   (case k18=>k_is)
   (case a19=>k_is)
   (case l19=>k_is)
   (case c19=>k_is)
   (case k19=>k_is)
   (case a20=>k_is)
   (case l20=>k_is)
   (case c20=>k_is)
   (case k20=>k_is)
   (case a21=>k_is)
   (case l21=>k_is)
   (case c21=>k_is)
   (case k21=>k_is)
   (case a22=>k_is)
   (case l22=>k_is)
   (case c22=>k_is)
   (case k22=>k_is)
   (case a23=>k_is)
   (case l23=>k_is)
   (case c23=>k_is)
   (case k23=>k_is)
   (case a24=>k_is)
   (case l24=>k_is)
   (case c24=>k_is)
   (case k24=>k_is)
   (case a25=>k_is)
   (case l25=>k_is)
   (case c25=>k_is)
   (case k25=>k_is)
   (case a26=>k_is)
   (case l26=>k_is)
   (case c26=>k_is)
   (case k26=>k_is)
   (case a27=>k_is)
   (case l27=>k_is)
   (case c27=>k_is)
   (case k27=>k_is)
   (case a28=>k_is)
   (case l28=>k_is)
   (case c28=>k_is)
   (case k28=>k_is)
   (case a29=>k_is)
   (case l29=>k_is)
   (case c29=>k_is)
   (case k29=>k_is)
   (case a30=>k_is)
   (case l30=>k_is)
   (case c30=>k_is)
   (case k30=>k_is)
   (case a31=>k_is)
   (case l31=>k_is)
   (case c31=>k_is)
   (case k31=>k_is)
   (case a39=>k_is)
   (case l39=>k_is)
   (case c39=>k_is)
   (case k39=>k_is)
   (case a40=>k_is)
   (case l40=>k_is)
   (case c40=>k_is)
   (case k40=>k_is)
   (case a41=>k_is)
   (case l41=>k_is)
   (case c41=>k_is)
   (case k41=>k_is)
   (case a42=>k_is)
   (case l42=>k_is)
   (case c42=>k_is)
   (case k42=>k_is)
   (case a43=>k_is)
   (case l43=>k_is)
   (case c43=>k_is)
   (case k43=>k_is)
   (case a44=>k_is)
   (case l44=>k_is)
   (case c44=>k_is)
   (case k44=>k_is)
   (case a45=>k_is)
   (case l45=>k_is)
   (case c45=>k_is)
   (case k45=>k_is)
   (case a46=>k_is)
   (case l46=>k_is)
   (case c46=>k_is)
   (case k46=>k_is)
   (case a47=>k_is)
   (case l47=>k_is)
   (case c47=>k_is)
   (case k47=>k_is)
   (case a48=>k_is)
   (case l48=>k_is)
   (case c48=>k_is)
   (case k48=>k_is)
   (case a49=>k_is)
   (case l49=>k_is)
   (case c49=>k_is)
   (case k49=>k_is)
   (case a50=>k_is)
   (case l50=>k_is)
   (case c50=>k_is)
   (case k50=>k_is)
   (case a51=>k_is)
   (case l51=>k_is)
   (case c51=>k_is)
   (case k51=>k_is)
   (case a52=>k_is)
   (case l52=>k_is)
   (case c52=>k_is)
   (case k52=>k_is)
   (case a53=>k_is)
   (case l53=>k_is)
   (case c53=>k_is)
   (case k53=>k_is)
   (case a54=>k_is)
   (case l54=>k_is)
   (case c54=>k_is)
   (case k54=>k_is)
   (case a55=>k_is)
   (case l55=>k_is)
   (case c55=>k_is)
   (case k55=>k_is)
   (case a56=>k_is)
   (case l56=>k_is)
   (case c56=>k_is)
   (case k56=>k_is)
   (case a57=>k_is)
   (case l57=>k_is)
   (case c57=>k_is)
   (case k57=>k_is)
   (case a58=>k_is)
   (case l58=>k_is)
   (case c58=>k_is)
   (case k58=>k_is)
   (case a59=>k_is)
   (case l59=>k_is)
   (case c59=>k_is)
   (case k59=>k_is)
   (case a60=>k_is)
   (case l60=>k_is)
   (case c60=>k_is)
   (case k60=>k_is)
   (case a61=>k_is)
   (case l61=>k_is)
   (case c61=>k_is)
   (case k61=>k_is)
   (case a62=>k_is)
   (case l62=>k_is)
   (case c62=>k_is)
   (case k62=>k_is)
   (case a63=>k_is)
   (case l63=>k_is)
   (case c63=>k_is)
   (case k63=>k_is)
   (case a64=>k_is)
   (case l64=>k_is)
   (case c64=>k_is)
   (case k64=>k_is)
   (case a65=>k_is)
   (case l65=>k_is)
   (case c65=>k_is)
   (case k65=>k_is)
   (case x_MONTH_DAYS=>k_is)
   (case y_MONTH_DAYS=>k_is)
   (case z_MONTH_DAYS=>first | (repeat (first | exact .nil | refine .cons ⟨_,rfl⟩ ?_)))
   (case w_MONTH_DAYS=>decide)
   (case x_FIRST_YEAR=>k_is)
   (case r_FIRST_YEAR=>exact⟨_,rfl⟩)
   (case x_ROUND_DAYS=>k_is)
   (case r_ROUND_DAYS=>exact⟨_,rfl⟩)
   (case x_ROUND_YEARS=>k_is)
   (case r_ROUND_YEARS=>exact⟨_,rfl⟩)
   (case x_NoPaper=>k_is)
   (case x_Paper=>k_is)
   (case x_Look=>k_is)
   (case x_Round=>k_is)
   (case pg_Paper=>k_is)
   (case hd_Paper=>k_is)
   (case po_Paper=>k_is)
   (case sa_Paper=>k_is)
   (case mk_Paper=>k_is)
   (case kc_Paper=>k_is)
   (case na_Paper_name=>k_is)
   (case na_Paper_coming=>k_is)
   (case na_Paper_kind=>k_is)
   (case na_Paper_makers=>k_is)
   (case na_Paper_happenings=>k_is)
   (case pg_Look=>k_is)
   (case hd_Look=>k_is)
   (case po_Look=>k_is)
   (case sa_Look=>k_is)
   (case mk_Look=>k_is)
   (case kc_Look=>k_is)
   (case na_Look_day=>k_is)
   (case na_Look_paper=>k_is)
   (case na_Look_to_stay=>k_is)
   (case na_Look_to_go=>k_is)
   (case na_Look_bars=>k_is)
   (case na_Look_leave=>k_is)
   (case pg_Round=>k_is)
   (case hd_Round=>k_is)
   (case po_Round=>k_is)
   (case sa_Round=>k_is)
   (case mk_Round=>k_is)
   (case kc_Round=>k_is)
   (case na_Round_day=>k_is)
   (case na_Round_rules=>k_is)
   (case na_Round_holds=>k_is)
   (case na_Round_leaves=>k_is)
   (case na_Round_gone=>k_is)
   (case na_Round_used=>k_is)
   (case n_abs=>k_is)
   (case n_all=>k_is)
   (case n_any=>k_is)
   (case n_bool=>k_is)
   (case n_enumerate=>k_is)
   (case n_int=>k_is)
   (case n_isinstance=>k_is)
   (case n_len=>k_is)
   (case n_list=>k_is)
   (case n_max=>k_is)
   (case n_min=>k_is)
   (case n_range=>k_is)
   (case n_set=>k_is)
   (case n_sorted=>k_is)
   (case n_str=>k_is)
   (case n_sum=>k_is)
   (case n_tuple=>k_is)
   (case a8=>k_is)
   (case i8=>k_is)
   (case l8=>k_is)
   (case c8=>k_is)
   (case k8=>k_is)
   (case a32=>k_is)
   (case i32=>k_is)
   (case l32=>k_is)
   (case c32=>k_is)
   (case k32=>k_is)
   (case a33=>k_is)
   (case i33=>k_is)
   (case l33=>k_is)
   (case c33=>k_is)
   (case k33=>k_is)
   (case a34=>k_is)
   (case i34=>k_is)
   (case l34=>k_is)
   (case c34=>k_is)
   (case k34=>k_is)
   (case a35=>k_is)
   (case i35=>k_is)
   (case l35=>k_is)
   (case c35=>k_is)
   (case k35=>k_is)
   (case a36=>k_is)
   (case i36=>k_is)
   (case l36=>k_is)
   (case c36=>k_is)
   (case k36=>k_is)
   (case a37=>k_is)
   (case i37=>k_is)
   (case l37=>k_is)
   (case c37=>k_is)
   (case k37=>k_is)
   (case a38=>k_is)
   (case i38=>k_is)
   (case l38=>k_is)
   (case c38=>k_is)
   (case k38=>k_is)
  obtain⟨t,T⟩:=T;have e0:=hmg.symm.trans T.m_AN;cases e0;exact⟨t.d_AN,T.bt_AN,λbase kb nb=>K23.ok_law T⟩
 case S=>exact λK H a ns hl hb hO hS=>K23.start_law hl hb hS
 case C=>exact λ_ _ _ _ z=>z
