import PyProof.Rows.All
import Wide.All
import OpenK.AllK
import PySem.Challenge.RW_goneday_k60_sets_as_texts
open PySem.Str renaming ofString->Pp,ofString->Pt,join->SJ,empty->TM
open PySem.W renaming Frag->Pq,nsIn->Qe,mg_none_of->Q1,mg_of->Q5,findIn->Rn,kia_one->RD,mroIn->RQ,fnOf->RT,keepIn->Sb,kitOne->SE,specialIn->SV,InstAt->SY,kitAny->S0,callWith_K->Tg,codeIn->Tq,cellsFrom_some->Tz,excIn->TK,methodObj->Ud,hasDictIn->Ue,instObj->Uy,takesIn->Uz,lookIn->UG,isFn->Vk,kitx_list->Vn,kitx_dict->Vo,plainGet->Vy,handedIn->VE,OpenLaw->VI,readsIn->VO,findCls->VP,isClsIn->VQ,WalkO->VZ
open PySem.PyData renaming str->Pr,eqv->PJ,int->PN,tuple->Qx,strOk->QM,canLay0->QW,canLayAll0->Q4,list->Q8,eqvAll->Rc,depthAll->Rv,none->RV,depth->Si,bool->TF,dict->Wi
open List renaming length_cons->Pu,map_cons->Pw,mem_cons->Pz,length_map->PB,replicate->PH,getElem?_cons_succ->PM,getElem?_cons_zero->PR,not_mem_nil->PV,append_nil->PX,length_nil->P1,nil_append->P2,cons_append->P7,set_cons_zero->P8,set_cons_succ->P9,map_nil->Qc,getElem?_nil->Qh,size_toArray->Qk,getElem?_eq_some_iff->Ql,any_cons->QC,mem_map->QG,all_cons->QH,all_nil->QU,any_nil->QV,getElem?_eq_getElem->QY,map->QZ,mem_cons_of_mem->Q2,getElem?_set_ne->Q3,lookup_cons->Q6,mem_singleton->Q9,length_append->Ra,map_map->Rb,getElem?_set_self->Rg,all_eq_true->Rh,length_take->Ro,mem_of_getElem?->Rp,mem_append->Rq,mem_append_right->Rr,getElem?_map->Ru,range->Rx,mem_cons_self->RC,map_append->RE,take_of_length_le->RH,drop_of_length_le->RI,mem_of_mem_take->RO,getD_eq_getElem?_getD->RR,length_drop->RU,mem_of_mem_drop->RZ,flatten_cons->R1,foldl_cons->R4,replicate_succ->R6,sum_cons->R8,getElem_mem->R9,mem_range->Sa,getElem?_eq_none->Sd,getElem?_append_left->Se,take_append_drop->Sw,getElem?_append_right->Sx,drop_eq_getElem_cons->Sz,all_map->SI,getElem?_replicate->SM,range_succ->SQ,pairwise_cons->SR,eq_nil_of_length_eq_zero->SU,length_range->SW,any_eq_true->S9,map_take->Ta,length->Tb,nodup_cons->TQ,filterMap_cons->TR,map_congr_left->TU,mem_filterMap->TY,contains_cons->TZ,length_eraseIdx_of_lt->Ua,map_drop->Ub,take_sublist->Ug,append_assoc->Uh,length_eq_zero_iff->Uv,getElem?_set_self'->Uw,of_mem_zip->UA,forIn_cons->UB,sum_append->UC,length_replicate->UH,forIn_nil->UI,drop_zero->UM,mem_append_left->UT,pairwise_append->UZ,length_dropLast->U0,take_nil->U4,getElem_of_mem->U7,length_pos_iff->Va,filterMap_map->Vf,sum_nil->Vj,any_map->Vm,getElem?_inj->Vq,ext_getElem->VC,zipIdx_cons->VD,mem_filter->VF,foldl->VG,zipIdx_nil->VN,take_succ->VS,not_lt->We
open PySem renaming Spec->Px,boot_len->Qj,Scope->Rj,mem_of_lookup->R5,intText?->Ts,Builtin->U1,frameOf->U3,call->VH,Within->V2,field->Wh
open PySem.Heap renaming get?_push_of_some->Py,lt_size->PQ,get?_push_size->Qa,get?_update_self->Rk,get?_update_other->RG,size_push->RX,SameBut->Sq,FlyingW->SH,get?_none_of_le->S8,MadeExcOf->UQ,get?_update_ne->U9,get?_push_at->Vv,ExtBut->Vx,IsTuple->V7
open PySem.SeqAt renaming shaped->PD,canLay_of_shaped->Rm,depth_of_shaped->UL
open List.cons renaming injEq->PK
open Nat renaming le_refl->PL,le_trans->Qt,reduceLeDiff->Qv,reduceAdd->QD,reduceSub->QE,ne_of_lt->QF,zero_add->QK,add_zero->QO,sub_self->QP,reduceLT->QQ,lt_of_lt_of_le->QX,zero_le->Rt,lt_succ_of_lt->RL,lt_irrefl->RP,lt_succ_self->Sk,ne_of_gt->Sr,le_succ->SD,le_of_lt->SX,toDigits_of_base_le->Tv,le_of_succ_le->Ui,le_of_not_lt->Up,lt_or_ge->Vg,lt_trans->Vh,le_succ_of_le->Vw,min_le_right->Vz,digitChar->V1,sub_zero->V6
open Array renaming length_toList->PY,toList_append->Sj,getElem?_eq_getElem->Te,getElem?_eq_none->TH,size_append->Uj,getElem?_toList->UO,toArray_toList->UY,append_empty->Vl,toList_push->Vs,ext'->VL,toList->V3
open Bool renaming false_eq_true->PZ,and_true->P4,not_eq_true'->P5,and_eq_true->P6,true_eq_false->Qb,true_and->Qg,false_ne_true->Qr,not_false->QA,or_false->QB,not_true->QL,false_or->QN,eq_iff_iff->RM,or_eq_true->Tf,and_comm->Uc,or_true->Ur,eq_false_iff->Vp
open Option.some renaming injEq->P0,inj->Ri
open PySem.ScopeKind renaming function->Qf
open PySem.PyData.tuple renaming injEq->Qi
open PySem.NameKind renaming globalImplicit->Qm,free->Rf,free->RA,cell->TJ
open Option renaming join_some->Qn,join_none->Qo,map_some->Qw,map_none->Qz,isSome_iff_exists->Sg,getD_none->VA,bind->Wf
open PySem.PyData.bool renaming injEq->Qp
open PySem.PyData.list renaming injEq->Qq
open PySem.PyData.int renaming injEq->Qs
open PySem.PyData.str renaming injEq->Qu
open PySem.Value renaming ref->Qy,none->RW,builtin->R7,bool->So,str->S5,type->S7,int->TL,isStrOf_shape->U5,isStrOf->VW,float->Wa
open Int renaming reduceNeg->QI,reducePow->QJ,reduceLT->QR,reduceLE->QS,eq_ofNat_of_zero_le->Q0,toNat_natCast->Q7,toNat_of_nonneg->SK,fdiv_eq_ediv_of_nonneg->T6,fmod_eq_emod_of_nonneg->T7,lt_trichotomy->Vu,ediv_one->V4,zero_add->V9
open PySem.Builtin.Int renaming intBits->Rl
open False renaming elim->Ry
open PySem.Heap.SameBut renaming update->Rz
open PySem.F renaming excBase_ValueError->RB,plainAttrs_str->SS,args_tuple_add_2->Th,entry_tuple_add->Tu,slot_tuple_add->TB,plain_extend_loop->Um,plain_list_iadd->Ux,slot_str_join->UJ,type_str_join->UK,plain_set_new->UN,slot_set_iter->UP
open PySem.Obj renaming data_mapFields->RF,isFreed_of_fields->Sv,mapSeq->Tr,cls_mapFields->Tw,putSet->Ul,mapFields->U2
open PySem.Builtin.SmallTypes renaming nextOf->RJ,ownedTupleIsFree->RY,ownedTupleHandOut->To
open True renaming intro->RK
open PySem.PassesOwn renaming never->RN
open PySem.StrLaws renaming glued_eq_join->RS,found_one->Tx,join_split->T4
open PySem.Builtin.Str renaming occurrences->R0,strSliceIndices->T1,partsBetween->Us,strKind->U8
open PyProof.Rows renaming callWith_type1->R3,slot_tuple_getitem->Sf,split_le->S4,boot_sum->TN,boot_sorted->Uu,boot_min->US,boot_max->Wj
open PySem.SetTable renaming grown->Sn,below->Tt,sizeAbove->Vi,layClean->Vr,relaid->VM,laid->V0
open PyProof.Rows.F renaming plain_set_update_loop->Ss,entry_set_update_loop->Tn
open PySem.Sem renaming wp->Su
open PySem.Builtin.Slice renaming slicePlaces->Sy,sliceAdjust->Tc,sliceApplied->T8
open PySem.Around renaming under_plainId->SA,under->Vd
open PySem.Builtin.Tuple renaming tupleExact->SG,tupleItemsOf->T9
open PySem.W.WData renaming int->SN,weightAll->Td,list->Uk,layableAll->VB,weight->V5
open ForInStep renaming yield->SO
open PySem.Expr renaming List->S6,BinOp->VR,Subscript->VU,Call->VV
open PySem.Builtin.List renaming listTooLong->Ti,listLengthHint->T2,listExtendWith->T3,listSameRef->Ut,listFitsIndex->VY
open PySem.Code renaming quiet_builtin->Tj,isFrame->Ve,frames->Wc
open Sum renaming inr->Tp,inl->Uo
open Or renaming inr->TC,inl->Uq
open PySem.EntryCells renaming newEntry->TV
open BEq renaming comm->TX
open PySem.Calls renaming Name_function_global->T5,callWith_builtin->UE,evalArgs_plain->UU,call_len_list->U6
open PyProof renaming noPylong_small->UD
open PySem.W.KIN renaming num_reads->UR
open PySem.SeqAt.RcAt renaming tuple_str->UW
open PySem.SeqAt.EqAt renaming str_tuple->UX,str_int->Vb
open PyProof.Rows.IsTup renaming new->Vc
open PySem.SetTable.below renaming go->Vt
open PySem.Walks renaming list->VJ
open PySem.Bind renaming checkArgs->VT
open PySem.Paired renaming length->VX
open Nat.succ renaming inj->V8
open PySem.CmpOp renaming NotIn->Wb
open PySem.Shared renaming heap->Wg
open PySem.Flow renaming next->Wk
open PySem.Heap.IsSliceOf renaming new->Wl
open PySem renaming PyData->Wr,Value->Ws,wpAny_bind->Wt,Addr->Wu,Shared->Wv,wpAny_pure->Ww,wpAny->Wx,model->Wy,sizeLine->WA,starEach->WB,Expr->WC,FuncData->WD,mainGlobals->WE,Heap->WG,Program->WH,sizeLine_eq->WI,World->WJ,Stmt->WK,Around->WL,compareOp->WM,foldedSetIterable->WN,bootBuiltins->WO,wpAny_newObj_type->WQ,wpAny_mono->WR,wpAny_callSpecial?_slot->WS,wpAny_truthy_bool->WT,backTo->WU,wpAny_call_entry->WV,wpAny_loadPart_at->WW,wpAny_holding->WX,wpAny_field->WY,Scope->WZ,swapsWith->W2,cellsFrom->W3,NameKind->W4,excClassObj->W5,behindInMarks->W6,binaryOp->W7,wpAny_seqItems->W8,rawInt->W9,wpAny_loadPart'->Xa,codeAny_call_builtin->Xb,IsPair->Xc,wpAny_setField->Xd,codeAny_mono->Xe,wpAny_Call_Name_kw->Xf,wpAny_passesOwn->Xg,codeAny_builtin->Xh,attributeBase->Xi,pyNext->Xj,wpAny_setState_of->Xk,assignEach->Xl,typeIs_str->Xm,call_meets->Xn,codeAny->Xo,wpAny_askSetting->Xq,ExcBaseFacts->Xr,wpAny_isSubtype_exc->Xs,wpAny_setEntries_of->Xt,wpAny_standAt->Xu,Keyword->Xv,wpAny_execs_nil->Xw,scanBound->Xx,wpAny_setField_rec->Xy,firstArgMember->Xz,wpAny_rule->XA,checkBuiltinCall->XB,wpAny_attempt->XD,sliceBounds->XE,keywordEach->XF,IsZip->XG,PassesOwn->XH,SetTable->XI,Model->XM,wpAny_call->XN,setNext->XO,strIterType->XQ,wpAny_of_eq->XR,plainId_quiet->XS,GenState->XT,wpAny_execs_cons->XU,relayAll->XW,wpAny_isInstance->XX,holding->XZ,getItem->X0,noteFrame->X1,letOwnedTupleGo->X3,wpAny_typeOf->X4,wpAny_ite_split->X5,backToKw->X6,wpAny_fieldsOf->X7,ZipApart->X8,wpAny_pyIter_tuple->Yb,Result->Yc,DictEntry->Yd,pickOrder->Ye,setFlight->Yf,swapsWithSole->Yg,swappedStores->Yh,wpAny_onRaise->Yi,wpAny_pyIter_list->Yj,noFill_tuple_add->Yk,wpAny_comprehension_free->Yl
open PyProof.Rows renaming StrsAre->W0,envOfC->XC,AllBare->XJ,assignInOrder_cons->Ya
open PySem.W renaming looks_findIn->Xp,kia_one->XY,findIn->X2,hideAll_get->X9
theorem td{p:Prop}[Decidable p](h:decide p=true:=by decide+kernel):p:=of_decide_eq_true h
theorem tx{p:Prop}(h:p:=by decide):p:=h
theorem Ce{p:Prop}(h:p:=by omega):p:=h
theorem Wq{p:Prop}(h:p:=by simp):p:=h
theorem Wm{c:Prop}{h:Decidable c}(k:¬c){α:Sort u}{t e:α}:ite c t e=e:=if_neg k
theorem Wn{c:Prop}{h:Decidable c}(k:c){α:Sort u}{t e:α}:ite c t e=t:=if_pos k
abbrev Ym:=PySem.NameKind.local
set_option compiler.extract_closed false
def rzS:="↓jg ↓jq ↓jr ↓jt ↓ju ↓jv ↓jw ↓jh ↓fE ↓iN ↓jW ↓jX ↓jY ↓jZ ↓j3 ↓j5 ↓iO ↓iP ↓iQ ↓iR ↓iS ↓iT ↓iU ↓iV ↓iW ↓iX ↓iY ↓iZ ↓i3 ↓i4 ↓i5 ↓i6 ↓i7 ↓i8 ↓i9 ↓ja ↓jb ↓jd ↓je ↓jf dE dF dH dG fV fW cT dJ dM dR dS gc di dC bE dI d3 d6 d7 gk d8 cy eQ eO eg d9 dL cU dj fR cR cL bS dm dn dz dA fT dB dD cM cN fU gO gQ gR gS gT gU gW gX gY gZ g6 g9 hG hJ hV hW hX hZ h7 ic ie ig ij ik il ip iq iu iw ix iy iz iA iB iC iD iE iF iG iH iI iJ iK gP eF gj eR cY gp gm ei eD eG eJ eL eM eN cW eT eV eX cj gf gh gi dU dW fX fY dX fZ dY gb fv fy fz gL gM gK gN fk fq ft fu cz fx fw fh fj fA fB fC fD cE iL iM jj ji jk jl jm jn jo fF fG jA jy jz jx jF jB jC jD jE cZ fH jJ jK jG jH jI jL jM jN fJ jO jP fK jR fL jS jT jU jQ jV fM fN fO fP j6 j7 j8 fQ cq gB gC gD gE gF gG gH gI gJ ne_eq bU gx gy gz gA gr gs gu cO cV dZ dN dQ dP dO bT bZ bx cu cK cw Pw Qc Pu P1 PH P7 P2 PX QD QE QO QK QP PR PM Qh P8 P9 P0 exists_eq_left' exists_eq_left exists_and_left exists_and_right Qn Qo Sl.v.injEq Sl.o.injEq Sl.k.injEq Qs Qp Qu Qi Qq PK and_true true_and QQ Qv exists_const decide_eq_true_eq QR QS QI QJ P5 decide_eq_false_iff_not and_assoc or_true true_or ↓reduceIte if_true if_false PZ Qb not_true_eq_false not_false_eq_true QL QA ite_true ite_false eq_self exists_eq reduceCtorEq false_and and_false or_false false_or exists_false Qw Qz cH QH QU QC QV P4 QB Qg QN aX bA b0 cX eY bj cP fg beq_self_eq_true eZ ff gn aV sizeLine_eq"
def rzT (n : String) : Lean.MacroM (Lean.TSyntax `tactic) := do
 let ts : Array (Lean.TSyntax `Lean.Parser.Tactic.simpLemma) <- ((n.splitOn " ").toArray).mapM λs =>do
  if s.startsWith "↓" then
   let i := Lean.mkIdent (s.drop 1).toString.toName
   `(Lean.Parser.Tactic.simpLemma| ↓ $i:ident)
  else
   let i := Lean.mkIdent s.toName
   `(Lean.Parser.Tactic.simpLemma| $i:ident)
 `(tactic| simp only [$ts,*])
local macro_rules|`(command|def $i:declId $s:optDeclSig $v:declVal)=>`(command|noncomputable def $i:declId $s:optDeclSig $v:declVal)|`(command|abbrev $i:declId $s:optDeclSig $v:declVal)=>`(command|noncomputable abbrev $i:declId $s:optDeclSig $v:declVal)
noncomputable section
set_option Elab.async false
set_option linter.all false
set_option maxRecDepth 100000
set_option maxHeartbeats 0
set_option genSizeOf false
namespace L2
open PySem PySem.Spec PyProof.Rows
abbrev bp:=Sum Int Str
def BV:bp->Ws->Bool
 | .inl k,v=>Value.isInt k v
 | .inr x,v=>VW x v
def GR(w:WJ):bp->Int
 | .inl k=>hashInt k
 | .inr x=>hashStr w x
theorem n6:∀{k:bp}{v:Ws},BV k v=true->(∃i t,k=Uo i/\v=TL i t)\/(∃x t,k=Tp x/\v=S5 x t)
 | .inl i,v,h=>by
  obtain⟨t,e⟩:=Value.isInt_shape (k:=i) (v:=v) h;exact .inl ⟨i,t,rfl,e⟩
 | .inr x,v,h=>by
  obtain⟨t,e⟩:=U5 (x:=x) (v:=v) h;exact .inr ⟨x,t,rfl,e⟩
theorem GS(a b:Int):decide ((Uo a:bp)=Uo b)=(a==b):=by
 by_cases e:a=b
 ·subst e;simp
 ·have h:¬(Uo a:bp)=Uo b:=λq=>e (Uo.inj q);rw [decide_eq_false h];exact(beq_eq_false_iff_ne.mpr e).symm
theorem GU(a b:Str):decide ((Tp a:bp)=Tp b)=decide (a=b):=by
 by_cases e:a=b
 ·subst e;simp
 ·have h:¬(Tp a:bp)=Tp b:=λq=>e (Tp.inj q);rw [decide_eq_false h,decide_eq_false e]
theorem GV(a:Int)(b:Str):decide ((Uo a:bp)=Tp b)=false:=decide_eq_false (λq=>nomatch q)
theorem GW(a:Str)(b:Int):decide ((Tp a:bp)=Uo b)=false:=decide_eq_false (λq=>nomatch q)
def v5(prog:WH)(w:WJ):PySem.KeyKind prog w bp where
 is:=BV
 hash:=GR w
 inj:=λv a b ha hb=>by
  rcases n6 ha with⟨i,t,rfl,rfl⟩ | ⟨x,t,rfl,rfl⟩
  ·rcases n6 hb with⟨j,u,rfl,e⟩ | ⟨y,u,rfl,e⟩
   ·injection e with e1 _;rw [e1]
   ·exact nomatch e
  ·rcases n6 hb with⟨j,u,rfl,e⟩ | ⟨y,u,rfl,e⟩
   ·exact nomatch e
   ·injection e with e1 _;rw [e1]
 byValue:=λk v h=>by
  rcases n6 h with⟨i,t,rfl,rfl⟩ | ⟨x,t,rfl,rfl⟩ <;> rfl
 pyHash:=λhv h=>by
  rcases n6 hv with⟨i,t,rfl,rfl⟩ | ⟨x,t,rfl,rfl⟩
  ·exact wpAny_pyHash_int h
  ·exact wpAny_pyHash_str h
 eqBool:=λhu hv h=>by
  rcases n6 hu with⟨i,t,rfl,rfl⟩ | ⟨x,t,rfl,rfl⟩
  ·rcases n6 hv with⟨j,u,rfl,rfl⟩ | ⟨y,u,rfl,rfl⟩
   ·rw [GS] at h;exact wpAny_eqBool_int h
   ·rw [GV] at h;exact SeqAt.EqAt.int_str i t y u _ _ _ _ h
  ·rcases n6 hv with⟨j,u,rfl,rfl⟩ | ⟨y,u,rfl,rfl⟩
   ·rw [GW] at h;exact Vb x t j u _ _ _ _ h
   ·rw [GU] at h;exact wpAny_eqBool_str h
 «strs»:=λk x t v h=>by
  rcases n6 h with⟨i,u,rfl,e⟩ | ⟨y,u,rfl,e⟩
  ·exact nomatch e
  ·injection e with e1 _
   subst e1;cases v <;> rfl
inductive V where
 | non | bl (b:Bool) | int (i:Int) | str (x:Str) | byt (b:Array UInt8) | flt (b:UInt64) | ref (a:Wu) | ty (n:String)
 deriving DecidableEq
def aJ:V->Ws->Prop
 | .non,u=>u=RW
 | .bl b,u=>u=So b
 | .int i,u=>∃t,u=TL i t
 | .str x,u=>∃t,u=S5 x t
 | .byt b,u=>∃t,u=Value.bytes b t
 | .flt b,u=>∃t,u=Wa b t
 | .ref a,u=>u=Qy a
 | .ty n,u=>u=S7 n
abbrev aM:List V->List Ws->Prop:=Paired aJ
theorem aM.length{xs:List V}{us:List Ws}(r:aM xs us):xs.length=us.length:=VX r
theorem aM.get:∀{xs:List V}{us:List Ws}{i:Nat}{x:V},aM xs us->xs[i]?=some x->∃u,us[i]?=some u/\aJ x u
 | _,_,_,_,.nil,e=>by simp at e
 | _,_,0,_,.cons r _,e=>by simp at e;subst e;exact⟨_,rfl,r⟩
 | _,_,i+1,x,.cons _ t,e=>by
  obtain⟨u,h1,h2⟩:=aM.get (i:=i) (x:=x) t (by simpa using e);exact⟨u,by simpa using h1,h2⟩
theorem aM.set{x:V}{u:Ws}(r:aJ x u):∀{xs:List V}{us:List Ws}(i:Nat),aM xs us->aM (xs.set i x) (us.set i u)
 | _,_,_,.nil=>.nil
 | _,_,0,.cons _ t=>.cons r t
 | _,_,i+1,.cons q t=>.cons q (aM.set r i t)
theorem aM.append:∀{xs ys:List V}{us ws:List Ws},aM xs us->aM ys ws->aM (xs++ys) (us++ws)
 | _,_,_,_,.nil,s=>s
 | _,_,_,_,.cons r t,s=>.cons r (aM.append t s)
theorem aM.take:∀{xs:List V}{us:List Ws}(n:Nat),aM xs us->aM (xs.take n) (us.take n)
 | _,_,0,_=>.nil
 | _,_,_+1,.nil=>.nil
 | _,_,n+1,.cons r t=>.cons r (aM.take n t)
theorem aM.drop:∀{xs:List V}{us:List Ws}(n:Nat),aM xs us->aM (xs.drop n) (us.drop n)
 | _,_,0,r=>r
 | _,_,_+1,.nil=>.nil
 | _,_,n+1,.cons _ t=>aM.drop n t
def qJ:Option V->Option Ws->Prop
 | some v,some u=>aJ v u
 | none,none=>True
 | _,_=>False
def KV{κ:Type}:List (κ×V)->List (κ×Ws)->Prop:=Paired λ(p:κ×V) (q:κ×Ws)=>p.1=q.1/\aJ p.2 q.2
def kV:bp->V
 | .inl i=>.int i
 | .inr x=>.str x
inductive HO where
 | lst (xs:List V)
 | tup (xs:List V)
 | dK (kvs:List (bp×V)) | dT (kvs:List (List bp×V))
 | set (S:Int->Bool) (n:Nat)
 | ins (C dx:Wu) (fs:List (Str×V))
 | own (x:Wu)
 | xd (fs:List (Str×V))
 | met (f x:Wu)
 | rng (lo hi:Int)
 | frz (o:Obj) (u:HO)
 | tbl (ps:Array Ws)
 | cod (q:Str)
 | ext (φ:WG->Prop)
abbrev Hp:=Wu->Option HO
def ao(H:Hp)(a:Wu)(o:HO):Hp:=λb=>if b=a then some o else H b
theorem bu{H:Hp}{a:Wu}{o:HO}:ao H a o a=some o:=by unfold ao;rw [Wn rfl]
theorem ay{H:Hp}{a b:Wu}{o:HO}(h:b≠a):ao H a o b=H b:=by unfold ao;rw [Wm h]
theorem ky{H:Hp}{a b:Wu}{o:HO}(h:H a=some o)(h':H b=none):a≠b:=by
 intro e;subst e;rw [h] at h';cases h'
def GX(h:WG)(a:Wu)(q:Str):Prop:=∃oc vs t,h.get? a=some oc/\oc.data= .fields vs/\vs[1]?=some (.str q t)
def GY(H:Hp)(h:WG)(a:Wu)(q:Str):Prop:=∃ps:Array Ws,h.get? a=some {cls:= .none,data:= .fields ps}/\PySem.TriplesOk ps.toList/\∀pos cv,PySem.codeAmong pos ps.toList=some cv->∃c,cv= .ref c/\H c=some (.cod q)
section
variable (P:WH) (w:WJ)
def bI(H:Hp)(h:WG)(a:Wu):HO->Prop
 | .lst xs=>xs.length<=WA/\∃(its:List Ws)(n:Nat),aM xs its/\h.get? a=some {cls:= .type "list",data:= .seq its.toArray n}
 | .tup xs=>xs.length<=WA/\∃its:List Ws,aM xs its/\IsTup h a its.toArray
 | .dK kvs=>kvs.length<=WA/\(a==sysModules)=false/\∃vs,KV kvs vs/\h.DictOf (v5 P w) a vs
 | .dT kvs=>kvs.length<=WA/\(a==sysModules)=false/\∃xs:List (List bp×Wu×Ws),
  Paired (λ(p:List bp×V) (q:List bp×Wu×Ws)=>p.1=q.1/\H q.2.1=some (.tup (p.1.map kV))/\aJ p.2 q.2.2) kvs xs/\
  ∃o es ep,h.get? a=some o/\o.ExactDict/\o.data= .dict es ep/\es.toList=xs.map (entryOfKey (tupleKind (v5 P w)))/\(xs.map (·.1)).Nodup
 | .set S n=>h.SetOf (intKind P w) a S n
 | .ins C dx fs=>H dx=some (.own a)/\fs.length<=1000/\dx≠a/\h.get? a=some (Uy C dx)/\
  ∃mA,h.Ns1 dx mA/\(∀f,qJ (fs.lookup f) (mA f))/\V2 mA (fs.map (·.1))
 | .own _=>∃o,h.get? a=some o
 | .xd fs=>∃mA,h.Ns1 a mA/\∀f,qJ (fs.lookup f) (mA f)
 | .rng lo hi=>∃t u v,h.get? a=some {cls:= .type "range",data:= .fields #[.int lo t,.int hi u,.int 1 v]}
 | .frz o u=>h.get? a=some o/\bI H h a u
 | .tbl ps=>∃q t,ps[0]?=some (.str q t)/\GY H h a q
 | .cod q=>GX h a q
 | .met f x=>h.get? a=some (Ud (.ref f) (.ref x))
 | .ext φ=>φ h/\(∃o,h.get? a=some o)/\∀h1 h2:WG,φ h1->(∀o,h1.get? a=some o->h2.get? a=some o)->φ h2
def bQ(H:Hp)(h:WG):Prop:=∀a o,H a=some o->bI P w H h a o
end
section
variable {P:WH} {w:WJ} {H H':Hp} {h h':WG} {a:Wu} {o:HO}
theorem bI.lt(x:bI P w H h a o):a < h.objs.size:=by
 cases o with
 | lst xs=>obtain⟨_,_,_,_,e⟩:=x;exact PQ e
 | tup xs=>obtain⟨_,_,_,p⟩:=x;exact p.lt
 | dK kvs=>obtain⟨_,_,_,_,o,_,_,e,_⟩:=x;exact PQ e
 | dT kvs=>obtain⟨_,_,_,_,o,_,_,e,_⟩:=x;exact PQ e
 | set S n=>obtain⟨o,_,_,_,e,_⟩:=x;exact PQ e
 | ins C dx fs=>obtain⟨_,_,_,e,_⟩:=x;exact PQ e
 | own y=>obtain⟨_,e⟩:=x;exact PQ e
 | xd fs=>obtain⟨_,⟨_,_,_,e,_⟩,_⟩:=x;exact PQ e
 | rng lo hi=>obtain⟨_,_,_,e⟩:=x;exact PQ e
 | frz ob u=>obtain⟨e,_⟩:=x;exact PQ e
 | tbl ps=>obtain⟨_,_,_,_,e,_⟩:=x;exact PQ e
 | cod q=>obtain⟨_,_,_,e,_⟩:=x;exact PQ e
 | met f y=>exact PQ (show h.get? a=some _ from x)
 | ext φ=>obtain⟨_,⟨_,e⟩,_⟩:=x;exact PQ e
theorem Paired.mapP{α β:Type}{F G:α->β->Prop}:∀{l₁:List α}{l₂:List β},Paired F l₁ l₂->(∀a b,F a b->G a b)->Paired G l₁ l₂
 | _,_,.nil,_=>.nil
 | _,_,.cons r t,f=>.cons (f _ _ r) (Paired.mapP t f)
theorem bI.stay(x:bI P w H h a o)(k:∀b u,(b=a\/H b=some (.own a))->h.get? b=some u->h'.get? b=some u)
 (ho:∀b,H b=some (.own a)->H' b=some (.own a))(ht:∀b xs,H b=some (.tup xs)->H' b=some (.tup xs))(hc:∀b q,H b=some (.cod q)->H' b=some (.cod q)):bI P w H' h' a o:=by
 induction o with
 | lst xs=>obtain⟨z,its,n,r,e⟩:=x;exact⟨z,its,n,r,k _ _ (.inl rfl) e⟩
 | tup xs=>obtain⟨z,its,r,ob,e,c⟩:=x;exact⟨z,its,r,ob,k _ _ (.inl rfl) e,c⟩
 | dK kvs=>obtain⟨z,y,vs,r,ob,es,ep,e,c⟩:=x;exact⟨z,y,vs,r,ob,es,ep,k _ _ (.inl rfl) e,c⟩
 | dT kvs=>
  obtain⟨z,y,xs,r,ob,es,ep,e,c⟩:=x;exact⟨z,y,xs,Paired.mapP r λp q z=>⟨z.1,ht _ _ z.2.1,z.2.2⟩,ob,es,ep,k _ _ (.inl rfl) e,c⟩
 | set S n=>obtain⟨ob,es,ep,t,e,c⟩:=x;exact⟨ob,es,ep,t,k _ _ (.inl rfl) e,c⟩
 | ins C dx fs=>
  obtain⟨d,z,ne,e,mA,⟨od,es,ep,e2,c⟩,r⟩:=x;exact⟨ho _ d,z,ne,k _ _ (.inl rfl) e,mA,⟨od,es,ep,k _ _ (.inr d) e2,c⟩,r⟩
 | own y=>obtain⟨ob,e⟩:=x;exact⟨ob,k _ _ (.inl rfl) e⟩
 | xd fs=>obtain⟨mA,⟨od,es,ep,e,c⟩,r⟩:=x;exact⟨mA,⟨od,es,ep,k _ _ (.inl rfl) e,c⟩,r⟩
 | rng lo hi=>obtain⟨t,u,v,e⟩:=x;exact⟨t,u,v,k _ _ (.inl rfl) e⟩
 | frz ob u ih=>obtain⟨e,q⟩:=x;exact⟨k _ _ (.inl rfl) e,ih q⟩
 | tbl ps=>
  obtain⟨q,t,z,qs,e,tr,y⟩:=x;exact⟨q,t,z,qs,k _ _ (.inl rfl) e,tr,λpos cv w=>let ⟨c,e1,e2⟩:=y pos cv w;⟨c,e1,hc _ _ e2⟩⟩
 | cod q=>obtain⟨oc,vs,t,e,r⟩:=x;exact⟨oc,vs,t,k _ _ (.inl rfl) e,r⟩
 | met f y=>
  have e:h.get? a=some (Ud (.ref f) (.ref y)):=x;show h'.get? a=some (Ud (.ref f) (.ref y));exact k a _ (.inl rfl) e
 | ext φ=>obtain⟨p,⟨o,e⟩,st⟩:=x;exact⟨st _ _ p λo q=>k _ _ (.inl rfl) q,⟨o,k _ _ (.inl rfl) e⟩,st⟩
theorem bQ.lt(x:bQ P w H h)(e:H a=some o):a < h.objs.size:=(x a o e).lt
theorem bQ.fresh(x:bQ P w H h)(e:h.objs.size<=a):H a=none:=by
 cases q:H a with
 | none=>rfl
 | some u=>exact absurd (QX (x.lt q) e) (RP _)
theorem bQ.kept(x:bQ P w H h)(k:∀b u,h.get? b=some u->h'.get? b=some u):bQ P w H h':=λa o e=>
 (x a o e).stay (λb u _ q=>k b u q) (λ_ q=>q) (λ_ _ q=>q) λ_ _ q=>q
theorem bQ.laid(x:bQ P w H h)(k:∀b u,h.get? b=some u->h'.get? b=some u)(hp:h.objs.size<=a)(new:bI P w (ao H a o) h' a o):bQ P w (ao H a o) h':=λb u e=>by
 have hn:=x.fresh hp;by_cases hb:b=a
 ·subst hb;rw [bu] at e;cases e;exact new
 ·rw [ay hb] at e;exact(x b u e).stay (λc v _ q=>k c v q) (λc q=>by rw [ay (ky q hn)];exact q) (λc xs q=>by rw [ay (ky q hn)];exact q) λc xs q=>by rw [ay (ky q hn)];exact q
end
def Rd(H:Hp)(a:Wu)(u:HO):Prop:=H a=some u\/∃o,H a=some (.frz o u)
theorem Rd.ok{P:WH}{w:WJ}{H:Hp}{h:WG}{a:Wu}{u:HO}(r:Rd H a u)(x:bQ P w H h):bI P w H h a u:=by
 rcases r with r | ⟨o,r⟩
 ·exact x a u r
 ·obtain⟨_,q⟩:=x a _ r;exact q
def rZ:Option HO->Prop
 | some (.lst _)=>True
 | some (.dK _)=>True
 | some (.dT _)=>True
 | some (.set _ _)=>True
 | some (.ins _ _ _)=>True
 | some (.ext _)=>True
 | _=>False
section
variable {P:WH} {w:WJ} {H:Hp} {h h':WG} {x e:Wu} {o':HO}
theorem bQ.write(ok:bQ P w H h)(mu:rZ (H x))(he:e=x\/H e=some (.own x))(k:∀b u,b≠e->h.get? b=some u->h'.get? b=some u)(heo:∃u,h'.get? e=some u)
 (new:bI P w (ao H x o') h' x o'):bQ P w (ao H x o') h':=λb u q=>by
 have nown:∀c y,H c=some (.own y)->c≠x:=λc y r z=>by subst z;rw [r] at mu;exact mu
 have ntup:∀c xs,H c=some (.tup xs)->c≠x:=λc xs r z=>by subst z;rw [r] at mu;exact mu
 have ncod:∀c xs,H c=some (.cod xs)->c≠x:=λc xs r z=>by subst z;rw [r] at mu;exact mu
 by_cases hb:b=x
 ·subst hb;rw [bu] at q;cases q;exact new
 ·rw [ay hb] at q;by_cases hbe:b=e
  ·have q':H b=some (.own x):=by
    rcases he with z | z
    ·exact absurd (hbe.trans z) hb
    ·rw [hbe];exact z
   rw [q] at q';cases q';obtain⟨v,hv⟩:=heo;exact⟨v,by rw [hbe];exact hv⟩
  ·refine(ok b u q).stay (λc v hc r=>k c v ?_ r) (λc r=>by rw [ay (nown c b r)];exact r) (λc xs r=>by rw [ay (ntup c xs r)];exact r) λc xs r=>by rw [ay (ncod c xs r)];exact r
   rcases hc with rfl | hc
   ·exact hbe
   ·rintro rfl;rcases he with z | z
    ·exact nown c b hc z
    ·rw [hc] at z;cases z;exact hb rfl
end
structure Un (fs ex:List Wu) (H H':Hp) (h h':WG):Prop where
 keep:∀b o,h.get? b=some o->H b=none->b ∉ fs->b ∉ ex->h'.get? b=some o
 slot:∀b o,h.get? b=some o->H b=none->b∈fs->b ∉ ex->∃sl,h'.get? b=some {o with slots:=sl}
 free:∀b o,h.get? b=some o->H b=none->b ∉ ex->H' b=none
 there:∀b o,h.get? b=some o->b ∉ ex->∃o',h'.get? b=some o'
 tups:∀b xs,H b=some (.tup xs)->H' b=some (.tup xs)
 frzs:∀b o u,H b=some (.frz o u)->H' b=some (.frz o u)
 tbls:∀b ps,H b=some (.tbl ps)->∃more,H' b=some (.tbl (ps++more))
section
variable {fs fs' ex ex':List Wu} {H H1 H2:Hp} {h h1 h2 h':WG} {a x e:Wu} {o:HO}
theorem Un.any(u:Un fs ex H H1 h h1){b:Wu}{ob:Obj}(q:h.get? b=some ob)(n:H b=none)(hx:b ∉ ex):∃sl,h1.get? b=some {ob with slots:=sl}:=by
 by_cases hb:b∈fs
 ·exact u.slot b ob q n hb hx
 ·exact⟨ob.slots,u.keep b ob q n hb hx⟩
theorem Un.kept(k:∀b u,h.get? b=some u->h'.get? b=some u):Un fs ex H H h h':=
 ⟨λb ob q _ _ _=>k b ob q,λb ob q _ _ _=>⟨ob.slots,k b ob q⟩,λ_ _ _ n _=>n,λb ob q _=>⟨ob,k b ob q⟩,λ_ _ q=>q,λ_ _ _ q=>q,λ_ ps q=>⟨#[],by rw [q];simp⟩⟩
theorem Un.refl:Un fs ex H H h h:=Un.kept λ_ _ q=>q
theorem Un.laid(k:∀b u,h.get? b=some u->h'.get? b=some u)(hp:h.objs.size<=a)(hn:H a=none):Un fs ex H (ao H a o) h h' where
 keep:=λb u q _ _ _=>k b u q
 slot:=λb u q _ _ _=>⟨u.slots,k b u q⟩
 free:=λb u q n _=>by rw [ay (QF (QX (PQ q) hp))];exact n
 there:=λb u q _=>⟨u,k b u q⟩
 tups:=λb xs q=>by rw [ay (ky q hn)];exact q
 frzs:=λb u xs q=>by rw [ay (ky q hn)];exact q
 tbls:=λb ps q=>⟨#[],by rw [ay (ky q hn),q];simp⟩
theorem Un.write(mu:rZ (H x))(he:e=x\/H e=some (.own x))(k:∀b u,b≠e->h.get? b=some u->h'.get? b=some u)(heo:∃u,h'.get? e=some u):Un fs ex H (ao H x o) h h':=by
 have hx:∀b,H b=none->b≠x:=λb n z=>by subst z;rw [n] at mu;exact mu
 have hb:∀b,H b=none->b≠e:=λb n z=>by
  subst z;rcases he with r | r
  ·exact hx b n r
  ·rw [n] at r;cases r
 have hm:∀b u,H b=some u->¬rZ (some u)->b≠x:=λb u q nm z=>by subst z;rw [q] at mu;exact nm mu
 refine⟨λb u q n _ _=>k b u (hb b n) q,λb u q n _ _=>⟨u.slots,k b u (hb b n) q⟩,λb u q n _=>by rw [ay (hx b n)];exact n,λb u q _=>?_,
  λb xs q=>by rw [ay (hm b _ q λz=>z)];exact q,λb u xs q=>by rw [ay (hm b _ q λz=>z)];exact q,λb ps q=>⟨#[],by rw [ay (hm b _ q λz=>z),q];simp⟩⟩
 by_cases hbe:b=e
 ·subst hbe;exact heo
 ·exact⟨u,k b u hbe q⟩
end
def trk(h:WG)(H:Hp):List Wu:=(Rx h.objs.size).filter λa=>(H a).isSome
def n8(h:WG)(H:Hp):WG:=PySem.W.hideAll h (trk h H)
theorem GZ(h:WG)(H:Hp):(n8 h H).objs.size=h.objs.size:=PySem.W.hideAll_size _ _
theorem G0{h:WG}{H:Hp}{b:Wu}{o:Obj}(e:h.get? b=some o)(n:H b=none):(n8 h H).get? b=some o:=
 PySem.W.hideAll_get _ e λhm=>by
  have q:(H b).isSome=true:=(VF.mp hm).2;rw [n] at q;simp at q
theorem G1{h:WG}{H:Hp}{b:Wu}{o:Obj}(e:(n8 h H).get? b=some o):h.get? b=some o/\H b=none:=by
 have e':h.get? b=some o:=PySem.W.of_hideAll (trk h H) e;refine⟨e',?_⟩;cases q:H b with
 | none=>rfl
 | some x=>
  have hm:b∈trk h H:=VF.mpr ⟨Sa.mpr (PQ e'),by simp [q]⟩;have z:(n8 h H).get? b=none:=PySem.W.hideAll_none (trk h H) hm;rw [z] at e;cases e
def G2(g h:WG)(L:Wu):List (Wu×Obj):=(Rx h.objs.size).filterMap λa=>if a=L\/(g.get? a).isSome=true then none else(h.get? a).map λo=>(a,o)
def rest(g h:WG)(L d:Wu):List (Wu×Obj):=(G2 g h L).filter λp=>decide (p.1≠d)
structure Mod (K:Pq) (mg:Str->Option Ws) (base:WG):Prop where
 kin:K.In base
 glob:base.Ns WE mg
 blt:∃mb,base.Ns builtinsNs mb/\∀x:Str,x≠"__name__"->mb x=WO x
 nolimit:base.NoLimit
structure Cx where
 prog:WH
 w:WJ
 K:Pq
 mg:Str->Option Ws
 base:WG
 A:WL
 N:List Str
 s₀:Wv
 H₀:Hp
 env:Env
 outer:List Env
 stack:List Env
 ex:List Wu
 fn:Str->Bool
 calm:Bool
 pn:List (Wu×Obj)
 xe:Ws->Wv->Prop
def cF(l:List Env):List Wu:=l.filterMap (·.frame)
abbrev Cx.fs(X:Cx):List Wu:=cF X.outer
def sg(sc:WZ)(x:Str):Prop:=sc.names.lookup x=some .local\/sc.names.lookup x=some .cell\/sc.names.lookup x=some .free
def nH(sc:WZ)(x:Str):Prop:=sc.names.lookup x=some .local\/sc.names.lookup x=some .cell
def G3(env:Env)(h:WG)(m:Str->Option Ws)(x:Str)(u:Ws):Prop:=
 (env.kindOf x=some .local/\m x=some u)\/((env.kindOf x=some .cell\/env.kindOf x=some .free)/\∃c,env.cells.lookup x=some c/\h.IsCell c (some u))
structure Cx.Ok (X:Cx):Prop where
 mod:Mod X.K X.mg X.base
 kind:X.env.scope.kind= .function
 glob:X.env.globals=WE
 blt:X.env.builtins=builtinsNs
 above:X.s₀.heap.objs.size<=X.env.locals
 inj:∀x y c,X.env.cells.lookup x=some c->X.env.cells.lookup y=some c->x=y
 has:∀x,(X.env.kindOf x=some .cell\/X.env.kindOf x=some .free)->∃c,X.env.cells.lookup x=some c
 cab:∀x c,X.fn x=true->X.env.cells.lookup x=some c->X.s₀.heap.objs.size<=c
 hd:X.calm=true->X.A.handled=none
 frames:X.A.frames=some X.stack
 stk:X.stack=X.outer\/(X.stack=X.env::X.outer/\X.env.frame=some X.env.locals)
 exf:∀b∈X.ex,b≠X.env.locals/\∀x c,X.env.cells.lookup x=some c->c≠b
 bs:∀b o,X.base.get? b=some o->X.s₀.heap.get? b=some o/\X.H₀ b=none
 bsz:X.base.objs.size<=X.s₀.heap.objs.size
 noex:∀b o,X.base.get? b=some o->b ∉ X.ex
 exfs:∀b∈X.ex,b ∉ X.fs
 funs:X.s₀.heap.FunFrames X.base X.outer
 frf:∀b∈X.fs,X.H₀ b=none
structure ag (X:Cx) (Yn:List (Wu×Obj)) (σ:List (Option V)) (H:Hp) (s:Wv):Prop where
 ok:X.Ok
 os:s.os=X.s₀.os
 bare:XJ s.gens
 base:Un X.fs X.ex X.H₀ H X.s₀.heap s.heap
 loc:∃m,s.heap.Ns X.env.locals m/\∀(i:Nat)(x:Str)(v:V),X.N[i]?=some x->σ[i]?=some (some v)->sg X.env.scope x->∃u,aJ v u/\G3 X.env s.heap m x u
 cell:∀x c,X.env.cells.lookup x=some c->∃v,s.heap.IsCell c v
 free:H X.env.locals=none
 freeC:∀x c,X.env.cells.lookup x=some c->H c=none
 pin:∀p∈X.pn++Yn,s.heap.get? p.1=some p.2/\H p.1=none/\p.1≠X.env.locals/\p.1 ∉ X.fs/\∀v,p.2.data≠ .cell v
 hok:bQ X.prog X.w H s.heap
 len:σ.length=X.N.length
section
variable {X:Cx} {Yn:List (Wu×Obj)} {σ:List (Option V)} {H H':Hp} {s:Wv} {h':WG}
theorem Cx.Ok.nofr(ok:X.Ok){b:Wu}{o:Obj}(e:X.base.get? b=some o):b ∉ X.fs:=λhb=>by
 have:=(ok.funs.mem hb).1;rw [e] at this;cases this
theorem ag.bs(I:ag X Yn σ H s):∀b o,X.base.get? b=some o->s.heap.get? b=some o/\H b=none:=λb o e=>
 ⟨I.base.keep b o (I.ok.bs b o e).1 (I.ok.bs b o e).2 (I.ok.nofr e) (I.ok.noex b o e),I.base.free b o (I.ok.bs b o e).1 (I.ok.bs b o e).2 (I.ok.noex b o e)⟩
theorem ag.bk(I:ag X Yn σ H s):∀b o,X.base.get? b=some o->s.heap.get? b=some o:=λb o e=>(I.bs b o e).1
theorem ag.mod(I:ag X Yn σ H s):Mod X.K X.mg X.base:=I.ok.mod
theorem ag.kIn(I:ag X Yn σ H s):X.K.In s.heap:=I.ok.mod.kin.keeps I.bk
theorem ag.fr(I:ag X Yn σ H s):∃m,Fr X.base X.env.locals s.heap m:=
 let ⟨m,hn,_⟩:=I.loc
 ⟨m,hn,I.bk,Qt I.ok.bsz I.ok.above⟩
theorem ag.lt(I:ag X Yn σ H s):X.env.locals < s.heap.objs.size:=let ⟨_,hn,_⟩:=I.loc;hn.lt
theorem ag.sz(I:ag X Yn σ H s):X.s₀.heap.objs.size<=s.heap.objs.size:=Qt I.ok.above (SX I.lt)
theorem ag.nofs(I:ag X Yn σ H s){a:Wu}(h:s.heap.objs.size<=a):a ∉ X.fs:=λhb=>by
 obtain⟨_,o,ho,_⟩:=I.ok.funs.mem hb;exact absurd (QX (PQ ho) (Qt I.sz h)) (RP _)
theorem ag.cne(I:ag X Yn σ H s):∀x c,X.env.cells.lookup x=some c->c≠X.env.locals:=λx c e z=>by
 obtain⟨v,o,ho,hd⟩:=I.cell x c e;obtain⟨m,⟨o',es,ep,ho',hd',_⟩,_⟩:=I.loc;rw [z,ho'] at ho;cases ho;rw [hd'] at hd;cases hd
theorem ag.funs(I:ag X Yn σ H s):s.heap.FunFrames X.base X.outer:=by
 have all:∀(l:List Env),(∀b∈cF l,b∈X.fs)->X.s₀.heap.FunFrames X.base l->s.heap.FunFrames X.base l:=by
  intro l
  induction l with
  | nil=>intro _ _;trivial
  | cons env r ih=>
   intro hs hl;obtain⟨hk,⟨L,o,hf,hn,ho,hd⟩,hr⟩:=hl;have hL:L∈X.fs:=hs L (by unfold cF;rw [TR,hf];exact RC);obtain⟨sl,e⟩:=I.base.slot L o ho (I.ok.frf L hL) hL λz=>I.ok.exfs L z hL;exact⟨hk,⟨L,_,hf,hn,e,hd⟩,ih (λb hb=>hs b (by unfold cF;rw [TR,hf];exact Q2 _ hb)) hr⟩
 exact all X.outer (λ_ hb=>hb) I.ok.funs
theorem ag.stack(I:ag X Yn σ H s):s.heap.FunFrames X.base X.stack:=by
 rcases I.ok.stk with e | ⟨e,hf⟩
 ·rw [e];exact I.funs
 ·rw [e];obtain⟨m,hn,_⟩:=I.loc;refine .cons (by rw [I.ok.kind];decide) hf hn ?_ I.funs;exact S8 (Qt I.ok.bsz I.ok.above)
theorem ag.stkSub(I:ag X Yn σ H s):∀b∈cF X.stack,b∈X.env.locals::X.fs:=λb hb=>by
 rcases I.ok.stk with e | ⟨e,hf⟩
 ·rw [e] at hb;exact Q2 _ hb
 ·rw [e] at hb;unfold cF at hb;rw [TR,hf] at hb;exact hb
theorem ag.stkFree(I:ag X Yn σ H s):∀b∈cF X.stack,H b=none:=λb hb=>by
 rcases Pz.mp (I.stkSub b hb) with e | hb
 ·rw [e];exact I.free
 ·obtain⟨_,o,ho,_⟩:=I.ok.funs.mem hb;exact I.base.free b o ho (I.ok.frf b hb) λz=>I.ok.exfs b z hb
theorem ag.step{g':Array XT}{t':Nat}{d':Drawn}{ch:List Wu}(I:ag X Yn σ H s)
 (hch:∀b∈ch,(b∈X.ex\/X.s₀.heap.objs.size<=b)/\b≠X.env.locals/\(∀x c,X.env.cells.lookup x=some c->c≠b)/\∀p∈X.pn++Yn,p.1≠b)
 (keep:∀b o,b≠X.env.locals->b ∉ X.fs->b ∉ ch->s.heap.get? b=some o->H b=none->h'.get? b=some o)
 (slot:∀b o,b≠X.env.locals->b∈X.fs->b ∉ ch->s.heap.get? b=some o->H b=none->∃sl,h'.get? b=some {o with slots:=sl})(free:∀b o,b ∉ ch->s.heap.get? b=some o->H b=none->H' b=none)
 (there:∀b o,b ∉ ch->s.heap.get? b=some o->∃o',h'.get? b=some o')
 (tups:∀b xs,H b=some (.tup xs)->H' b=some (.tup xs))(frzs:∀b o u,H b=some (.frz o u)->H' b=some (.frz o u))(tbls:∀b ps,H b=some (.tbl ps)->∃more,H' b=some (.tbl (ps++more)))
 (ns:∀m,s.heap.Ns X.env.locals m->h'.Ns X.env.locals m)(hok:bQ X.prog X.w H' h')(hg:XJ g'):
 ag X Yn σ H' {s with heap:=h',gens:=g',drawn:=d',toks:=t'}:=by
 have neL:∀b o,X.s₀.heap.get? b=some o->b≠X.env.locals:=λb o e=>QF (QX (PQ e) I.ok.above);have neC:∀b o,X.s₀.heap.get? b=some o->b ∉ X.ex->b ∉ ch:=λb o e hx hb=>by
  rcases(hch b hb).1 with z | z
  ·exact hx z
  ·exact absurd (QX (PQ e) z) (RP _)
 have cellK:∀x c,X.env.cells.lookup x=some c->∀v,s.heap.IsCell c v->h'.IsCell c v:=λx c e v uu1=>by
  obtain⟨o,ho,hd⟩:=uu1;have nch:c ∉ ch:=λz=>(hch c z).2.2.1 x c e rfl;by_cases hc:c∈X.fs
  ·obtain⟨sl,q⟩:=slot c o (I.cne x c e) hc nch ho (I.freeC x c e);exact⟨_,q,hd⟩
  ·exact⟨o,keep c o (I.cne x c e) hc nch ho (I.freeC x c e),hd⟩
 refine⟨I.ok,I.os,hg,⟨λb o e n hb hx=>?_,λb o e n hb hx=>?_,λb o e n hx=>?_,λb o e hx=>?_,λb xs e=>tups b xs (I.base.tups b xs e),λb o xs e=>frzs b o xs (I.base.frzs b o xs e),λb ps e=>?_⟩,?_,λx c e=>?_,?_,λx c e=>?_,λp hp=>?_,hok,I.len⟩
 ·exact keep b o (neL b o e) hb (neC b o e hx) (I.base.keep b o e n hb hx) (I.base.free b o e n hx)
 ·obtain⟨sl,e1⟩:=I.base.slot b o e n hb hx;obtain⟨sl',e2⟩:=slot b _ (neL b o e) hb (neC b o e hx) e1 (I.base.free b o e n hx);exact⟨sl',e2⟩
 ·obtain⟨o',e1⟩:=I.base.there b o e hx;exact free b o' (neC b o e hx) e1 (I.base.free b o e n hx)
 ·obtain⟨o',e1⟩:=I.base.there b o e hx;exact there b o' (neC b o e hx) e1
 ·obtain⟨m1,e1⟩:=I.base.tbls b ps e;obtain⟨m2,e2⟩:=tbls b _ e1;exact⟨m1++m2,by rw [e2,Array.append_assoc]⟩
 ·obtain⟨m,hn,hl⟩:=I.loc;refine⟨m,ns m hn,λi x v e1 e2 e3=>?_⟩;obtain⟨u,r,l⟩:=hl i x v e1 e2 e3;refine⟨u,r,?_⟩;rcases l with l | ⟨k,c,e,z⟩
  ·exact .inl l
  ·exact .inr ⟨k,c,e,cellK x c e _ z⟩
 ·obtain⟨v,z⟩:=I.cell x c e;exact⟨v,cellK x c e v z⟩
 ·obtain⟨m,⟨o,_,_,ho,_⟩,_⟩:=I.loc;exact free _ o (λz=>(hch _ z).2.1 rfl) ho I.free
 ·obtain⟨v,o,ho,hd⟩:=I.cell x c e;exact free c o (λz=>(hch c z).2.2.1 x c e rfl) ho (I.freeC x c e)
 ·obtain⟨e,n,ne,nf,d⟩:=I.pin p hp;have nch:p.1 ∉ ch:=λz=>(hch p.1 z).2.2.2 p hp rfl;exact⟨keep p.1 p.2 ne nf nch e n,free p.1 p.2 nch e n,ne,nf,d⟩
theorem ag.un{t':Nat}(I:ag X Yn σ H s)(u:Un X.fs [] H H' s.heap h')(hok:bQ X.prog X.w H' h'):ag X Yn σ H' {s with heap:=h',toks:=t'}:=by
 obtain⟨m,⟨o,es,ep,ho,r⟩,_⟩:=id I.loc;obtain⟨sl,hL⟩:=u.any ho I.free Wq;exact I.step (g':=s.gens) (d':=s.drawn) (ch:=[]) (λ_ z=>nomatch z) (λb o _ hb _ e n=>u.keep b o e n hb Wq) (λb o _ hb _ e n=>u.slot b o e n hb Wq) (λb o _ e n=>u.free b o e n Wq) (λb o _ e=>u.there b o e Wq) u.tups u.frzs u.tbls (λm' hm=>by
  obtain⟨o',es',ep',ho',r'⟩:=hm;rw [ho] at ho';cases ho';exact⟨_,es',ep',hL,r'⟩) hok I.bare
theorem ag.call{g':Array XT}{t':Nat}{d':Drawn}{ch:List Wu}(I:ag X Yn σ H s)(u:Un (cF X.stack) ch H H' s.heap h')(hok:bQ X.prog X.w H' h')(hg:XJ g')
 (hch:∀b∈ch,(b∈X.ex\/X.s₀.heap.objs.size<=b)/\b≠X.env.locals/\(∀x c,X.env.cells.lookup x=some c->c≠b)/\∀p∈X.pn++Yn,p.1≠b):
 ag X Yn σ H' {s with heap:=h',gens:=g',drawn:=d',toks:=t'}:=by
 obtain⟨m,⟨o,es,ep,ho,r⟩,_⟩:=id I.loc;obtain⟨sl,hL⟩:=u.any ho I.free λz=>(hch _ z).2.1 rfl;exact I.step (ch:=ch) hch (λb o hL hb hc e n=>u.keep b o e n (λz=>(Pz.mp (I.stkSub b z)).elim hL hb) hc) (λb o _ _ hc e n=>u.any e n hc) (λb o hc e n=>u.free b o e n hc) (λb o hc e=>u.there b o e hc) u.tups u.frzs u.tbls (λm' hm=>by
  obtain⟨o',es',ep',ho',r'⟩:=hm;rw [ho] at ho';cases ho';exact⟨_,es',ep',hL,r'⟩) hok hg
theorem ag.turned{t':Nat}{it:Wu}(I:ag X Yn σ H s)(k:∀b o,b≠it->s.heap.get? b=some o->h'.get? b=some o)(hn:H it=none)(hL:it≠X.env.locals)
 (h1:it∈X.ex\/X.s₀.heap.objs.size<=it)(h2:∀x c,X.env.cells.lookup x=some c->c≠it)(h3:∀p∈X.pn++Yn,p.1≠it):ag X Yn σ H {s with heap:=h',toks:=t'}:=by
 have nit:∀b u,H b=some u->b≠it:=λb u e z=>by rw [z,hn] at e;cases e
 refine I.step (g':=s.gens) (d':=s.drawn) (ch:=[it]) (λb hb=>?_) (λb o _ _ hc e _=>k b o (λz=>hc (by simp [z])) e) (λb o _ _ hc e _=>⟨o.slots,k b o (λz=>hc (by simp [z])) e⟩) (λ_ _ _ _ n=>n)
  (λb o hc e=>⟨o,k b o (λz=>hc (by simp [z])) e⟩) (λ_ _ e=>e) (λ_ _ _ e=>e) (λb ps e=>⟨#[],by rw [e];simp⟩) (λm hm=>?_) (λb u e=>?_) I.bare
 ·have e:b=it:=by simpa using hb
  subst e;exact⟨h1,hL,h2,h3⟩
 ·obtain⟨o,es,ep,ho,r⟩:=hm;exact⟨o,es,ep,k _ o (Ne.symm hL) ho,r⟩
 ·refine(I.hok b u e).stay (λc v hc q=>k c v ?_ q) (λ_ q=>q) (λ_ _ q=>q) λ_ _ q=>q;rcases hc with z | z
  ·rw [z];exact nit b u e
  ·exact nit c _ z
theorem ag.tok(I:ag X Yn σ H s)(t:Nat):ag X Yn σ H {s with toks:=t}:=I.un (h':=s.heap) (t':=t) Un.refl I.hok
theorem ag.kept{t':Nat}(I:ag X Yn σ H s)(k:∀b u,s.heap.get? b=some u->h'.get? b=some u):ag X Yn σ H {s with heap:=h',toks:=t'}:=I.un (Un.kept k) (I.hok.kept k)
theorem ag.laid{a:Wu}{o:HO}{t':Nat}(I:ag X Yn σ H s)(k:∀b u,s.heap.get? b=some u->h'.get? b=some u)(hp:s.heap.objs.size<=a)(new:bI X.prog X.w (ao H a o) h' a o):
 ag X Yn σ (ao H a o) {s with heap:=h',toks:=t'}:=I.un (Un.laid k hp (I.hok.fresh hp)) (I.hok.laid k hp new)
theorem ag.write{x e:Wu}{o:HO}{t':Nat}(I:ag X Yn σ H s)(mu:rZ (H x))(he:e=x\/H e=some (.own x))(k:∀b u,b≠e->s.heap.get? b=some u->h'.get? b=some u)(heo:∃u,h'.get? e=some u)
 (new:bI X.prog X.w (ao H x o) h' x o):ag X Yn σ (ao H x o) {s with heap:=h',toks:=t'}:=I.un (Un.write mu he k heo) (I.hok.write mu he k heo new)
theorem ag.weak{σ':List (Option V)}(I:ag X Yn σ H s)(hl:σ'.length=σ.length)(w:∀(i:Nat) v,σ'[i]?=some (some v)->σ[i]?=some (some v)):ag X Yn σ' H s:=
 ⟨I.ok,I.os,I.bare,I.base,let ⟨m,hn,hl'⟩:=I.loc;⟨m,hn,λi x v e1 e2 e3=>hl' i x v e1 (w i v e2) e3⟩,I.cell,I.free,I.freeC,I.pin,I.hok,hl.trans I.len⟩
theorem ag.pins_of{pins':List (Wu×Obj)}(I:ag X Yn σ H s)(h:∀p∈pins',s.heap.get? p.1=some p.2/\H p.1=none/\p.1≠X.env.locals/\p.1 ∉ X.fs/\∀v,p.2.data≠ .cell v):ag X pins' σ H s:=
 ⟨I.ok,I.os,I.bare,I.base,I.loc,I.cell,I.free,I.freeC,λp hp=>(Rq.mp hp).elim (λz=>I.pin p (UT _ z)) (h p),I.hok,I.len⟩
theorem v7{N:List Str}(hN:N.Nodup){i j:Nat}{x:Str}(a:N[i]?=some x)(b:N[j]?=some x):i=j:=by
 obtain⟨h1,e1⟩:=Ql.mp a;obtain⟨h2,e2⟩:=Ql.mp b;exact(List.getElem_inj hN).mp (e1.trans e2.symm)
theorem BW{M:XM}{A:WL}{E:Ws->Wv->Prop}{i:Nat}{x:Str}{v:V}{u:Ws}{Q:Unit->Wv->Prop}(I:ag X Yn σ H s)(hN:X.N.Nodup)(hi:X.N[i]?=some x)(hx:nH X.env.scope x)(r:aJ v u)
 (h:∀s',ag X Yn (σ.set i (some v)) H s'->(∃a,Sq a s.heap s'.heap/\(a=X.env.locals\/X.env.cells.lookup x=some a))->Q () s')(hf:X.fn x=true\/X.env.scope.names.lookup x=some .local:=by first | exact .inl rfl | exact .inr rfl | assumption):Wx M A (storeName X.env x u) Q E s:=by
 obtain⟨m,hn,hl⟩:=id I.loc;have hcls:(X.env.scope.kind== .class || (X.env.scope.kind== .module && X.env.locals !=X.env.globals))=false:=by rw [I.ok.kind];rfl
 have hiσ:i < σ.length:=by rw [I.len];exact(Ql.mp hi).1
 have cne:=I.cne;have tracked:∀{a:Wu}{h':WG},(∃o,s.heap.get? a=some o/\H a=none)->Sq a s.heap h'->bQ X.prog X.w H h':=λ{a h'} ha hs b ob e=>by
  obtain⟨_,_,hfree⟩:=ha;refine(I.hok b ob e).stay (λc w' hc q=>(hs.2 c ?_).trans q) (λ_ q=>q) (λ_ _ q=>q) λ_ _ q=>q;rintro rfl;rcases hc with rfl | hc
  ·rw [hfree] at e;cases e
  ·rw [hfree] at hc;cases hc
 rcases hx with hk | hk
 ·refine wpAny_storeName_local hk hn (λh' hn' hs=>?_) hcls;obtain⟨oL,_,_,hoL,_⟩:=id hn;refine h _ ⟨I.ok,I.os,I.bare,⟨λb o e n hb hx=>?_,λb o e n hb hx=>?_,I.base.free,λb o e hx=>?_,I.base.tups,I.base.frzs,I.base.tbls⟩,⟨_,hn',λj y v' e1 e2 e3=>?_⟩,λy c e=>?_,I.free,I.freeC,λp hp=>?_,tracked ⟨oL,hoL,I.free⟩ hs,by simpa using I.len⟩ ⟨_,hs,.inl rfl⟩
  ·exact(hs.2 b (QF (QX (PQ e) I.ok.above))).trans (I.base.keep b o e n hb hx)
  ·obtain⟨sl,e1⟩:=I.base.slot b o e n hb hx;exact⟨sl,(hs.2 b (QF (QX (PQ e) I.ok.above))).trans e1⟩
  ·obtain⟨o',e1⟩:=I.base.there b o e hx;exact⟨o',(hs.2 b (QF (QX (PQ e) I.ok.above))).trans e1⟩
  ·by_cases hj:j=i
   ·subst hj;rw [hi] at e1;cases e1;rw [Rg hiσ] at e2;cases e2;exact⟨u,r,.inl ⟨hk,Wq⟩⟩
   ·rw [Q3 (Ne.symm hj)] at e2;obtain⟨u',r',q⟩:=hl j y v' e1 e2 e3;refine⟨u',r',?_⟩;rcases q with⟨k,e⟩ | ⟨k,c,e,z⟩
    ·refine .inl ⟨k,?_⟩;have:y≠x:=λe=>hj (v7 hN e1 (e▸hi));simp [this,e]
    ·exact .inr ⟨k,c,e,z.sameBut hs (cne y c e)⟩
  ·obtain⟨w',z⟩:=I.cell y c e;exact⟨w',z.sameBut hs (cne y c e)⟩
  ·obtain⟨e,n,ne,nf,d⟩:=I.pin p hp;exact⟨(hs.2 p.1 ne).trans e,n,ne,nf,d⟩
 ·have hfn:X.fn x=true:=by
   rcases hf with z | z
   ·exact z
   ·rw [z] at hk;cases hk
  obtain⟨c,hc⟩:=I.ok.has x (.inl hk);obtain⟨w',z⟩:=I.cell x c hc;refine wpAny_storeName_cell I.ok.kind hk hc z (λh' hc' hs=>?_);obtain⟨oc,hoc,hocd⟩:=id z;refine h {s with heap:=h'} ⟨I.ok,I.os,I.bare,⟨λb o e n hb hx=>?_,λb o e n hb hx=>?_,I.base.free,λb o e hx=>?_,I.base.tups,I.base.frzs,I.base.tbls⟩,⟨m,hn.sameBut hs (Ne.symm (cne x c hc)),λj y v' e1 e2 e3=>?_⟩,λy c' e=>?_,I.free,I.freeC,λp hp=>?_,tracked ⟨oc,hoc,I.freeC x c hc⟩ hs,by simpa using I.len⟩ ⟨c,hs,.inr hc⟩
  ·exact(hs.2 b (QF (QX (PQ e) (I.ok.cab x c hfn hc)))).trans (I.base.keep b o e n hb hx)
  ·obtain⟨sl,e1⟩:=I.base.slot b o e n hb hx;exact⟨sl,(hs.2 b (QF (QX (PQ e) (I.ok.cab x c hfn hc)))).trans e1⟩
  ·obtain⟨o',e1⟩:=I.base.there b o e hx;exact⟨o',(hs.2 b (QF (QX (PQ e) (I.ok.cab x c hfn hc)))).trans e1⟩
  ·by_cases hj:j=i
   ·subst hj;rw [hi] at e1;cases e1;rw [Rg hiσ] at e2;cases e2;exact⟨u,r,.inr ⟨.inl hk,c,hc,hc'⟩⟩
   ·rw [Q3 (Ne.symm hj)] at e2;obtain⟨u',r',q⟩:=hl j y v' e1 e2 e3;refine⟨u',r',?_⟩;rcases q with q | ⟨k,c',e,z'⟩
    ·exact .inl q
    ·refine .inr ⟨k,c',e,z'.sameBut hs ?_⟩;rintro rfl;exact hj (v7 hN e1 (I.ok.inj _ _ _ e hc▸hi))
  ·by_cases hcc:c'=c
   ·subst hcc;exact⟨_,hc'⟩
   ·obtain⟨w2,z2⟩:=I.cell y c' e;exact⟨w2,z2.sameBut hs hcc⟩
  ·obtain⟨e,n,ne,nf,d⟩:=I.pin p hp;refine⟨(hs.2 p.1 ?_).trans e,n,ne,nf,d⟩;intro q;rw [q,hoc] at e;have q':oc=p.2:=Ri e;exact d w' (by rw [<-q'];exact hocd)
theorem pT{M:XM}{A:WL}{E:Ws->Wv->Prop}{i:Nat}{x:Str}{v:V}{u:Ws}{Q:Unit->Wv->Prop}(I:ag X Yn σ H s)(hN:X.N.Nodup)(hi:X.N[i]?=some x)(hx:nH X.env.scope x)(r:aJ v u)
 (h:∀s',ag X Yn (σ.set i (some v)) H s'->Q () s')(hf:X.fn x=true\/X.env.scope.names.lookup x=some .local:=by first | exact .inl rfl | exact .inr rfl | assumption):Wx M A (storeName X.env x u) Q E s:=
 BW I hN hi hx r (λs' I' _=>h s' I') hf
theorem ag.call'{s':Wv}{ch:List Wu}(I:ag X Yn σ H s)(ho:s'.os=s.os)(u:Un (cF X.stack) ch H H' s.heap s'.heap)(hok:bQ X.prog X.w H' s'.heap)(hg:XJ s'.gens)
 (hch:∀b∈ch,(b∈X.ex\/X.s₀.heap.objs.size<=b)/\b≠X.env.locals/\(∀x c,X.env.cells.lookup x=some c->c≠b)/\∀p∈X.pn++Yn,p.1≠b):ag X Yn σ H' s':=by
 obtain⟨h',g',d',t',o'⟩:=s';have e:o'=s.os:=ho;subst e;exact I.call (g':=g') (t':=t') (d':=d') u hok hg hch
end
abbrev XK:=Ws->Option Wu->Hp->Prop
abbrev St:=List (Option V)
abbrev VK:=V->Hp->Prop
abbrev TE:=St->Hp->VK->Prop
abbrev TT:=St->Hp->(Bool->Hp->Prop)->Prop
abbrev TA:=St->Hp->(List V->Hp->Prop)->Prop
structure nI where
 nx:St->Hp->Prop
 rt:VK
 bk:St->Hp->Prop:=λ_ _=>False
 ct:St->Hp->Prop:=λ_ _=>False
abbrev TS:=nI->St->Hp->Prop
inductive EP (X:Cx) (Yn:List (Wu×Obj)) (σ:St) (Q:VK) (u:Ws) (s':Wv):Prop
 | mk (v:V) (H':Hp):ag X Yn σ H' s'->aJ v u->Q v H'->EP X Yn σ Q u s'
inductive TP (X:Cx) (Yn:List (Wu×Obj)) (σ:St) (Q:Bool->Hp->Prop) (b:Bool) (s':Wv):Prop
 | mk (H':Hp):ag X Yn σ H' s'->Q b H'->TP X Yn σ Q b s'
inductive AP (X:Cx) (Yn:List (Wu×Obj)) (σ:St) (Q:List V->Hp->Prop) (us:List Ws) (s':Wv):Prop
 | mk (vs:List V) (H':Hp):ag X Yn σ H' s'->aM vs us->Q vs H'->AP X Yn σ Q us s'
def SP(X:Cx)(Yn:List (Wu×Obj))(D:nI)(f:Flow)(s':Wv):Prop:=
 match f with
 | .next=>∃σ' H',ag X Yn σ' H' s'/\D.nx σ' H'
 | .brk=>∃σ' H',ag X Yn σ' H' s'/\D.bk σ' H'
 | .cont=>∃σ' H',ag X Yn σ' H' s'/\D.ct σ' H'
 | .ret u=>∃v σ' H',ag X Yn σ' H' s'/\aJ v u/\D.rt v H'
def PE(X:Cx)(e:WC)(t:TE):Prop:=
 ∀(Yn:List (Wu×Obj))(s:Wv)(σ:St)(H:Hp)(Q:VK),ag X Yn σ H s->t σ H Q->Wx (Wy X.prog X.w) X.A (eval e X.env) (EP X Yn σ Q) X.xe s
def PT(X:Cx)(e:WC)(t:TT):Prop:=
 ∀(Yn:List (Wu×Obj))(s:Wv)(σ:St)(H:Hp)(Q:Bool->Hp->Prop),ag X Yn σ H s->t σ H Q->Wx (Wy X.prog X.w) X.A (isTrue e X.env (eval e X.env)) (TP X Yn σ Q) X.xe s
def PW(X:Cx)(e:WC)(t:TT):Prop:=
 ∀(whole:Sem Ws)(Yn:List (Wu×Obj))(s:Wv)(σ:St)(H:Hp)(Q:Bool->Hp->Prop),ag X Yn σ H s->t σ H Q->Wx (Wy X.prog X.w) X.A (isTrue e X.env whole) (TP X Yn σ Q) X.xe s
theorem PW.pt{X:Cx}{e:WC}{t:TT}(h:PW X e t):PT X e t:=h _
def PA(X:Cx)(es:List WC)(t:TA):Prop:=
 ∀(pos:Pos)(Yn:List (Wu×Obj))(s:Wv)(σ:St)(H:Hp)(Q:List V->Hp->Prop),ag X Yn σ H s->t σ H Q->Wx (Wy X.prog X.w) X.A (spliced (WU pos (WB es X.env))) (AP X Yn σ Q) X.xe s
def PS(X:Cx)(st:WK)(t:TS):Prop:=
 ∀(Yn:List (Wu×Obj))(s:Wv)(σ:St)(H:Hp)(D:nI),ag X Yn σ H s->t D σ H->Wx (Wy X.prog X.w) X.A (exec st X.env) (SP X Yn D) X.xe s
def bG(X:Cx)(st:List WK)(t:TS):Prop:=
 ∀(Yn:List (Wu×Obj))(s:Wv)(σ:St)(H:Hp)(D:nI),ag X Yn σ H s->t D σ H->Wx (Wy X.prog X.w) X.A (execs st X.env) (SP X Yn D) X.xe s
theorem aC{α:Type}{t:Sem α}{Q Q':α->Wv->Prop}{M:XM}{A:WL}{E:Ws->Wv->Prop}{s:Wv}(h:Wx M A t Q E s)(hQ:∀a s,Q a s->Q' a s):Wx M A t Q' E s:=WR h hQ λ_ _ x=>x
section
variable {X:Cx}
theorem Pm{a b:WC}{ta tb:TE}(ha:PE X a ta)(hb:PE X b tb){Yn:List (Wu×Obj)}{s:Wv}{σ:St}{H:Hp}{R:V->V->Hp->Prop}(I:ag X Yn σ H s)(h:ta σ H λx H1=>tb σ H1 λy H2=>R x y H2)
 {α:Type}{Q:α->Wv->Prop}{f:Ws->Ws->Sem α}
 (hf:∀v u s2 x y H2,ag X Yn σ H2 s2->aJ x v->aJ y u->R x y H2->Wx (Wy X.prog X.w) X.A (f v u) Q X.xe s2):
 Wx (Wy X.prog X.w) X.A (eval a X.env) (λv s₁=>Wx (Wy X.prog X.w) X.A (eval b X.env) (λu s₂=>Wx (Wy X.prog X.w) X.A (f v u) Q X.xe s₂) X.xe s₁) X.xe s:=by
 refine aC (ha Yn s σ H _ I h) λv s1 ⟨x,H1,I1,r1,q1⟩=>?_;refine aC (hb Yn s1 σ H1 _ I1 q1) λu s2 ⟨y,H2,I2,r2,q2⟩=>?_;exact hf v u s2 x y H2 I2 r1 r2 q2
def n9(i:Nat):TE:=λσ H Q=>∃v,σ[i]?=some (some v)/\Q v H
def tC(v:V):TE:=λ_ H Q=>Q v H
theorem pU{i:Nat}{x:Str}{pos:Pos}(hN:X.N[i]?=some x)(hv:sg X.env.scope x)(hd:(x==("__debug__":Str))=false:=by decide)(hcd:(x==("__classdict__":Str))=false:=by decide):PE X (.Name x pos) (n9 i):=by
 intro Yn s σ H Q I h;obtain⟨v,e,h⟩:=h;obtain⟨m,hn,hl⟩:=I.loc;obtain⟨u,r,l⟩:=hl i x v hN e hv;have fin:EP X Yn σ Q u s:=⟨v,H,I,r,h⟩;rcases l with⟨hk,hm⟩ | ⟨hk,c,hc,hcell⟩
 ·exact wpAny_Name (wpAny_loadName_local I.ok.kind hk hn hm fin) hd
 ·rcases hk with hk | hk
  ·exact wpAny_Name (wpAny_loadName_cell I.ok.kind hk hc hcell fin) hd
  ·exact wpAny_Name (wpAny_loadName_free I.ok.kind hk hc hcell fin hcd) hd
theorem cG{i j pos}:PE X (.Constant (.int i) j pos) (tC (.int i)):=λ_ _ _ H _ I h=>wpAny_Constant_int ⟨.int i,H,I.tok _,⟨_,rfl⟩,h⟩
theorem v9{b j pos}:PE X (.Constant (.bool b) j pos) (tC (.bl b)):=λ_ _ _ H _ I h=>Constant_bool ⟨.bl b,H,I,rfl,h⟩
theorem pV{j pos}:PE X (.Constant .none j pos) (tC .non):=λ_ _ _ H _ I h=>Constant_none ⟨.non,H,I,rfl,h⟩
theorem wj{x j pos}:PE X (.Constant (.str x) j pos) (tC (.str x)):=λ_ _ _ H _ I h=>Calls.Constant_str ⟨.str x,H,I.tok _,⟨_,rfl⟩,h⟩
def Gl(X:Cx)(x:Str):Prop:=X.env.kindOf x=some .globalImplicit
theorem oW{E:Ws->Wv->Prop}{Yn:List (Wu×Obj)}{s:Wv}{σ:St}{H:Hp}{x:Str}{u:Ws}{pos:Pos}{Q:Ws->Wv->Prop}(I:ag X Yn σ H s)(hg:Gl X x)(hm:X.mg x=some u)(h:Q u s)
 (hd:(x==("__debug__":Str))=false:=by decide):Wx (Wy X.prog X.w) X.A (eval (.Name x pos) X.env) Q E s:=
 T5 I.ok.kind hg (Calls.loadGlobal_global (by rw [I.ok.glob];exact I.mod.glob.keeps I.bk) hm h) hd
theorem pW{E:Ws->Wv->Prop}{Yn:List (Wu×Obj)}{s:Wv}{σ:St}{H:Hp}{x:Str}{u:Ws}{pos:Pos}{Q:Ws->Wv->Prop}(I:ag X Yn σ H s)(hg:Gl X x)(hm:X.mg x=none)(hv:WO x=some u)(h:Q u s)
 (hn:x≠"__name__":=by decide)(hd:(x==("__debug__":Str))=false:=by decide):Wx (Wy X.prog X.w) X.A (eval (.Name x pos) X.env) Q E s:=by
 obtain⟨mb,h1,h2⟩:=I.mod.blt;exact T5 I.ok.kind hg (Calls.loadGlobal_builtin (by rw [I.ok.glob];exact I.mod.glob.keeps I.bk) hm (by rw [I.ok.blt];exact h1.keeps I.bk) ((h2 x hn).trans hv) h) hd
theorem km{x:Str}{v:V}{u:Ws}{pos:Pos}(hg:Gl X x)(hm:X.mg x=some u)(r:aJ v u)(hd:(x==("__debug__":Str))=false:=by decide):PE X (.Name x pos) (tC v):=
 λ_ _ _ H _ I h=>oW I hg hm ⟨v,H,I,r,h⟩ hd
theorem lY{x:Str}{v:V}{u:Ws}{pos:Pos}(hg:Gl X x)(hm:X.mg x=none)(hv:WO x=some u)(r:aJ v u)(hn:x≠"__name__":=by decide)(hd:(x==("__debug__":Str))=false:=by decide):PE X (.Name x pos) (tC v):=
 λ_ _ _ H _ I h=>pW I hg hm hv ⟨v,H,I,r,h⟩ hn hd
variable {a b:WC} {ta tb:TE} {pos:Pos}
def PC(X:Cx)(op:CmpOp)(a b:WC)(t:TE):Prop:=
 ∀(Yn:List (Wu×Obj))(s:Wv)(σ:St)(H:Hp)(Q:VK),ag X Yn σ H s->t σ H Q->
  Wx (Wy X.prog X.w) X.A (eval a X.env) (λv s₁=>Wx (Wy X.prog X.w) X.A (eval b X.env) (λu s₂=>Wx (Wy X.prog X.w) X.A (WM op v u) (EP X Yn σ Q) X.xe s₂) X.xe s₁) X.xe s
theorem G4(b:WC){op:CmpOp}(h:op≠ .In)(h2:op≠ .NotIn):W6 op b=false:=by
 have e1:(op==CmpOp.In)=false:=by cases op <;> first | rfl | exact absurd rfl h
 have e2:(op==Wb)=false:=by cases op <;> first | rfl | exact absurd rfl h2
 cases b <;> simp [W6,e1,e2]
def tB(t:TE):TT:=λσ H Q=>t σ H λx H1=>∃c,x= .bl c/\Q c H1
theorem Pn{op:CmpOp}{t:TE}(h:PC X op a b t)(h1:W6 op b=false:=by first | exact G4 _ tx tx | rfl):PT X (.Compare a [op] [b] pos) (tB t):=by
 intro Yn s σ H Q I hw;refine wpAny_isTrue_Compare1 (aC (h Yn s σ H _ I hw) λv s1 h1=>aC h1 λu s2 h2=>aC h2 λc s3 ⟨x,H1,I1,r1,q1⟩=>?_) h1;obtain⟨d,rfl,q⟩:=q1;cases r1;exact WT ⟨H1,I1,q⟩
theorem qK{e:WC}{t:TE}(h:PE X e t)(he:∀whole,isTrue e X.env whole=(do let v<-whole;standAt e.pos;XZ [v] (truthy v)):=by intro _;rfl):PT X e (tB t):=by
 intro Yn s σ H Q I hw;refine isTrue_plain (aC (h Yn s σ H _ I hw) λv s1 ⟨x,H1,I1,r1,q1⟩=>?_) (he _);obtain⟨d,rfl,q⟩:=q1;cases r1;exact WT ⟨H1,I1,q⟩
variable {tA tB':TT} {rest:List WC}
def wk(t u:TT):TT:=λσ H Q=>t σ H λc H1=>if c=true then u σ H1 Q else Q false H1
def wm(t u:TT):TT:=λσ H Q=>t σ H λc H1=>if c=true then Q true H1 else u σ H1 Q
def wq(t:TT):TT:=λσ H Q=>t σ H λc H1=>Q (!c) H1
theorem BX(ha:PT X a tA):PW X (.BoolOp .And [a] pos) tA:=by
 intro wh Yn s σ H Q I h;refine isTrue_and (aC (ha Yn s σ H Q I h) λc s1 e=>?_);cases c with
 | true=>exact isTrue_and_nil e
 | false=>exact e
theorem BY(ha:PT X a tA):PW X (.BoolOp .Or [a] pos) tA:=by
 intro wh Yn s σ H Q I h;refine isTrue_or (aC (ha Yn s σ H Q I h) λc s1 e=>?_);cases c with
 | false=>exact isTrue_or_nil e
 | true=>exact e
theorem BZ(ha:PT X a tA)(hb:PW X (.BoolOp .And (b::rest) pos) tB'):PW X (.BoolOp .And (a::b::rest) pos) (wk tA tB'):=by
 intro wh Yn s σ H Q I h;refine isTrue_and (aC (ha Yn s σ H _ I h) λc s1 ⟨H1,I1,q1⟩=>?_);cases c with
 | true=>exact hb wh Yn s1 σ H1 Q I1 q1
 | false=>exact⟨H1,I1,q1⟩
theorem wt(ha:PT X a tA)(hb:PW X (.BoolOp .Or (b::rest) pos) tB'):PW X (.BoolOp .Or (a::b::rest) pos) (wm tA tB'):=by
 intro wh Yn s σ H Q I h;refine isTrue_or (aC (ha Yn s σ H _ I h) λc s1 ⟨H1,I1,q1⟩=>?_);cases c with
 | true=>exact⟨H1,I1,q1⟩
 | false=>exact hb wh Yn s1 σ H1 Q I1 q1
theorem wu(ha:PT X a tA):PT X (.UnaryOp .Not a pos) (wq tA):=by
 intro Yn s σ H Q I h;exact isTrue_not (aC (ha Yn s σ H (λc H1=>Q (!c) H1) I h) λc s1 uu8=>by obtain⟨H1,I1,q⟩:=uu8;exact⟨H1,I1,q⟩)
def wz(ta tb:TE):TE:=λσ H Q=>ta σ H λx H1=>∃c,x= .bl c/\if c=true then tb σ H1 Q else Q (.bl false) H1
def wA(ta tb:TE):TE:=λσ H Q=>ta σ H λx H1=>∃c,x= .bl c/\if c=true then Q (.bl true) H1 else tb σ H1 Q
def wB(ta:TE):TE:=λσ H Q=>ta σ H λx H1=>∃c,x= .bl c/\Q (.bl (!c)) H1
theorem si{op}{t:TE}(h:PE X a t):PE X (.BoolOp op [a] pos) t:=λYn s σ H Q I hw=>BoolOp_one (h Yn s σ H Q I hw)
theorem sk(ha:PE X a ta)(hb:PE X (.BoolOp .And (b::rest) pos) tb):PE X (.BoolOp .And (a::b::rest) pos) (wz ta tb):=by
 intro Yn s σ H Q I h;refine BoolOp_and (aC (ha Yn s σ H _ I h) λv s1 ⟨x,H1,I1,r1,q1⟩=>?_);obtain⟨c,rfl,q1⟩:=q1;cases r1;refine WT ?_;cases c with
 | true=>exact hb Yn s1 σ H1 Q I1 q1
 | false=>exact⟨.bl false,H1,I1,rfl,q1⟩
theorem G5(ha:PE X a ta)(hb:PE X (.BoolOp .Or (b::rest) pos) tb):PE X (.BoolOp .Or (a::b::rest) pos) (wA ta tb):=by
 intro Yn s σ H Q I h;refine BoolOp_or (aC (ha Yn s σ H _ I h) λv s1 ⟨x,H1,I1,r1,q1⟩=>?_);obtain⟨c,rfl,q1⟩:=q1;cases r1;refine WT ?_;cases c with
 | false=>exact hb Yn s1 σ H1 Q I1 q1
 | true=>exact⟨.bl true,H1,I1,rfl,q1⟩
theorem B0(ha:PE X a ta):PE X (.UnaryOp .Not a pos) (wB ta):=by
 intro Yn s σ H Q I h;refine UnaryOp_ (aC (ha Yn s σ H _ I h) λv s1 ⟨x,H1,I1,r1,q1⟩=>?_);obtain⟨c,rfl,q1⟩:=q1;cases r1;exact not_of (WT ⟨.bl (!c),H1,I1,rfl,q1⟩)
def wC(t:TT)(ta tb:TE):TE:=λσ H Q=>t σ H λc H1=>if c=true then ta σ H1 Q else tb σ H1 Q
theorem G6{c:WC}(hc:PT X c tA)(ha:PE X a ta)(hb:PE X b tb):PE X (.IfExp c a b pos) (wC tA ta tb):=by
 intro Yn s σ H Q I h;refine wpAny_IfExp (aC (hc Yn s σ H _ I h) λd s1 ⟨H1,I1,q1⟩=>?_);cases d with
 | true=>exact ha Yn s1 σ H1 Q I1 q1
 | false=>exact hb Yn s1 σ H1 Q I1 q1
end
def bf(K:Pq)(H:Hp)(a:Wu)(xs:List V):Prop:=
 Rd H a (.lst xs)\/
  ∃(o:Obj)(its:Array Ws)(n:Nat),K.lookup a=some o/\o.cls= .type "list"/\o.dict=none/\o.data= .seq its n/\its.size<=WA/\aM xs its.toList
def aY(K:Pq)(H:Hp)(a:Wu)(xs:List V):Prop:=
 Rd H a (.tup xs)\/
  ∃(o:Obj)(its:Array Ws)(n:Nat),K.lookup a=some o/\o.cls= .type "tuple"/\o.data= .seq its n/\its.size<=WA/\aM xs its.toList
def G7:Ws->Option V
 | .none=>some .non
 | .bool b=>some (.bl b)
 | .int i _=>some (.int i)
 | .str x _=>some (.str x)
 | .bytes b _=>some (.byt b)
 | .float b _=>some (.flt b)
 | .ref a=>some (.ref a)
 | .type n=>some (.ty n)
 | _=>none
theorem aJ.abs{x:V}{u:Ws}(r:aJ x u):G7 u=some x:=by
 cases x with
 | non=>cases r;rfl
 | bl _=>cases r;rfl
 | int _=>obtain⟨t,rfl⟩:=r;rfl
 | str _=>obtain⟨t,rfl⟩:=r;rfl
 | byt _=>obtain⟨t,rfl⟩:=r;rfl
 | flt _=>obtain⟨t,rfl⟩:=r;rfl
 | ref _=>cases r;rfl
 | ty _=>cases r;rfl
theorem aJ.inj{x y:V}{u:Ws}(r:aJ x u)(q:aJ y u):x=y:=Ri (r.abs.symm.trans q.abs)
theorem aM.inj:∀{xs ys:List V}{us:List Ws},aM xs us->aM ys us->xs=ys
 | _,_,_,.nil,.nil=>rfl
 | _,_,_,.cons r t,.cons r' t'=>by rw [r.inj r',aM.inj t t']
section
variable {X:Cx} {Yn:List (Wu×Obj)} {σ:St} {H:Hp} {s:Wv} {a:Wu} {xs ys:List V}
theorem bf.of{K:Pq}(h:H a=some (.lst xs)):bf K H a xs:= .inl (.inl h)
theorem aY.of{K:Pq}(h:H a=some (.tup xs)):aY K H a xs:= .inl (.inl h)
theorem ag.list(I:ag X Yn σ H s)(h:bf X.K H a xs):∃its:List Ws,aM xs its/\PlainL s.heap a its.toArray/\xs.length<=WA:=by
 rcases h with h | ⟨o,its,n,hk,hc,hd,hs,hz,r⟩
 ·obtain⟨z,its,n,r,e⟩:=h.ok I.hok;exact⟨its,r,⟨_,n,e,rfl,rfl,rfl⟩,z⟩
 ·refine⟨its.toList,r,⟨o,n,I.kIn a o hk,hc,hd,by simpa using hs⟩,?_⟩;have e:=r.length;simp only [PY] at e;omega
theorem ag.tuple(I:ag X Yn σ H s)(h:aY X.K H a xs):∃its:List Ws,aM xs its/\IsTup s.heap a its.toArray/\xs.length<=WA:=by
 rcases h with h | ⟨o,its,n,hk,hc,hs,hz,r⟩
 ·obtain⟨z,its,r,p⟩:=h.ok I.hok;exact⟨its,r,p,z⟩
 ·refine⟨its.toList,r,⟨o,I.kIn a o hk,hc,n,by simpa using hs⟩,?_⟩;have e:=r.length;simp only [PY] at e;omega
theorem ag.list_inj(I:ag X Yn σ H s)(h:bf X.K H a xs)(h':bf X.K H a ys):xs=ys:=by
 obtain⟨its,r,⟨o,n,e,_,_,d⟩,_⟩:=I.list h;obtain⟨its',r',⟨o',n',e',_,_,d'⟩,_⟩:=I.list h';rw [e] at e';cases e';rw [d] at d';injection d' with d1 _
 have:its=its':=by simpa using congrArg V3 d1
 subst this;exact r.inj r'
theorem ag.tuple_inj(I:ag X Yn σ H s)(h:aY X.K H a xs)(h':aY X.K H a ys):xs=ys:=by
 obtain⟨its,r,⟨o,e,_,n,d⟩,_⟩:=I.tuple h;obtain⟨its',r',⟨o',e',_,n',d'⟩,_⟩:=I.tuple h';rw [e] at e';cases e';rw [d] at d';injection d' with d1 _
 have:its=its':=by simpa using congrArg V3 d1
 subst this;exact r.inj r'
end
abbrev Cx.wish(X:Cx)(E:Ws->Wv->Prop):Cx:={X with xe:=E}
abbrev Cx.nox(X:Cx):Cx:=X.wish λ_ _=>False
theorem Cx.Ok.wish{X:Cx}(ok:X.Ok)(E:Ws->Wv->Prop):(X.wish E).Ok:=
 ⟨ok.mod,ok.kind,ok.glob,ok.blt,ok.above,ok.inj,ok.has,ok.cab,ok.hd,ok.frames,ok.stk,ok.exf,ok.bs,ok.bsz,ok.noex,ok.exfs,ok.funs,ok.frf⟩
theorem Cx.Ok.unwish{X:Cx}{E:Ws->Wv->Prop}(ok:(X.wish E).Ok):X.Ok:=
 ⟨ok.mod,ok.kind,ok.glob,ok.blt,ok.above,ok.inj,ok.has,ok.cab,ok.hd,ok.frames,ok.stk,ok.exf,ok.bs,ok.bsz,ok.noex,ok.exfs,ok.funs,ok.frf⟩
section
variable {X:Cx} {Yn:List (Wu×Obj)} {σ:St} {H:Hp} {s:Wv} {E:Ws->Wv->Prop}
theorem ag.wish(I:ag X Yn σ H s)(E:Ws->Wv->Prop):ag (X.wish E) Yn σ H s:=⟨I.ok.wish E,I.os,I.bare,I.base,I.loc,I.cell,I.free,I.freeC,I.pin,I.hok,I.len⟩
theorem ag.unwish(I:ag (X.wish E) Yn σ H s):ag X Yn σ H s:=⟨I.ok.unwish,I.os,I.bare,I.base,I.loc,I.cell,I.free,I.freeC,I.pin,I.hok,I.len⟩
theorem SP.unwish{D:nI}{f:Flow}{s':Wv}(h:SP (X.wish E) Yn D f s'):SP X Yn D f s':=by
 cases f with
 | next=>obtain⟨σ',H',I,q⟩:=h;exact⟨σ',H',I.unwish,q⟩
 | brk=>obtain⟨σ',H',I,q⟩:=h;exact⟨σ',H',I.unwish,q⟩
 | cont=>obtain⟨σ',H',I,q⟩:=h;exact⟨σ',H',I.unwish,q⟩
 | ret u=>obtain⟨v,σ',H',I,r,q⟩:=h;exact⟨v,σ',H',I.unwish,r,q⟩
theorem bG.nox{st:List WK}{t:TS}(h:bG X.nox st t):bG X st t:=λYn s σ H D I hw=>
 WR (h Yn s σ H D (I.wish _) hw) (λ_ _ q=>q.unwish) λ_ _ z=>Ry z
end
section
variable {X:Cx} {st:WK} {rest:List WK} {t u:TS} {e:WC} {te:TE} {pos:Pos}
def wD:TS:=λD σ H=>D.nx σ H
def ui(t u:TS):TS:=λD σ H=>t {D with nx:=u D} σ H
theorem oX:bG X [] wD:=λ_ _ σ H _ I h=>Xw ⟨σ,H,I,h⟩
theorem kP(h1:PS X st t)(h2:bG X rest u):bG X (st::rest) (ui t u):=by
 intro Yn s σ H D I h;refine XU (aC (h1 Yn s σ H {D with nx:=u D} I h) λf s1 q=>?_);cases f with
 | next=>
  obtain⟨σ',H',I',q⟩:=q;exact h2 Yn s1 σ' H' D I' q
 | ret v=>exact q
 | brk=>exact q
 | cont=>exact q
theorem kz(h1:PS X st t):bG X [st] t:=by
 intro Yn s σ H D I h;refine XU (aC (h1 Yn s σ H D I h) λf s1 q=>?_);cases f with
 | next=>exact Xw q
 | ret v=>exact q
 | brk=>exact q
 | cont=>exact q
theorem ag.quiet{Yn:List (Wu×Obj)}{σ:St}{H:Hp}{s:Wv}(I:ag X Yn σ H s):interactive X.env=false:=by simp [interactive,I.ok.kind]
def wF(te:TE):TS:=λD σ H=>te σ H λ_ H1=>D.nx σ H1
theorem G8(he:PE X e te)(hs:W2 e none pos.line X.env=pure false:=by rfl):PS X (.Expr e pos) (wF te):=by
 intro Yn s σ H D I h;exact wpAny_Expr_any (aC (he Yn s σ H _ I h) λv s1 uu13=>by obtain⟨x,H1,I1,r1,q1⟩:=uu13;exact⟨σ,H1,I1,q1⟩) I.quiet hs
def wG(te:TE):TS:=λD σ H=>te σ H D.rt
theorem kQ(he:PE X e te):PS X (.Return (some e) pos) (wG te):=by
 intro Yn s σ H D I h;exact wpAny_Return_some (aC (he Yn s σ H _ I h) λv s1 uu14=>by obtain⟨x,H1,I1,r1,q1⟩:=uu14;exact⟨x,σ,H1,I1,r1,q1⟩)
def wH(c:TT)(t u:TS):TS:=λD σ H=>c σ H λb H1=>if b=true then t D σ H1 else u D σ H1
theorem oY{c:WC}{a b:List WK}{tc:TT}(hc:PT X c tc)(ha:bG X a t)(hb:bG X b u):PS X (.If c a b pos) (wH tc t u):=by
 intro Yn s σ H D I h;refine wpAny_If (aC (hc Yn s σ H _ I h) λd s1 ⟨H1,I1,q1⟩=>?_);cases d with
 | true=>exact ha Yn s1 σ H1 D I1 q1
 | false=>exact hb Yn s1 σ H1 D I1 q1
end
abbrev TG:=V->St->Hp->(St->Hp->Prop)->Prop
abbrev mv:=List V->St->Hp->(St->Hp->Prop)->Prop
def PG(X:Cx)(target:WC)(t:TG):Prop:=
 ∀(Yn:List (Wu×Obj))(s:Wv)(σ:St)(H:Hp)(v:V)(u:Ws)(Q:St->Hp->Prop),ag X Yn σ H s->aJ v u->t v σ H Q->
  Wx (Wy X.prog X.w) X.A (assign target X.env u) (λ_ s'=>∃σ' H',ag X Yn σ' H' s'/\Q σ' H') X.xe s
def so(X:Cx)(ts:List WC)(t:mv):Prop:=
 ∀(Yn:List (Wu×Obj))(s:Wv)(σ:St)(H:Hp)(vs:List V)(us:List Ws)(Q:St->Hp->Prop),ag X Yn σ H s->aM vs us->t vs σ H Q->
  Wx (Wy X.prog X.w) X.A (assignInOrder ((Xl ts X.env).map (·.2)) us) (λ_ s'=>∃σ' H',ag X Yn σ' H' s'/\Q σ' H') X.xe s
abbrev wI:=V->V->V->Hp->(Hp->Prop)->Prop
def B1(X:Cx)(t:wI):Prop:=
 ∀(Yn:List (Wu×Obj))(s:Wv)(σ:St)(H:Hp)(o i v:V)(ov iv u:Ws)(Q:Hp->Prop),ag X Yn σ H s->aJ o ov->aJ i iv->aJ v u->t o i v H Q->
  Wx (Wy X.prog X.w) X.A (setItem ov iv u) (λ_ s'=>∃H',ag X Yn σ H' s'/\Q H') X.xe s
section
variable {X:Cx} {pos:Pos}
def nh(i:Nat):TG:=λv σ H Q=>Q (σ.set i (some v)) H
theorem bM{i:Nat}{x:Str}(hN:X.N.Nodup)(hi:X.N[i]?=some x)(hx:nH X.env.scope x)(hf:X.fn x=true\/X.env.scope.names.lookup x=some .local:=by first | exact .inl rfl | exact .inr rfl | assumption):PG X (.Name x pos) (nh i):=by
 intro Yn s σ H v u Q I r h;exact wpAny_assign_Name (pT I hN hi hx r (λs' I'=>⟨_,H,I',h⟩) hf)
def sr:mv:=λvs σ H Q=>vs=[]/\Q σ H
def qL(t:TG)(u:mv):mv:=λvs σ H Q=>∃v r,vs=v::r/\t v σ H λσ' H'=>u r σ' H' Q
theorem qM:so X [] sr:=by
 intro Yn s σ H vs us Q I r h;obtain⟨e,h⟩:=h;subst e;cases r;exact assignInOrder_nil ⟨σ,H,I,h⟩
theorem mw{e:WC}{es:List WC}{t:TG}{u:mv}(h1:PG X e t)(h2:so X es u)
 (hs:(Xl (e::es) X.env).map (·.2)=assign e X.env::(Xl es X.env).map (·.2):=by rfl):so X (e::es) (qL t u):=by
 intro Yn s σ H vs us Q I r h;obtain⟨v,vr,e1,h⟩:=h;subst e1;cases r with
 | cons r rr=>
  rw [hs];refine Ya (aC (h1 Yn s σ H _ _ _ I r h) λ_ s1 ⟨σ1,H1,I1,q1⟩=>?_);exact h2 Yn s1 σ1 H1 _ _ Q I1 rr q1
def sA(K:Pq)(n:Nat)(t:mv):TG:=λv σ H Q=>∃a xs,v= .ref a/\aY K H a xs/\xs.length=n/\t xs σ H Q
theorem sC{es:List WC}{k:Nat}{t:mv}{n:Nat}(hc:X.calm=true)(h:so X es t)
 (hn:(Xl es X.env).length=n:=by rfl)(hst:(Xl es X.env).findIdx? (·.1)=none:=by rfl):PG X (.Tuple es k pos) (sA X.K n t):=by
 intro Yn s σ H v u Q I r hw;obtain⟨a,xs,e1,hq,hl,hw⟩:=hw;subst e1;cases r;obtain⟨its,rv,ht,hz⟩:=I.tuple hq;refine assign_Tuple_tuple (I.ok.hd hc) ht (by simp [hn,<-hl,rv.length]) hst λh' hx=>?_;have I1:ag X Yn σ H {s with heap:=h'}:=I.kept (t':=s.toks) λb o e=>hx b o (QF (PQ e)) e;exact h Yn _ σ H xs _ Q I1 (by simpa using rv) hw
def wJ(to ti:TE)(t:wI):TG:=λv σ H Q=>to σ H λo H1=>ti σ H1 λi H2=>t o i v H2 λH3=>Q σ H3
theorem G9{o i:WC}{to ti:TE}{t:wI}(ho:PE X o to)(hi:PE X i ti)(hs:B1 X t)
 (ha:∀v,assign (.Subscript o i pos) X.env v=(do
   let ov<-XZ [v] (eval o X.env)
   let iv<-XZ [v,ov] (eval i X.env)
   standAt pos
   XZ [v,ov,iv] (setItem ov iv v)
   release [v,ov,iv] []):=by intro _;rfl):PG X (.Subscript o i pos) (wJ to ti t):=by
 intro Yn s σ H v u Q I r h;rw [ha];refine Wt (WX (aC (ho Yn s σ H _ I h) λov s1 ⟨x,H1,I1,r1,q1⟩=>?_));refine Wt (WX (aC (hi Yn s1 σ H1 _ I1 q1) λiv s2 ⟨y,H2,I2,r2,q2⟩=>?_));refine Wt (Xu (Wt (WX (aC (hs Yn s2 σ H2 x y v ov iv u _ I2 r1 r2 r q2) λ_ s3 ⟨H3,I3,q3⟩=>?_))));exact wpAny_release ⟨σ,H3,I3,q3⟩
def qN(te:TE)(g:TG):TS:=λD σ H=>te σ H λx H1=>g x σ H1 D.nx
theorem B2{tg e:WC}{te:TE}{g:TG}(he:PE X e te)(hg:PG X tg g)(hs:Yg [tg] e pos.line X.env=pure false:=by rfl)(hw:Yh [tg] e X.env=pure none:=by rfl)
 (h1:(Xl [tg] X.env).map (·.2)=[assign tg X.env]:=by rfl):PS X (.Assign [tg] e pos) (qN te g):=by
 intro Yn s σ H D I h;refine wpAny_Assign_stores (aC (he Yn s σ H _ I h) λv s1 ⟨x,H1,I1,r1,q1⟩=>?_) hs hw;rw [h1];exact aC (hg Yn s1 σ H1 x v _ I1 r1 q1) λ_ s2 q=>q
theorem mx{i:Nat}{x:Str}{e:WC}{te:TE}{pos':Pos}(hN:X.N.Nodup)(hi:X.N[i]?=some x)(hx:nH X.env.scope x)(he:PE X e te)(hs:W2 e (some (.Name x pos')) pos.line X.env=pure false:=by rfl)(hf:X.fn x=true\/X.env.scope.names.lookup x=some .local:=by first | exact .inl rfl | exact .inr rfl | assumption):
 PS X (.Assign [.Name x pos'] e pos) (qN te (nh i)):=by
 intro Yn s σ H D I h;refine wpAny_Assign_Name (aC (he Yn s σ H _ I h) λv s1 ⟨y,H1,I1,r1,q1⟩=>?_) hs;exact pT I1 hN hi hx r1 (λs2 I2=>⟨_,H1,I2,q1⟩) hf
def wK(i j:Nat)(ta:TA):TS:=λD σ H=>ta σ H λvs H1=>∃v w,vs=[v,w]/\D.nx ((σ.set i (some v)).set j (some w)) H1
theorem Ha{i j:Nat}{x y:Str}{a b:WC}{ta:TA}{px py pt:Pos}{kt k2 pt2}(hc:X.calm=true)(hN:X.N.Nodup)(hi:X.N[i]?=some x)(hj:X.N[j]?=some y)(hij:i≠j)
 (hx:X.env.scope.names.lookup x=some .local)(hy:X.env.scope.names.lookup y=some .local)(ha:PA X [a,b] ta)
 (hw:Yh [.Tuple [.Name x px,.Name y py] kt pt] (.Tuple [a,b] k2 pt2) X.env=pure (some [x,y]))
 (hs:Yg [.Tuple [.Name x px,.Name y py] kt pt] (.Tuple [a,b] k2 pt2) pos.line X.env=pure false:=by rfl):
 PS X (.Assign [.Tuple [.Name x px,.Name y py] kt pt] (.Tuple [a,b] k2 pt2) pos) (wK i j ta):=by
 intro Yn s σ H D I h;rw [exec_Assign_arm];refine Wt (Xu ?_);rw [hs];refine Wt (Ww ?_);rw [Wm tx];refine Wt (Tuple_ (aC (ha _ Yn s σ H _ I h) λus s1 ⟨vs,H1,I1,r1,q1⟩=>?_));obtain⟨v,w,e1,q1⟩:=q1;subst e1;obtain⟨u1,u2,rfl,rv,rw'⟩:∃u1 u2,us=[u1,u2]/\aJ v u1/\aJ w u2:=by
  cases r1 with
  | cons p q=>
   cases q with
   | cons p' q'=>
    cases q';exact⟨_,_,rfl,p,p'⟩
 refine WQ ?_ (by show 2<=WA;decide);have I2:ag X Yn σ H1 {s1 with heap:=s1.heap.push {cls:= .type "tuple",data:= .seq [u1,u2].toArray}}:=I1.kept (t':=s1.toks) λb o e=>Py _ e;rw [hw];refine Wt (Ww ?_);show Wx (Wy X.prog X.w) X.A (do rule "assign.swapped-stores";let items<-unpackItems (.ref s1.heap.objs.size) 2 none;assignInOrder [λv=>bindName X.env y v,λv=>bindName X.env x v] items.reverse;pure Wk) _ _ _;refine Wt (XA (Wt (unpackItems_tuple (items:=#[u1,u2]) (I.ok.hd hc) (Vc s1.heap _) λh' hx'=>?_)));have I3:=I2.kept (h':=h') (t':=s1.toks) λb o e=>hx' b o (QF (PQ e)) e;show Wx _ _ (assignInOrder [λv=>bindName X.env y v,λv=>bindName X.env x v] [u2,u1] >>=λ_=>pure Wk) _ _ _;refine Wt (Ya (wpAny_bindName (pT I3 hN hj (.inl hy) rw' (λs2 I4=>?_) (.inr hy))));refine Ya (wpAny_bindName (pT I4 hN hi (.inl hx) rv (λs3 I5=>assignInOrder_nil (Ww ?_)) (.inr hx)));rw [List.set_comm _ _ (Ne.symm hij)] at I5;exact⟨_,H1,I5,q1⟩
def Hb(c:TT)(tb:TS):TS:=λD σ H=>∃W:Nat->St->Hp->Prop,(∃m,W m σ H)/\∀m σ H,W m σ H->
 c σ H λb H1=>if b=true then ∃N:St->Hp->Prop,(∀σ' H',N σ' H'->∃m',m' < m/\W m' σ' H')/\tb {D with nx:=N,ct:=N,bk:=D.nx} σ H1 else D.nx σ H1
theorem B3{c:WC}{body:List WK}{tc:TT}{tb:TS}(hp:XH (Wy X.prog X.w) X.A X.env X.xe)(hc:PT X c tc)(hb:bG X body tb):PS X (.While c body [] pos) (Hb tc tb):=by
 intro Yn s σ H D I h;obtain⟨W,⟨m0,w0⟩,turn⟩:=h;refine wpAny_While (codeAny_whileLoop (λn s'=>∃σ' H',ag X Yn σ' H' s'/\W n σ' H') ?_ m0 ⟨σ,H,I,w0⟩);rintro n s1 ⟨σ1,H1,I1,w1⟩;refine Xg hp (aC (hc Yn s1 σ1 H1 _ I1 (turn n σ1 H1 w1)) λb s2 ⟨H2,I2,q2⟩=>?_);cases b with
 | true=>
  obtain⟨N,hN,q2⟩:=q2;rw [Wn rfl];refine Xg hp (aC (hb Yn s2 σ1 H2 _ I2 q2) λf s3 q3=>?_);cases f with
  | next=>
   obtain⟨σ3,H3,I3,n3⟩:=q3;obtain⟨m',hm,w3⟩:=hN σ3 H3 n3;exact⟨m',hm,σ3,H3,I3,w3⟩
  | cont=>
   obtain⟨σ3,H3,I3,n3⟩:=q3;obtain⟨m',hm,w3⟩:=hN σ3 H3 n3;exact⟨m',hm,σ3,H3,I3,w3⟩
  | brk=>exact q3
  | ret v=>exact q3
 | false=>
  rw [Wm Qr];exact Xw ⟨σ1,H2,I2,q2⟩
end
structure It where
 go:Nat->Hp->Prop
 yld:Nat->Hp->V->Hp->Prop
 stop:Nat->Hp->Prop
def mN(X:Cx)(Yn:List (Wu×Obj))(H:Hp)(b:Wu):Prop:=
 H b=none/\b≠X.env.locals/\b ∉ X.fs/\(b∈X.ex\/X.s₀.heap.objs.size<=b)/\(∀x c,X.env.cells.lookup x=some c->c≠b)/\∀p∈X.pn++Yn,p.1≠b
theorem ag.fpOk{X:Cx}{Yn:List (Wu×Obj)}{σ:St}{H H':Hp}{s:Wv}{b:Wu}(I:ag X Yn σ H s)(hb:s.heap.objs.size<=b)(hn:H' b=none):mN X Yn H' b:=by
 refine⟨hn,Sr (QX I.lt hb),I.nofs hb,.inr (Qt I.sz hb),λx c e z=>?_,λp hp z=>?_⟩
 ·obtain⟨v,q⟩:=I.cell x c e;exact absurd (QX q.lt (by rw [z];exact hb)) (RP _)
 ·exact absurd (QX (PQ (I.pin p hp).1) (by rw [z];exact hb)) (RP _)
structure pX (P:WH) (w:WJ) (K:Pq) (tg:WC) (J:It) (fp:List Wu) (it:Wu) (tn:Nat->WG->Prop):Prop where
 mem:it∈fp
 obj:∀i h,tn i h->∀b∈fp,∃o,h.get? b=some o/\∀v,o.data≠ .cell v
 keep:∀i h h',tn i h->(∀b∈fp,∀o,h.get? b=some o->h'.get? b=some o)->tn i h'
 item:∀(X:Cx),X.prog=P->X.w=w->X.K=K->X.calm=true->∀(i:Nat)(Yn:List (Wu×Obj))(s:Wv)(σ:St)(H:Hp)(E:Ws->Wv->Prop),ag X Yn σ H s->(∀b∈fp,mN X Yn H b)->tn i s.heap->J.go i H->
  Wx (Wy P w) X.A (Xj (.ref it)) (λr s1=>∃u,r=some u/\
   Wx (Wy P w) X.A (X3 tg (.ref it) u) (λ_ s2=>∃x H',ag X Yn σ H' s2/\aJ x u/\J.yld i H x H'/\tn (i+1) s2.heap/\∀b∈fp,H' b=none) E s1) E s
 done:∀(X:Cx),X.prog=P->X.w=w->X.K=K->X.calm=true->∀(i:Nat)(Yn:List (Wu×Obj))(s:Wv)(σ:St)(H:Hp)(E:Ws->Wv->Prop),ag X Yn σ H s->(∀b∈fp,mN X Yn H b)->tn i s.heap->J.stop i H->
  Wx (Wy P w) X.A (Xj (.ref it)) (λr s1=>r=none/\ag X Yn σ H s1) E s
 self:∀(A:WL)(i:Nat)(s:Wv)(Q:Ws->Wv->Prop)(E:Ws->Wv->Prop),tn i s.heap->Q (.ref it) s->Wx (Wy P w) A (pyIter (.ref it)) Q E s
abbrev TI:=St->Hp->(It->Hp->Prop)->Prop
def B4(X:Cx)(Yn:List (Wu×Obj))(σ:St)(tg:WC)(R:It->Hp->Prop)(itv:Ws)(s2:Wv):Prop:=
 ∃(it:Wu)(fp:List Wu)(tn:Nat->WG->Prop)(J:It)(H':Hp),itv= .ref it/\ag X Yn σ H' s2/\pX X.prog X.w X.K tg J fp it tn/\tn 0 s2.heap/\(∀b∈fp,mN X Yn H' b)/\R J H'
def PI(X:Cx)(tg iter:WC)(wi:TI):Prop:=
 ∀(Yn:List (Wu×Obj))(s:Wv)(σ:St)(H:Hp)(R:It->Hp->Prop),ag X Yn σ H s->wi σ H R->
  Wx (Wy X.prog X.w) X.A (eval iter X.env) (λv s1=>Wx (Wy X.prog X.w) X.A (pyIter v) (B4 X Yn σ tg R) X.xe s1) X.xe s
theorem uj{M:XM}{A:WL}{E:Ws->Wv->Prop}{s:Wv}{tg:WC}{it:Wu}{u:Ws}{o:Obj}{n:String}{vs:Array Ws}{Q:Unit->Wv->Prop}(ho:s.heap.get? it=some o)(hc:o.cls= .type n)(hd:o.data= .fields vs)
 (hn:["enumerate","zip","dict_itemiterator","dict_reverseitemiterator","odict_iterator","itertools.zip_longest","itertools.pairwise"].contains n=false)(hQ:Q () s):Wx M A (X3 tg (.ref it) u) Q E s:=by
 unfold X3;cases tg <;> first
  | exact Ww hQ
  | (cases u <;> first
      | exact Ww hQ
      | (refine Wt (wpAny_load ho ?_)
         rw [hc,hd];show Wx M A (if (["enumerate","zip","dict_itemiterator","dict_reverseitemiterator","odict_iterator","itertools.zip_longest","itertools.pairwise"].contains n && vs[0]?==some (W9 _))=true then _ else _) Q E s;rw [Wm (by intro h;rw [hn,Bool.false_and] at h;cases h)];exact Ww hQ))
def sE(K:Pq)(a:Wu):It:=
 ⟨λi H=>∃xs x,bf K H a xs/\xs[i]?=some x,λi H x H'=>H'=H/\∀xs,bf K H a xs->xs[i]?=some x,λi H=>∃xs,bf K H a xs/\xs.length<=i⟩
def sF(K:Pq)(a:Wu):It:=
 ⟨λi H=>∃xs x,aY K H a xs/\xs[i]?=some x,λi H x H'=>H'=H/\∀xs,aY K H a xs->xs[i]?=some x,λi H=>∃xs,aY K H a xs/\xs.length<=i⟩
def nJ(lo:Int)(n:Nat):It:=⟨λi _=>i < n,λi H x H'=>H'=H/\x= .int (lo+i),λi _=>n<=i⟩
theorem Hc{P:WH}{w:WJ}{K:Pq}{tg:WC}(a it:Wu):pX P w K tg (sE K a) [it] it (λi h=>h.IsListIter it a i) where
 mem:=Wq
 obj:=λi h st b hb=>by
  have e:b=it:=by simpa using hb
  subst e;obtain⟨o,e,c,d⟩:=st;exact⟨o,e,λv z=>by rw [d] at z;cases z⟩
 keep:=λi h h' st k=>st.at λo e=>k it Wq o e
 item:=by
  intro X hP hw hK hc i Yn s σ H E I hf st hg;subst hP hw hK;obtain⟨xs,x,hq,hx⟩:=hg;obtain⟨its,rv,p,hz⟩:=I.list hq;obtain⟨u,hu,ru⟩:=rv.get hx;obtain⟨f0,f1,f2,f3,f4,f5⟩:=hf it Wq;refine wpAny_pyNext_list_item st p.isList (x:=u) (by simpa using hu) λh' st' sb=>?_;have I1:ag X Yn σ H {s with heap:=h'}:=I.turned (t':=s.toks) (λb o hb e=>(sb.2 b hb).trans e) f0 f1 f3 f4 f5;obtain⟨o,e,c,d⟩:=id st';exact⟨u,rfl,uj (s:={s with heap:=h'}) e c d tx ⟨x,H,I1,ru,⟨rfl,λys hy=>by rw [I.list_inj hy hq];exact hx⟩,st',λb hb=>(hf b hb).1⟩⟩
 done:=by
  intro X hP hw hK hc i Yn s σ H E I hf st hg;subst hP hw hK;obtain⟨xs,hq,hx⟩:=hg;obtain⟨its,rv,p,hz⟩:=I.list hq;obtain⟨f0,f1,f2,f3,f4,f5⟩:=hf it Wq;have hl:=rv.length;exact wpAny_pyNext_list_end (I.ok.hd hc) st p.isList (by simp;omega) λh' eb=>⟨rfl,I.turned (t':=s.toks) (λb o hb e=>eb b o hb e) f0 f1 f3 f4 f5⟩
 self:=λ_ _ _ _ _ st h=>wpAny_pyIter_listiter st h
theorem Hd{P:WH}{w:WJ}{K:Pq}{tg:WC}(a it:Wu):pX P w K tg (sF K a) [it] it (λi h=>h.IsTupleIter it a i) where
 mem:=Wq
 obj:=λi h st b hb=>by
  have e:b=it:=by simpa using hb
  subst e;obtain⟨o,e,c,d⟩:=st;exact⟨o,e,λv z=>by rw [d] at z;cases z⟩
 keep:=λi h h' st k=>st.at λo e=>k it Wq o e
 item:=by
  intro X hP hw hK hc i Yn s σ H E I hf st hg;subst hP hw hK;obtain⟨xs,x,hq,hx⟩:=hg;obtain⟨its,rv,p,hz⟩:=I.tuple hq;obtain⟨u,hu,ru⟩:=rv.get hx;obtain⟨f0,f1,f2,f3,f4,f5⟩:=hf it Wq;refine wpAny_pyNext_tuple_item st (show s.heap.IsTuple a its.toArray from p) (x:=u) (by simpa using hu) λh' st' sb=>?_;have I1:ag X Yn σ H {s with heap:=h'}:=I.turned (t':=s.toks) (λb o hb e=>(sb.2 b hb).trans e) f0 f1 f3 f4 f5;obtain⟨o,e,c,d⟩:=id st';exact⟨u,rfl,uj (s:={s with heap:=h'}) e c d tx ⟨x,H,I1,ru,⟨rfl,λys hy=>by rw [I.tuple_inj hy hq];exact hx⟩,st',λb hb=>(hf b hb).1⟩⟩
 done:=by
  intro X hP hw hK hc i Yn s σ H E I hf st hg;subst hP hw hK;obtain⟨xs,hq,hx⟩:=hg;obtain⟨its,rv,p,hz⟩:=I.tuple hq;obtain⟨f0,f1,f2,f3,f4,f5⟩:=hf it Wq;have hl:=rv.length;exact wpAny_pyNext_tuple_end (I.ok.hd hc) st (show s.heap.IsTuple a its.toArray from p) (by simp;omega) λh' eb=>⟨rfl,I.turned (t':=s.toks) (λb o hb e=>eb b o hb e) f0 f1 f3 f4 f5⟩
 self:=λ_ _ _ _ _ st h=>wpAny_pyIter_tupleiter st h
theorem He{P:WH}{w:WJ}{K:Pq}{tg:WC}(it:Wu)(lo:Int)(n:Nat):pX P w K tg (nJ lo n) [it] it (λi h=>IsRangeIter h it (lo+(i:Nat)*1) ((n:Int) - (i:Nat)) 1) where
 mem:=Wq
 obj:=λi h st b hb=>by
  have e:b=it:=by simpa using hb
  subst e;exact⟨_,st,λv z=>by
   have z':Data.fields _=Data.cell v:=z;cases z'⟩
 keep:=λi h h' st k=>k it Wq _ st
 item:=by
  intro X hP hw hK hc i Yn s σ H E I hf st hg;subst hP hw hK;obtain⟨f0,f1,f2,f3,f4,f5⟩:=hf it Wq;have W:=Walks.range (prog:=X.prog) (w:=X.w) (I.ok.hd hc) it lo 1 n;refine W.item i s _ _ hg st λv h' tk hv st' kk=>?_;obtain⟨t,rfl⟩:=hv;have I1:ag X Yn σ H {s with heap:=h',toks:=tk}:=I.turned (λb o hb e=>kk b o (by simpa using hb) e) f0 f1 f3 f4 f5;refine⟨_,rfl,uj (s:={s with heap:=h',toks:=tk}) (n:="range_iterator") st' rfl rfl tx ⟨.int (lo+i),H,I1,⟨t,?_⟩,⟨rfl,rfl⟩,st',λb hb=>(hf b hb).1⟩⟩;rw [Int.mul_one]
 done:=by
  intro X hP hw hK hc i Yn s σ H E I hf st hg;subst hP hw hK;obtain⟨f0,f1,f2,f3,f4,f5⟩:=hf it Wq;exact wpAny_pyNext_range_end (I.ok.hd hc) st (by have:n<=i:=hg;omega) λh' eb=>⟨rfl,I.turned (t':=s.toks) (λb o hb e=>eb b o hb e) f0 f1 f3 f4 f5⟩
 self:=λ_ _ _ _ _ st h=>wpAny_pyIter_rangeiter st h
section
variable {X:Cx} {tg:WC}
def wL(K:Pq)(tl:TE):TI:=λσ H R=>tl σ H λx H1=>∃a,x= .ref a/\(∃xs,bf K H1 a xs)/\R (sE K a) H1
def wM(K:Pq)(tl:TE):TI:=λσ H R=>tl σ H λx H1=>∃a,x= .ref a/\(∃xs,aY K H1 a xs)/\R (sF K a) H1
theorem uk{l:WC}{tl:TE}(hl:PE X l tl):PI X tg l (wL X.K tl):=by
 intro Yn s σ H R I h;refine aC (hl Yn s σ H _ I h) λv s1 ⟨x,H1,I1,r1,q1⟩=>?_;obtain⟨a,e,⟨xs,hq⟩,q⟩:=q1;subst e;cases r1;obtain⟨its,rv,p,hz⟩:=I1.list hq;refine Yj p.isList ?_;refine⟨s1.heap.objs.size,[s1.heap.objs.size],_,_,H1,rfl,I1.kept (t':=s1.toks) λb o e=>Py _ e,Hc a _,⟨_,Qa _ rfl,rfl,rfl⟩,λb hb=>?_,q⟩;have e:b=s1.heap.objs.size:=by simpa using hb
 subst e;exact I1.fpOk (PL _) (I1.hok.fresh (PL _))
theorem B5{l:WC}{tl:TE}(hl:PE X l tl):PI X tg l (wM X.K tl):=by
 intro Yn s σ H R I h;refine aC (hl Yn s σ H _ I h) λv s1 ⟨x,H1,I1,r1,q1⟩=>?_;obtain⟨a,e,⟨xs,hq⟩,q⟩:=q1;subst e;cases r1;obtain⟨its,rv,p,hz⟩:=I1.tuple hq;refine Yb (show s1.heap.IsTuple a its.toArray from p) ?_;refine⟨s1.heap.objs.size,[s1.heap.objs.size],_,_,H1,rfl,I1.kept (t':=s1.toks) λb o e=>Py _ e,Hd a _,⟨_,Qa _ rfl,rfl,rfl⟩,λb hb=>?_,q⟩;have e:b=s1.heap.objs.size:=by simpa using hb
 subst e;exact I1.fpOk (PL _) (I1.hok.fresh (PL _))
theorem B6{Yn:List (Wu×Obj)}{σ:St}{H:Hp}{s:Wv}{R:It->Hp->Prop}{E:Ws->Wv->Prop}{lo hi:Int}{t u v:Tok}{tk:Nat}(I:ag X Yn σ H s)(h1:-(2 ^ 62)<=lo)(h2:lo < 2 ^ 62)(h3:-(2 ^ 62)<=hi)(h4:hi < 2 ^ 62)
 (q:R (nJ lo (hi - lo).toNat) H):Wx (Wy X.prog X.w) X.A (pyIter (.ref s.heap.objs.size)) (B4 X Yn σ tg R) E {s with heap:=s.heap.push {cls:= .type "range",data:= .fields #[.int lo t,.int hi u,.int 1 v]},toks:=tk}:=by
 refine wpAny_pyIter_range (IsRange.new ..) (small_one h1 h2 h3 h4) ?_;have I1:ag X Yn σ H {s with heap:=s.heap.push {cls:= .type "range",data:= .fields #[.int lo t,.int hi u,.int 1 v]},toks:=tk}:=I.kept λb o e=>Py _ e;refine⟨(s.heap.push {cls:= .type "range",data:= .fields #[.int lo t,.int hi u,.int 1 v]}).objs.size,[(s.heap.push {cls:= .type "range",data:= .fields #[.int lo t,.int hi u,.int 1 v]}).objs.size],_,_,H,rfl,
  I1.kept (t':=tk) λb o e=>Py _ e,He _ lo (hi - lo).toNat,?_,λb hb=>?_,q⟩
 ·have e1:lo+((0:Nat):Int)*1=lo:=Wq
  have e2:(((hi - lo).toNat:Nat):Int) - ((0:Nat):Int)=Builtin.Range.rangeSize lo hi 1:=by rw [rangeSize_one];split <;> omega
  show IsRangeIter _ _ (lo+((0:Nat):Int)*1) ((((hi - lo).toNat:Nat):Int) - ((0:Nat):Int)) 1;rw [e1,e2];exact Qa _ rfl
 ·have e:b=(s.heap.push {cls:= .type "range",data:= .fields #[.int lo t,.int hi u,.int 1 v]}).objs.size:=by simpa using hb
  subst e;exact I1.fpOk (PL _) (I1.hok.fresh (PL _))
def wN(ta:TA):TI:=λσ H R=>ta σ H λvs H1=>∃j:Int,vs=[.int j]/\-(2 ^ 62)<=j/\j < 2 ^ 62/\R (nJ 0 j.toNat) H1
def wO(ta:TA):TI:=λσ H R=>ta σ H λvs H1=>∃i j:Int,vs=[.int i,.int j]/\(-(2 ^ 62)<=i/\i < 2 ^ 62/\-(2 ^ 62)<=j/\j < 2 ^ 62)/\R (nJ i (j - i).toNat) H1
theorem B7{a:WC}{ta:TA}{p pos:Pos}(hg:Gl X "range")(hm:X.mg "range"=none)(ha:PA X [a] ta)(hs:WB [a] X.env=[(false,eval a X.env)]:=by rfl):PI X tg (.Call (.Name "range" p) [a] [] pos) (wN ta):=by
 intro Yn s σ H R I h;refine Call_ (pW I hg hm boot_range (R3 (aC (ha pos Yn s σ H _ I h) λus s1 ⟨vs,H1,I1,r1,q1⟩=>?_) hs rfl));obtain⟨j,e,q1,q2,q⟩:=q1;subst e;cases r1 with
 | cons r rr=>
  cases rr;obtain⟨t,rfl⟩:=r;exact call_range_1 (B6 I1 Ce Ce q1 q2 (by simpa using q))
theorem B8{a b:WC}{ta:TA}{p pos:Pos}(hg:Gl X "range")(hm:X.mg "range"=none)(ha:PA X [a,b] ta)(hs:WB [a,b] X.env=[(false,eval a X.env),(false,eval b X.env)]:=by rfl)(hs2:WB [b] X.env=[(false,eval b X.env)]:=by rfl):
 PI X tg (.Call (.Name "range" p) [a,b] [] pos) (wO ta):=by
 intro Yn s σ H R I h;refine Call_ (pW I hg hm boot_range (R3 (aC (ha pos Yn s σ H _ I h) λus s1 ⟨vs,H1,I1,r1,q1⟩=>?_) (by rw [hs,hs2]) (by rw [hs2];rfl)));obtain⟨i,j,e,⟨q1,q2,q3,q4⟩,q⟩:=q1;subst e;cases r1 with
 | cons r rr=>
  cases rr with
  | cons r' rr=>
   cases rr;obtain⟨t,rfl⟩:=r;obtain⟨t',rfl⟩:=r';exact call_range_2 (B6 I1 q1 q2 q3 q4 q)
def sG(wi:TI)(g:TG)(tb:TS):TS:=λD σ H=>wi σ H λJ H1=>∃W:Nat->Nat->St->Hp->Prop,(∃m,W 0 m σ H1)/\∀i m σ H,W i m σ H->
 (J.stop i H/\D.nx σ H)\/(J.go i H/\∃N:St->Hp->Prop,(∀σ' H',N σ' H'->∃m',m' < m/\W (i+1) m' σ' H')/\∀x H',J.yld i H x H'->g x σ H' λσ2 H2=>tb {D with nx:=N,ct:=N,bk:=D.nx} σ2 H2)
def sH(fp:List Wu)(h:WG):List (Wu×Obj):=fp.filterMap λb=>(h.get? b).map λo=>(b,o)
theorem um{fp:List Wu}{h:WG}{b:Wu}{o:Obj}(hb:b∈fp)(e:h.get? b=some o):(b,o)∈sH fp h:=TY.mpr ⟨b,hb,by rw [e];rfl⟩
theorem Hf{fp:List Wu}{h:WG}{p:Wu×Obj}(hp:p∈sH fp h):p.1∈fp/\h.get? p.1=some p.2:=by
 obtain⟨b,hb,e⟩:=TY.mp hp;cases q:h.get? b with
 | none=>rw [q] at e;cases e
 | some o=>
  rw [q] at e;have e':(b,o)=p:=Ri e;subst e';exact⟨hb,q⟩
theorem ag.pinned{Yn:List (Wu×Obj)}{σ:St}{H:Hp}{s:Wv}{fp:List Wu}(I:ag X Yn σ H s)(hf:∀b∈fp,mN X Yn H b)(ho:∀b∈fp,∃o,s.heap.get? b=some o/\∀v,o.data≠ .cell v):ag X (Yn++sH fp s.heap) σ H s:=
 I.pins_of λp hp=>(Rq.mp hp).elim (λz=>I.pin p (Rr _ z)) λz=>by
  obtain⟨hb,e⟩:=Hf z;obtain⟨f0,f1,f2,_⟩:=hf p.1 hb;obtain⟨o,e',d⟩:=ho p.1 hb;rw [e] at e';cases e';exact⟨e,f0,f1,f2,d⟩
theorem ag.unpinned{Yn pl:List (Wu×Obj)}{σ:St}{H:Hp}{s:Wv}(I:ag X (Yn++pl) σ H s):ag X Yn σ H s:=I.pins_of λp hp=>I.pin p (Rr _ (UT _ hp))
theorem sI{iter:WC}{body:List WK}{wi:TI}{g:TG}{tb:TS}{pos:Pos}(hp:XH (Wy X.prog X.w) X.A X.env X.xe)(hc:X.calm=true)(hi:PI X tg iter wi)(hg:PG X tg g)(hb:bG X body tb)
 (hs:∀x,WN iter X.env x=pure x:=by intro _;rfl):PS X (.For tg iter body [] pos) (sG wi g tb):=by
 intro Yn s σ H D I h;refine wpAny_For (aC (hi Yn s σ H _ I h) λv s1 h1=>aC h1 λitv s2 h2=>?_) hs;obtain⟨it,fp,tn,J,H2,e,I2,T,st2,f2,W,⟨m0,w0⟩,turn⟩:=h2;subst e;have stat:∀{H':Hp},(∀b∈fp,H' b=none)->∀b∈fp,mN X Yn H' b:=λhn b hb=>⟨hn b hb,(f2 b hb).2⟩;refine codeAny_forLoop_any (λn s'=>∃i σ' H',ag X Yn σ' H' s'/\tn i s'.heap/\(∀b∈fp,H' b=none)/\W i n σ' H') ?_ m0 ⟨0,σ,H2,I2,st2,λb hb=>(f2 b hb).1,w0⟩;rintro n s3 ⟨i,σ3,H3,I3,st3,fr3,w3⟩;rcases turn i n σ3 H3 w3 with⟨stop,qn⟩ | ⟨go,N,hN,step⟩
 ·refine Xg hp (aC (T.done X rfl rfl rfl hc i Yn s3 σ3 H3 X.xe I3 (stat fr3) st3 stop) λr s4 ⟨hr,I4⟩=>?_);subst hr;exact Xw ⟨σ3,H3,I4,qn⟩
 ·refine Xg hp (aC (T.item X rfl rfl rfl hc i Yn s3 σ3 H3 X.xe I3 (stat fr3) st3 go) λr s4 ⟨u,hr,h4⟩=>?_);subst hr;refine Xg hp (aC h4 λ_ s5 ⟨x,H5,I5,r5,y5,st5,fr5⟩=>?_);have I5':=I5.pinned (stat fr5) (T.obj _ _ st5);refine Xg hp (aC (hg _ s5 σ3 H5 x u _ I5' r5 (step x H5 y5)) λ_ s6 ⟨σ6,H6,I6,q6⟩=>?_);refine Xg hp (aC (hb _ s6 σ6 H6 _ I6 q6) λf s7 q7=>?_);have again:∀{σ7:St}{H7:Hp},ag X (Yn++sH fp s5.heap) σ7 H7 s7->N σ7 H7->∃m,m < n/\∃i σ' H',ag X Yn σ' H' s7/\tn i s7.heap/\(∀b∈fp,H' b=none)/\W i m σ' H':=λ{σ7 H7} I7 n7=>by
   obtain⟨m',hm,w7⟩:=hN σ7 H7 n7;refine⟨m',hm,i+1,σ7,H7,I7.unpinned,T.keep _ _ _ st5 λb hb o e=>(I7.pin (b,o) (Rr _ (Rr _ (um hb e)))).1,λb hb=>?_,w7⟩;obtain⟨o,e,d⟩:=T.obj _ _ st5 b hb;exact(I7.pin (b,o) (Rr _ (Rr _ (um hb e)))).2.1
  cases f with
  | next=>obtain⟨σ7,H7,I7,n7⟩:=q7;exact again I7 n7
  | cont=>obtain⟨σ7,H7,I7,n7⟩:=q7;exact again I7 n7
  | brk=>obtain⟨σ7,H7,I7,q7⟩:=q7;exact⟨σ7,H7,I7.unpinned,q7⟩
  | ret v=>obtain⟨x7,σ7,H7,I7,r7,q7⟩:=q7;exact⟨x7,σ7,H7,I7.unpinned,r7,q7⟩
end
abbrev R2:=V->V->Hp->VK->Prop
def bC(X:Cx)(f:Ws->Ws->Sem Ws)(r:R2):Prop:=
 ∀(Yn:List (Wu×Obj))(s:Wv)(σ:St)(H:Hp)(x y:V)(v u:Ws)(Q:VK),ag X Yn σ H s->aJ x v->aJ y u->r x y H Q->
  Wx (Wy X.prog X.w) X.A (f v u) (EP X Yn σ Q) X.xe s
def wQ(X:Cx)(f:Ws->Sem Ws)(r:V->Hp->VK->Prop):Prop:=
 ∀(Yn:List (Wu×Obj))(s:Wv)(σ:St)(H:Hp)(x:V)(v:Ws)(Q:VK),ag X Yn σ H s->aJ x v->r x H Q->
  Wx (Wy X.prog X.w) X.A (f v) (EP X Yn σ Q) X.xe s
def kA(X:Cx)(f:Ws)(r:List V->Hp->VK->Prop):Prop:=
 ∀(Yn:List (Wu×Obj))(s:Wv)(σ:St)(H:Hp)(xs:List V)(us:List Ws)(Q:VK),ag X Yn σ H s->aM xs us->r xs H Q->
  Wx (Wy X.prog X.w) X.A (call f us) (EP X Yn σ Q) X.xe s
def Hg(X:Cx)(r:V->Hp->(Bool->Hp->Prop)->Prop):Prop:=
 ∀(Yn:List (Wu×Obj))(s:Wv)(σ:St)(H:Hp)(x:V)(v:Ws)(Q:Bool->Hp->Prop),ag X Yn σ H s->aJ x v->r x H Q->
  Wx (Wy X.prog X.w) X.A (truthy v) (TP X Yn σ Q) X.xe s
def pY(r:R2)(ta tb:TE):TE:=λσ H Q=>ta σ H λx H1=>tb σ H1 λy H2=>r x y H2 Q
def wR(r:V->Hp->VK->Prop)(ta:TE):TE:=λσ H Q=>ta σ H λx H1=>r x H1 Q
def rI(C:Int->Int->Prop)(g:Int->Int->V):R2:=λx y H Q=>∃i j,x= .int i/\y= .int j/\C i j/\Q (g i j) H
def mO(g:Int->Int->V):R2:=λx y H Q=>∃i j,x= .int i/\y= .int j/\Q (g i j) H
def rU(g:Int->V):V->Hp->VK->Prop:=λx H Q=>∃i,x= .int i/\Q (g i) H
section
variable {X:Cx} {a b c:WC} {ta tb tc:TE} {pos:Pos}
theorem wU(ha:PE X a ta)(hb:PE X b tb){Yn:List (Wu×Obj)}{s:Wv}{σ:St}{H:Hp}{R:V->V->Hp->Prop}(I:ag X Yn σ H s)
 (h:ta σ H λx H1=>tb σ H1 λy H2=>R x y H2){Q:Ws->Wv->Prop}{f:Ws->Ws->Sem Ws}
 (hf:∀v u s2 x y H2,ag X Yn σ H2 s2->aJ x v->aJ y u->R x y H2->Wx (Wy X.prog X.w) X.A (f v u) Q X.xe s2):
 Wx (Wy X.prog X.w) X.A (eval a X.env) (λv s₁=>Wx (Wy X.prog X.w) X.A (eval b X.env) (λu s₂=>Wx (Wy X.prog X.w) X.A (f v u) Q X.xe s₂) X.xe s₁) X.xe s:=by
 refine aC (ha Yn s σ H _ I h) λv s1 ⟨x,H1,I1,r1,q1⟩=>?_;refine aC (hb Yn s1 σ H1 _ I1 q1) λu s2 ⟨y,H2,I2,r2,q2⟩=>?_;exact hf v u s2 x y H2 I2 r1 r2 q2
theorem bY{op:Operator}{r:R2}(ho:bC X (W7 op) r)(ha:PE X a ta)(hb:PE X b tb):PE X (.BinOp a op b pos) (pY r ta tb):=by
 intro Yn s σ H Q I h;exact wpAny_BinOp (wU ha hb I h λv u s2 x y H2 I2 rx ry q=>ho Yn s2 σ H2 x y v u Q I2 rx ry q)
theorem Hh{op:UnaryOp}{r:V->Hp->VK->Prop}(ho:wQ X (unaryOp op) r)(ha:PE X a ta):PE X (.UnaryOp op a pos) (wR r ta):=by
 intro Yn s σ H Q I h;exact UnaryOp_ (aC (ha Yn s σ H _ I h) λv s1 uu34=>by obtain⟨x,H1,I1,r1,q1⟩:=uu34;exact ho Yn s1 σ H1 x v Q I1 r1 q1)
theorem sJ{f:Ws->Ws->Sem Ws}{C:Int->Int->Prop}{g:Int->Int->Int}
 (rule:∀(i j:Int) (t u:Tok) (s:Wv) (Q:Ws->Wv->Prop) (E:Ws->Wv->Prop),C i j->Q (.int (g i j) s.toks) {s with toks:=s.toks+1}->Wx (Wy X.prog X.w) X.A (f (.int i t) (.int j u)) Q E s):
 bC X f (rI C λi j=>.int (g i j)):=by
 intro Yn s σ H x y v u Q I rx ry h;obtain⟨i,j,rfl,rfl,hc,q⟩:=h;obtain⟨t,rfl⟩:=rx;obtain⟨t',rfl⟩:=ry;exact rule i j t t' s _ _ hc ⟨.int (g i j),H,I.tok _,⟨_,rfl⟩,q⟩
theorem B9{f:Ws->Ws->Sem Ws}{g:Int->Int->Int}
 (rule:∀(i j:Int) (t u:Tok) (s:Wv) (Q:Ws->Wv->Prop) (E:Ws->Wv->Prop),Q (.int (g i j) s.toks) {s with toks:=s.toks+1}->Wx (Wy X.prog X.w) X.A (f (.int i t) (.int j u)) Q E s):
 bC X f (mO λi j=>.int (g i j)):=by
 intro Yn s σ H x y v u Q I rx ry h;obtain⟨i,j,rfl,rfl,q⟩:=h;obtain⟨t,rfl⟩:=rx;obtain⟨t',rfl⟩:=ry;exact rule i j t t' s _ _ ⟨.int (g i j),H,I.tok _,⟨_,rfl⟩,q⟩
theorem uo{f:Ws->Ws->Sem Ws}{g:Int->Int->Bool}
 (rule:∀(i j:Int) (t u:Tok) (s:Wv) (Q:Ws->Wv->Prop) (E:Ws->Wv->Prop),Q (.bool (g i j)) s->Wx (Wy X.prog X.w) X.A (f (.int i t) (.int j u)) Q E s):
 bC X f (mO λi j=>.bl (g i j)):=by
 intro Yn s σ H x y v u Q I rx ry h;obtain⟨i,j,rfl,rfl,q⟩:=h;obtain⟨t,rfl⟩:=rx;obtain⟨t',rfl⟩:=ry;exact rule i j t t' s _ _ ⟨.bl (g i j),H,I,rfl,q⟩
def cu(i j:Int):Prop:=0 < j/\j < 1073741824
def cK(i j:Int):Prop:=0<=j/\j<=1000000/\i.natAbs < 2 ^ 64
def cw(i j:Int):Prop:=(-(2 ^ 64) < i/\i < 2 ^ 64)\/(-(2 ^ 64) < j/\j < 2 ^ 64)
theorem cw.ok{i j:Int}(h:cw i j):IntMulOk i j:=by
 rcases h with⟨h1,h2⟩ | ⟨h1,h2⟩
 ·exact .of_left (intBits_le_64 h1 h2)
 ·exact .of_right (intBits_le_64 h1 h2)
theorem cb:bC X (W7 .Add) (mO λi j=>.int (i+j)):=B9 λ_ _ _ _ _ _ _ q=>add_int q
theorem lg:bC X (W7 .Sub) (mO λi j=>.int (i - j)):=B9 λ_ _ _ _ _ _ _ q=>sub_int q
theorem qO:bC X (W7 .Mult) (rI cw λi j=>.int (i*j)):=sJ λ_ _ _ _ _ _ _ hc q=>mul_int q hc.ok
theorem oa:bC X (W7 .FloorDiv) (rI cu λi j=>.int (i / j)):=sJ λi j _ _ _ _ _ hc q=>by
 have h1:(0:Int) < j:=hc.1;have h2:j < 1073741824:=hc.2;exact floordiv_int Ce (by rw [T6 i Ce];exact q) (.inl (UD Ce))
theorem oh:bC X (W7 .Mod) (rI (λ_ j=>0 < j) λi j=>.int (i % j)):=sJ λi j _ _ _ _ _ hc q=>by
 have h1:(0:Int) < j:=hc;exact mod_int' Ce (by rw [T7 i Ce];exact q)
theorem Hi:bC X (W7 .Pow) (rI cK λi j=>.int (i ^ j.toNat)):=sJ λ_ _ _ _ _ _ _ hc q=>pow_int_small hc.1 hc.2.1 hc.2.2 q
theorem Hj{f:Ws->Sem Ws}{g:Int->Int}
 (rule:∀(i:Int) (t:Tok) (s:Wv) (Q:Ws->Wv->Prop) (E:Ws->Wv->Prop),Q (.int (g i) s.toks) {s with toks:=s.toks+1}->Wx (Wy X.prog X.w) X.A (f (.int i t)) Q E s):
 wQ X f (rU λi=>.int (g i)):=by
 intro Yn s σ H x v Q I rx h;obtain⟨i,rfl,q⟩:=h;obtain⟨t,rfl⟩:=rx;exact rule i t s _ _ ⟨.int (g i),H,I.tok _,⟨_,rfl⟩,q⟩
theorem Hk:wQ X (unaryOp .USub) (rU λi=>.int (-i)):=Hj λ_ _ _ _ _ q=>neg_int q
end
def oZ:V->V->Bool
 | .non,.non=>true | .non,.int _=>true | .int _,.non=>true | .non,.bl _=>true | .bl _,.non=>true | .non,.str _=>true | .str _,.non=>true
 | .int _,.int _=>true | .bl _,.bl _=>true | .str _,.str _=>true | .byt _,.byt _=>true
 | .int _,.str _=>true | .str _,.int _=>true | .bl _,.str _=>true | .str _,.bl _=>true
 | _,_=>false
def wV:R2:=λx y H Q=>oZ x y=true/\Q (.bl (decide (x=y))) H
def wX:R2:=λx y H Q=>oZ x y=true/\Q (.bl (!decide (x=y))) H
theorem Ca{i j:Int}:decide (V.int i=V.int j)=(i==j):=by
 rw [RM];simp
theorem Cb{i j:Bool}:decide (V.bl i=V.bl j)=(i==j):=by
 rw [RM];simp
theorem Cc{i j:Str}:decide (V.str i=V.str j)=(i==j):=by
 rw [RM];simp
theorem Cd{i j:Array UInt8}:decide (V.byt i=V.byt j)=(i.toList==j.toList):=by
 rw [RM];cases i;cases j;simp
section
variable {X:Cx} {a b c:WC} {ta tb tc:TE} {pos:Pos}
theorem bH{Yn:List (Wu×Obj)}{σ:St}{H:Hp}{s:Wv}{Q:VK}{k k':Bool}(I:ag X Yn σ H s)(q:Q (.bl k) H)(e:k=k'):EP X Yn σ Q (.bool k') s:=by
 subst e;exact⟨.bl k,H,I,rfl,q⟩
theorem uq:bC X (WM .Eq) wV:=by
 intro Yn s σ H x y v u Q I rx ry h;obtain⟨hs,q⟩:=h;cases x with
 | non=>
  cases rx;cases y with
  | non=>cases ry;exact PySem.EqNone.eq_none_none (bH I q Wq)
  | bl j=>cases ry;exact PySem.EqNone.eq_none_bool (bH I q Wq)
  | int j=>obtain⟨t',rfl⟩:=ry;exact PySem.EqNone.eq_none_int (bH I q Wq)
  | str j=>obtain⟨t',rfl⟩:=ry;exact PySem.EqNone.eq_none_str (bH I q Wq)
  | _=>exact absurd (show false=true from hs) Qr
 | bl i=>
  cases rx;cases y with
  | non=>cases ry;exact PySem.EqNone.eq_bool_none (bH I q Wq)
  | bl j=>cases ry;exact eq_bool (bH I q Cb)
  | str j=>obtain⟨t',rfl⟩:=ry;exact PySem.EqMixed.eq_bool_str (bH I q Wq)
  | _=>exact absurd (show false=true from hs) Qr
 | int i=>
  obtain⟨t,rfl⟩:=rx;cases y with
  | non=>cases ry;exact PySem.EqNone.eq_int_none (bH I q Wq)
  | int j=>obtain⟨t',rfl⟩:=ry;exact eq_int (bH I q Ca)
  | str j=>obtain⟨t',rfl⟩:=ry;exact PySem.EqMixed.eq_int_str (bH I q Wq)
  | _=>exact absurd (show false=true from hs) Qr
 | str i=>
  obtain⟨t,rfl⟩:=rx;cases y with
  | non=>cases ry;exact PySem.EqNone.eq_str_none (bH I q Wq)
  | bl j=>cases ry;exact PySem.EqMixed.eq_str_bool (bH I q Wq)
  | int j=>obtain⟨t',rfl⟩:=ry;exact PySem.EqMixed.eq_str_int (bH I q Wq)
  | str j=>obtain⟨t',rfl⟩:=ry;exact eq_str (bH I q Cc)
  | _=>exact absurd (show false=true from hs) Qr
 | byt i=>
  obtain⟨t,rfl⟩:=rx;cases y with
  | byt j=>obtain⟨t',rfl⟩:=ry;exact PySem.W.eq_bytes (bH I q Cd)
  | _=>exact absurd (show false=true from hs) Qr
 | _=>cases y <;> exact absurd (show false=true from hs) Qr
theorem Hl:bC X (WM .NotEq) wX:=by
 intro Yn s σ H x y v u Q I rx ry h;obtain⟨hs,q⟩:=h;cases x with
 | non=>
  cases rx;cases y with
  | non=>cases ry;exact PySem.EqNone.ne_none_none (bH I q Wq)
  | bl j=>cases ry;exact PySem.EqNone.ne_none_bool (bH I q Wq)
  | int j=>obtain⟨t',rfl⟩:=ry;exact PySem.EqNone.ne_none_int (bH I q Wq)
  | str j=>obtain⟨t',rfl⟩:=ry;exact PySem.EqNone.ne_none_str (bH I q Wq)
  | _=>exact absurd (show false=true from hs) Qr
 | bl i=>
  cases rx;cases y with
  | non=>cases ry;exact PySem.EqNone.ne_bool_none (bH I q Wq)
  | bl j=>cases ry;exact ne_bool (bH I q (congrArg not Cb))
  | str j=>obtain⟨t',rfl⟩:=ry;exact PySem.EqMixed.ne_bool_str (bH I q Wq)
  | _=>exact absurd (show false=true from hs) Qr
 | int i=>
  obtain⟨t,rfl⟩:=rx;cases y with
  | non=>cases ry;exact PySem.EqNone.ne_int_none (bH I q Wq)
  | int j=>obtain⟨t',rfl⟩:=ry;exact ne_int (bH I q (congrArg not Ca))
  | str j=>obtain⟨t',rfl⟩:=ry;exact PySem.EqMixed.ne_int_str (bH I q Wq)
  | _=>exact absurd (show false=true from hs) Qr
 | str i=>
  obtain⟨t,rfl⟩:=rx;cases y with
  | non=>cases ry;exact PySem.EqNone.ne_str_none (bH I q Wq)
  | bl j=>cases ry;exact PySem.EqMixed.ne_str_bool (bH I q Wq)
  | int j=>obtain⟨t',rfl⟩:=ry;exact PySem.EqMixed.ne_str_int (bH I q Wq)
  | str j=>obtain⟨t',rfl⟩:=ry;exact ne_str (bH I q (congrArg not Cc))
  | _=>exact absurd (show false=true from hs) Qr
 | byt i=>
  obtain⟨t,rfl⟩:=rx;cases y with
  | byt j=>obtain⟨t',rfl⟩:=ry;exact PySem.W.ne_bytes (bH I q (congrArg not Cd))
  | _=>exact absurd (show false=true from hs) Qr
 | _=>cases y <;> exact absurd (show false=true from hs) Qr
theorem qP:bC X (WM .Lt) (mO λi j=>.bl (decide (i < j))):=uo λ_ _ _ _ _ _ _ q=>lt_int q
theorem kn:bC X (WM .LtE) (mO λi j=>.bl (decide (i<=j))):=uo λ_ _ _ _ _ _ _ q=>le_int q
theorem pd:bC X (WM .Gt) (mO λi j=>.bl (decide (j < i))):=uo λ_ _ _ _ _ _ _ q=>gt_int q
theorem Hm:bC X (WM .GtE) (mO λi j=>.bl (decide (j<=i))):=uo λ_ _ _ _ _ _ _ q=>ge_int q
theorem Hn:bC X (WM .Lt) (λx y H Q=>∃i j,x= .str i/\y= .str j/\Q (.bl (decide (i.cps.toList < j.cps.toList))) H):=by
 intro Yn s σ H x y v u Q I rx ry h;obtain⟨i,j,rfl,rfl,q⟩:=h;obtain⟨t,rfl⟩:=rx;obtain⟨t',rfl⟩:=ry;exact lt_str (bH I q rfl)
theorem ur:bC X (WM .In) (λx y H Q=>∃i j,x= .str i/\y= .str j/\Q (.bl (!(R0 j i 0 j.length 1).isEmpty)) H):=by
 intro Yn s σ H x y v u Q I rx ry h;obtain⟨i,j,rfl,rfl,q⟩:=h;obtain⟨t,rfl⟩:=rx;obtain⟨t',rfl⟩:=ry;exact in_str (bH I q rfl)
theorem qQ:bC X (WM .Is) (λx y H Q=>y= .non/\Q (.bl (decide (x= .non))) H):=by
 intro Yn s σ H x y v u Q I rx ry h;obtain⟨rfl,q⟩:=h;cases ry;refine is_none_gen (bH I q ?_);cases x <;> first
  | (cases rx;rfl)
  | (obtain⟨t,rfl⟩:=rx;rfl)
theorem Cf:bC X (WM .IsNot) (λx y H Q=>y= .non/\Q (.bl (!decide (x= .non))) H):=by
 intro Yn s σ H x y v u Q I rx ry h;obtain⟨rfl,q⟩:=h;cases ry;refine isnot_none_gen (bH I q ?_);cases x <;> first
  | (cases rx;rfl)
  | (obtain⟨t,rfl⟩:=rx;rfl)
theorem av(b:WC){op:CmpOp}(h:op≠ .In:=by decide)(h2:op≠ .NotIn:=by decide):W6 op b=false:=by
 have e1:(op==CmpOp.In)=false:=by cases op <;> first | rfl | exact absurd rfl h
 have e2:(op==Wb)=false:=by cases op <;> first | rfl | exact absurd rfl h2
 cases b <;> simp [W6,e1,e2]
theorem pZ{op:CmpOp}{r:R2}(ho:bC X (WM op) r)(ha:PE X a ta)(hb:PE X b tb)(hm:W6 op b=false):PE X (.Compare a [op] [b] pos) (pY r ta tb):=by
 intro Yn s σ H Q I h;exact wpAny_Compare1 (wU ha hb I h λv u s2 x y H2 I2 rx ry q=>ho Yn s2 σ H2 x y v u Q I2 rx ry q) hm
def uu(t:TE):TT:=λσ H Q=>t σ H λx H'=>∃k,x= .bl k/\Q k H'
theorem p4{op:CmpOp}{r:R2}(ho:bC X (WM op) r)(ha:PE X a ta)(hb:PE X b tb)(hm:W6 op b=false):PT X (.Compare a [op] [b] pos) (uu (pY r ta tb)):=by
 intro Yn s σ H Q I h;refine wpAny_isTrue_Compare1 (aC (ha Yn s σ H _ I h) λv s1 ⟨x,H1,I1,r1,q1⟩=>aC (hb Yn s1 σ H1 _ I1 q1) λu s2 ⟨y,H2,I2,r2,q2⟩=>
  aC (ho Yn s2 σ H2 x y v u _ I2 r1 r2 q2) λc s3 ⟨z,H3,I3,r3,k,e,q3⟩=>?_) hm
 subst e;cases r3;exact WT ⟨H3,I3,q3⟩
def uw(r r':R2)(ta tb tc:TE):TE:=λσ H Q=>ta σ H λx H1=>tb σ H1 λy H2=>r x y H2 λz H3=>∃k,z= .bl k/\
 (if k=true then tc σ H3 λw' H4=>r' y w' H4 Q else Q (.bl false) H3)
theorem Ho{op op':CmpOp}{r r':R2}(ho:bC X (WM op) r)(ho':bC X (WM op') r')(ha:PE X a ta)(hb:PE X b tb)(hc:PE X c tc)
 (hm:lastMarks [op,op'] [b,c]=false:=by with_unfolding_all rfl):PE X (.Compare a [op,op'] [b,c] pos) (uw r r' ta tb tc):=by
 intro Yn s σ H Q I h;refine Compare_chain (aC (ha Yn s σ H _ I h) λv s1 ⟨x,H1,I1,r1,q1⟩=>chain_link (aC (hb Yn s1 σ H1 _ I1 q1) λu s2 ⟨y,H2,I2,r2,q2⟩=>
  aC (ho Yn s2 σ H2 x y v u _ I2 r1 r2 q2) λd s3 ⟨z,H3,I3,r3,k,e,q3⟩=>?_)) hm
 subst e;cases r3;refine WT ?_;cases k with
 | false=>exact ite_ff ⟨.bl false,H3,I3,rfl,q3⟩
 | true=>exact ite_tt (chain_last (aC (hc Yn s3 σ H3 _ I3 q3) λw' s4 uu41=>by obtain⟨z',H4,I4,r4,q4⟩:=uu41;exact ho' Yn s4 σ H4 y z' u w' Q I4 r2 r4 q4))
theorem Hq{op op':CmpOp}{r r':R2}(ho:bC X (WM op) r)(ho':bC X (WM op') r')(ha:PE X a ta)(hb:PE X b tb)(hc:PE X c tc)
 (hm:lastMarks [op,op'] [b,c]=false:=by with_unfolding_all rfl):PT X (.Compare a [op,op'] [b,c] pos) (uu (uw r r' ta tb tc)):=by
 intro Yn s σ H Q I h;refine isTrue_chain (aC (ha Yn s σ H _ I h) λv s1 ⟨x,H1,I1,r1,q1⟩=>test_link (aC (hb Yn s1 σ H1 _ I1 q1) λu s2 ⟨y,H2,I2,r2,q2⟩=>
  aC (ho Yn s2 σ H2 x y v u _ I2 r1 r2 q2) λd s3 ⟨z,H3,I3,r3,k,e,q3⟩=>?_)) hm
 subst e;cases r3;refine WT ?_;cases k with
 | false=>
  obtain⟨k',e',q'⟩:=q3;cases e';exact ite_ff ⟨H3,I3,q'⟩
 | true=>
  refine ite_tt (test_last (aC (hc Yn s3 σ H3 _ I3 q3) λw' s4 ⟨z',H4,I4,r4,q4⟩=>aC (ho' Yn s4 σ H4 y z' u w' _ I4 r2 r4 q4) λd' s5 ⟨z2,H5,I5,r5,k2,e2,q5⟩=>?_));subst e2;cases r5;exact WT ⟨H5,I5,q5⟩
def Cg(K:Pq)(x:V)(H:Hp)(k:Bool):Prop:=
 match x with
 | .non=>k=false
 | .bl b=>k=b
 | .int i=>k=(i !=0)
 | .str y=>y.length<=WA/\k=((y.length:Int) !=0)
 | .byt y=>y.size<=WA/\k=((y.size:Int) !=0)
 | .ref p=>(∃xs,bf K H p xs/\k=!xs.isEmpty)\/(∃xs,aY K H p xs/\k=!xs.isEmpty)\/∃kvs,H p=some (.dK kvs)/\k=!kvs.isEmpty
 | _=>False
theorem Hr{κ:Type}{kvs:List (κ×V)}{vs:List (κ×Ws)}(r:KV kvs vs):(!vs.isEmpty)=!kvs.isEmpty:=by
 cases r <;> rfl
theorem Ci{xs:List V}{its:List Ws}(r:aM xs its):(!its.toArray.isEmpty)=!xs.isEmpty:=by
 cases r <;> simp
theorem pe:(WA:Nat) < 2 ^ 63:=by rw [WI];decide
theorem Hs:Hg X (λx H Q=>∃k,Cg X.K x H k/\Q k H):=by
 intro Yn s σ H x v Q I rx h;obtain⟨k,e,q⟩:=h;have hl:=pe;have hs:WA=16777216:=WI;cases x with
 | non=>
  cases rx;have e':k=false:=e;subst e';exact truthy_none ⟨H,I,q⟩
 | bl b=>
  cases rx;have e':k=b:=e;subst e';exact WT ⟨H,I,q⟩
 | int i=>
  obtain⟨t,rfl⟩:=rx;have e':k=(i !=0):=e;subst e';exact PySem.P.truthy_int ⟨H,I,q⟩
 | str y=>
  obtain⟨t,rfl⟩:=rx;obtain⟨hy,e'⟩:y.length<=WA/\k=((y.length:Int) !=0):=e;subst e';exact PySem.P.truthy_str Ce ⟨H,I.tok _,q⟩
 | byt y=>
  obtain⟨t,rfl⟩:=rx;obtain⟨hy,e'⟩:y.size<=WA/\k=((y.size:Int) !=0):=e;subst e';exact PySem.W.truthy_bytes Ce ⟨H,I.tok _,q⟩
 | ref p=>
  cases rx;have e':(∃xs,bf X.K H p xs/\k=!xs.isEmpty)\/(∃xs,aY X.K H p xs/\k=!xs.isEmpty)\/∃kvs,H p=some (.dK kvs)/\k=!kvs.isEmpty:=e;rcases e' with⟨xs,hx,e'⟩ | ⟨xs,hx,e'⟩ | ⟨kvs,hx,e'⟩
  ·subst e';obtain⟨its,r,pl,hz⟩:=I.list hx;have hlen:=r.length;exact wpAny_truthy_list pl.isList (by simp only [Qk];omega) ⟨H,I.tok _,by rw [Ci r];exact q⟩
  ·subst e';obtain⟨its,r,pl,hz⟩:=I.tuple hx;have hlen:=r.length;exact truthy_tuple pl (by simp only [Qk];omega) ⟨H,I.tok _,by rw [Ci r];exact q⟩
  ·subst e';obtain⟨hz,hS,vs,r,m⟩:kvs.length<=WA/\(p==sysModules)=false/\∃vs,KV kvs vs/\s.heap.DictOf (v5 X.prog X.w) p vs:=I.hok p _ hx;have hlen:kvs.length=vs.length:=VX r;exact wpAny_truthy_dict hS m Ce ⟨H,I.tok _,by rw [Hr r];exact q⟩
 | _=>exact(show False from e).elim
theorem Ht(ha:PE X a ta)(he:∀whole,isTrue a X.env whole=(do let v<-whole;standAt a.pos;XZ [v] (truthy v))):
 PT X a (λσ H Q=>ta σ H λx H'=>∃k,Cg X.K x H' k/\Q k H'):=by
 intro Yn s σ H Q I h;exact isTrue_plain (aC (ha Yn s σ H _ I h) λv s1 uu47=>by obtain⟨x,H1,I1,r1,q1⟩:=uu47;exact Hs Yn s1 σ H1 x v Q I1 r1 q1) (he _)
theorem sL:bC X (W7 .Add) (λx y H Q=>∃i j,x= .str i/\y= .str j/\i.length+j.length<=WA/\Q (.str (i++j)) H):=by
 intro Yn s σ H x y v u Q I rx ry h;obtain⟨i,j,rfl,rfl,hz,q⟩:=h;obtain⟨t,rfl⟩:=rx;obtain⟨t',rfl⟩:=ry;exact add_str (λt' tk=>⟨.str (i++j),H,I.tok _,⟨_,rfl⟩,q⟩) hz
theorem lh{x:V}{us:List Ws}(r:aM [x] us):∃u,us=[u]/\aJ x u:=by
 cases r with
 | cons r1 r2=>cases r2;exact⟨_,rfl,r1⟩
theorem p5{x y:V}{us:List Ws}(r:aM [x,y] us):∃u w',us=[u,w']/\aJ x u/\aJ y w':=by
 cases r with
 | cons r1 r2=>
  cases r2 with
  | cons r3 r4=>cases r4;exact⟨_,_,rfl,r1,r3⟩
theorem Hu(hc:X.calm=true):kA X (.builtin "max") (λxs H Q=>∃i j,xs=[.int i,.int j]/\Q (.int (if j > i then j else i)) H):=by
 intro Yn s σ H xs us Q I r h;obtain⟨i,j,rfl,q⟩:=h;obtain⟨u,w',rfl,⟨t,rfl⟩,⟨t',rfl⟩⟩:=p5 r;refine max_two_ints (I.ok.hd hc) λh' tk k=>⟨_,H,I.kept k,?_,q⟩;by_cases hj:j > i
 ·rw [Wn hj,Wn hj];exact⟨_,rfl⟩
 ·rw [Wm hj,Wm hj];exact⟨_,rfl⟩
theorem Cj(hc:X.calm=true):kA X (.builtin "min") (λxs H Q=>∃i j,xs=[.int i,.int j]/\Q (.int (if j < i then j else i)) H):=by
 intro Yn s σ H xs us Q I r h;obtain⟨i,j,rfl,q⟩:=h;obtain⟨u,w',rfl,⟨t,rfl⟩,⟨t',rfl⟩⟩:=p5 r;refine min_two_ints (I.ok.hd hc) λh' tk k=>⟨_,H,I.kept k,?_,q⟩;by_cases hj:j < i
 ·rw [Wn hj,Wn hj];exact⟨_,rfl⟩
 ·rw [Wm hj,Wm hj];exact⟨_,rfl⟩
theorem ux:kA X (.type "int") (λxs H Q=>(∃i,xs=[.int i]/\Q (.int i) H)\/∃k,xs=[.bl k]/\Q (.int (if k then 1 else 0)) H):=by
 intro Yn s σ H xs us Q I r h;rcases h with⟨i,rfl,q⟩ | ⟨k,rfl,q⟩
 ·obtain⟨u,rfl,t,rfl⟩:=lh r;exact call_int_int ⟨.int i,H,I,⟨_,rfl⟩,q⟩
 ·obtain⟨u,rfl,r1⟩:=lh r;cases r1;exact call_int_bool ⟨.int (if k then 1 else 0),H,I.tok _,⟨_,rfl⟩,q⟩
theorem oj:kA X (.type "str") (λxs H Q=>∃i,xs=[.int i]/\i.natAbs.log2 < 1920/\Q (.str (toString i)) H):=by
 intro Yn s σ H xs us Q I r h;obtain⟨i,rfl,hz,q⟩:=h;obtain⟨u,rfl,t,rfl⟩:=lh r;exact PySem.P.str_of_int hz ⟨.str _,H,I.tok _,⟨_,rfl⟩,q⟩
def Hv(K:Pq)(x:V)(H:Hp)(n:Nat):Prop:=
 match x with
 | .str y=>y.length<=WA/\n=y.length
 | .byt y=>y.size<=WA/\n=y.size
 | .ref p=>(∃xs,bf K H p xs/\n=xs.length)\/∃xs,aY K H p xs/\n=xs.length
 | _=>False
theorem Hw:kA X (.builtin "len") (λxs H Q=>∃x n,xs=[x]/\Hv X.K x H n/\Q (.int n) H):=by
 intro Yn s σ H xs us Q I r h;obtain⟨x,n,rfl,e,q⟩:=h;obtain⟨u,rfl,rx⟩:=lh r;have hl:=pe;have hs:WA=16777216:=WI;cases x with
 | str y=>
  obtain⟨t,rfl⟩:=rx;obtain⟨hy,e'⟩:y.length<=WA/\n=y.length:=e;subst e';exact len_str Ce ⟨.int _,H,I.tok _,⟨_,rfl⟩,q⟩
 | byt y=>
  obtain⟨t,rfl⟩:=rx;obtain⟨hy,e'⟩:y.size<=WA/\n=y.size:=e;subst e';exact PySem.W.len_bytes Ce ⟨.int _,H,I.tok _,⟨_,rfl⟩,q⟩
 | ref p=>
  cases rx;have e':(∃xs,bf X.K H p xs/\n=xs.length)\/∃xs,aY X.K H p xs/\n=xs.length:=e;rcases e' with⟨xs,hx,e'⟩ | ⟨xs,hx,e'⟩
  ·subst e';obtain⟨its,r',pl,hz⟩:=I.list hx;have hlen:=r'.length;exact U6 pl.isList (by simp only [Qk];omega) ⟨.int xs.length,H,I.tok _,⟨_,by simp only [Qk];rw [hlen]⟩,q⟩
  ·subst e';obtain⟨its,r',pl,hz⟩:=I.tuple hx;have hlen:=r'.length;exact len_tuple pl (by simp only [Qk];omega) ⟨.int xs.length,H,I.tok _,⟨_,by simp only [Qk];rw [hlen]⟩,q⟩
 | _=>exact(show False from e).elim
theorem Hx:kA X (.builtin "divmod") (λxs H Q=>∃i j,xs=[.int i,.int j]/\cu i j/\∀p,H p=none->Q (.ref p) (ao H p (.tup [.int (i / j),.int (i % j)]))):=by
 intro Yn s σ H xs us Q I r h;obtain⟨i,j,rfl,⟨h1,h2⟩,q⟩:=h;obtain⟨u,w',rfl,⟨t,rfl⟩,⟨t',rfl⟩⟩:=p5 r;refine divmod_int Ce ?_ (.inl (UD Ce));rw [T6 i Ce,T7 i Ce];have hn:H s.heap.objs.size=none:=I.hok.fresh (PL _);refine⟨.ref s.heap.objs.size,_,?_,rfl,q _ hn⟩;refine I.laid (λb o e=>Py _ e) (PL _) ⟨by simp only [Pu,P1];rw [WI];decide,[.int (i / j) s.toks,.int (i % j) (s.toks+1)],.cons ⟨_,rfl⟩ (.cons ⟨_,rfl⟩ .nil),?_⟩;exact⟨_,Qa s.heap rfl,rfl,0,rfl⟩
end
structure wY (h:WG) (x dx C:Wu) (mA:Str->Option Ws):Prop where
 obj:h.get? x=some (Uy C dx)
 ns:h.Ns1 dx mA
 ne:dx≠x
theorem Ck{h:WG}{dx:Wu}{mA:Str->Option Ws}(n:h.Ns1 dx mA):∃od,h.get? dx=some od/\∀name,UG name od=some (mA name):=by
 obtain⟨o,es,ep,ho,hd,hk,_,hm⟩:=n;refine⟨o,ho,λname=>?_⟩;have e:=hm name;unfold nsFind findBy at e;rw [<-Array.find?_toList] at e;unfold UG;rw [hd];dsimp only;split
 ·rename_i y q;rw [q] at e;exact congrArg some e
 ·rename_i q;rw [q] at e;have a:es.toList.any (·.refKey)=false:=by
   rw [List.any_eq_false];intro y hy;obtain⟨z,t,hkey⟩:=hk y (Array.mem_toList_iff.mp hy);simp [DictEntry.refKey,hkey]
  have a':¬es.toList.any (·.refKey)=true:=by rw [a];exact Qr
  rw [Wm a'];exact congrArg some e
theorem wY.look{h:WG}{x dx C:Wu}{mA:Str->Option Ws}(I:wY h x dx C mA):∃od,SY h x (Uy C dx) C (some od)/\∀name,UG name od=some (mA name):=
 let ⟨od,ho,hl⟩:=Ck I.ns
 ⟨od,⟨I.obj,rfl,rfl,ho⟩,hl⟩
theorem qJ.some_of{v:V}{o:Option Ws}(r:qJ (some v) o):∃u,o=some u/\aJ v u:=by
 cases o with
 | none=>exact(show False from r).elim
 | some u=>exact⟨u,rfl,r⟩
section
variable {P:WH} {w:WJ} {H H':Hp} {h h':WG} {a C dx:Wu} {fs fs':List (Str×V)}
theorem Hy(hok:bQ P w H h)(e:H a=some (.ins C dx fs)):∃mA,wY h a dx C mA/\(∀f,qJ (fs.lookup f) (mA f))/\V2 mA (fs.map (·.1))/\fs.length<=1000/\H dx=some (.own a):=by
 obtain⟨d,z,ne,ob,mA,n,r,q⟩:=(show bI P w H h a (.ins C dx fs) from hok a _ e);exact⟨mA,⟨ob,n,ne⟩,r,q,z,d⟩
end
structure wZ (K:Pq) (C:Wu):Prop where
 pg:Vy K C TM=true
 hd:Ue K C=true
 po:PySem.W.plainOver K C=true
 sa:Rn K (.ref C) "__setattr__"=some (some (.builtin "object.__setattr__"))
theorem wZ.get{K:Pq}{C:Wu}(c:wZ K C)(f:Str):Vy K C f=true:=c.pg
section
variable {X:Cx} {Yn:List (Wu×Obj)} {σ:St} {H:Hp} {s:Wv} {a C dx:Wu} {fs:List (Str×V)} {f:Str} {v:V} {A:WL} {E:Ws->Wv->Prop}
theorem Hz{prog:WH}{w:WJ}{env:Env}{e:WC}{f:Str}{pos:Pos}{s:Wv}{Q:Ws->Wv->Prop}(hb:Xi e f env (eval e env)=eval e env)
 (h:Wx (Wy prog w) A (eval e env) (λo s₁=>Wx (Wy prog w) A (getAttr o f true) Q E s₁) E s):Wx (Wy prog w) A (eval (.Attribute e f pos) env) Q E s:=
 Attribute_any_ h (by rw [arm_eval_Attribute,hb])
end
section
variable {X:Cx} {Yn:List (Wu×Obj)} {σ:St} {H:Hp} {s:Wv} {A:WL} {E:Ws->Wv->Prop} {Q:Ws->Wv->Prop} {c:Ws} {b:Bool}
inductive my (K:Pq) (H:Hp):V->Ws->Prop where
 | non:my K H .non (.type "NoneType")
 | bl (x:Bool):my K H (.bl x) (.type "bool")
 | int (i:Int):my K H (.int i) (.type "int")
 | str (x:Str):my K H (.str x) (.type "str")
 | flt (x:UInt64):my K H (.flt x) (.type "float")
 | lst {a:Wu} {xs:List V} (e:H a=some (.lst xs)):my K H (.ref a) (.type "list")
 | frz {a:Wu} {o:Obj} {xs:List V} (e:H a=some (.frz o (.lst xs))):my K H (.ref a) (.type "list")
 | tup {a:Wu} {xs:List V} (e:H a=some (.tup xs)):my K H (.ref a) (.type "tuple")
 | dK {a:Wu} {kvs:List (bp×V)} (e:H a=some (.dK kvs)):my K H (.ref a) (.type "dict")
 | dT {a:Wu} {kvs:List (List bp×V)} (e:H a=some (.dT kvs)):my K H (.ref a) (.type "dict")
 | ins {a C dx:Wu} {fs:List (Str×V)} (e:H a=some (.ins C dx fs)) (cl:wZ K C) (ha:Rn K (.ref C) "__class__"=some (some (.builtin "object.__class__")))
  (hn:SV K (.builtin "object.__class__") "__get__"=some (some (.builtin "getset_descriptor.__get__"))) (htk:Uz K (.builtin "object.__class__")=some true)
  (hm:RQ K C (.type "object")=some true):my K H (.ref a) (.ref C)
theorem HA{x:V}{u t:Ws}(I:ag X Yn σ H s)(rx:aJ x u)(ty:my X.K H x t)(e:SE X.K t c=some b)(h:∀tk,Q (.bool b) {s with toks:=tk}):
 Wx (Wy X.prog X.w) A (call (.builtin "isinstance") [u,c]) Q E s:=by
 cases ty with
 | non=>cases (show u=RW from rx);exact RD PySem.W.kitx_none I.kIn RK e (λz=>nomatch z) h
 | bl y=>cases (show u=So y from rx);exact RD PySem.W.kitx_bool I.kIn RK e (λz=>nomatch z) h
 | int i=>obtain⟨t,q⟩:=(show ∃t,u=TL i t from rx);cases q;exact RD PySem.W.kitx_int I.kIn RK e (λz=>nomatch z) h
 | str y=>obtain⟨t,q⟩:=(show ∃t,u=S5 y t from rx);cases q;exact RD PySem.W.kitx_str I.kIn RK e (λz=>nomatch z) h
 | flt y=>obtain⟨t,q⟩:=(show ∃t,u=Wa y t from rx);cases q;exact RD PySem.W.kitx_float I.kIn RK e (λz=>nomatch z) h
 | @lst a xs ea=>
  cases (show u=Qy a from rx);obtain⟨_,_,n,_,h1⟩:=(show bI X.prog X.w H s.heap a (.lst xs) from I.hok a _ ea);exact RD Vn I.kIn ⟨_,h1,rfl⟩ e (λz=>nomatch z) h
 | @frz a ob xs ea=>
  cases (show u=Qy a from rx);obtain⟨_,_,_,n,_,h1⟩:=(show bI X.prog X.w H s.heap a (.frz ob (.lst xs)) from I.hok a _ ea);exact RD Vn I.kIn ⟨_,h1,rfl⟩ e (λz=>nomatch z) h
 | @tup a xs ea=>
  cases (show u=Qy a from rx);obtain⟨_,_,_,p⟩:=(show bI X.prog X.w H s.heap a (.tup xs) from I.hok a _ ea);obtain⟨o,h1,h2,_⟩:=p;exact RD PySem.W.kitx_tuple I.kIn ⟨o,h1,h2⟩ e (λz=>nomatch z) h
 | @dK a kvs ea=>
  cases (show u=Qy a from rx);obtain⟨_,_,vs,_,p⟩:=(show bI X.prog X.w H s.heap a (.dK kvs) from I.hok a _ ea);obtain⟨o,es,ep,h1,h2,_⟩:=p;exact RD Vo I.kIn ⟨o,h1,h2.1⟩ e (λz=>nomatch z) h
 | @dT a kvs ea=>
  cases (show u=Qy a from rx);obtain⟨_,_,xs,_,o,es,ep,h1,h2,_⟩:=(show bI X.prog X.w H s.heap a (.dT kvs) from I.hok a _ ea);exact RD Vo I.kIn ⟨o,h1,h2.1⟩ e (λz=>nomatch z) h
 | @ins a C dx fs ea cl ha hn htk hm=>
  cases (show u=Qy a from rx);obtain⟨mA,O,_⟩:=Hy I.hok ea;obtain⟨od,J,_⟩:=O.look;exact RD (PySem.W.kitx_own (cl.get _) cl.hd ha hn htk hm) I.kIn J e (λz=>nomatch z) h
end
structure bN (k:Nat) (A:WL):Prop where
 hd:A.handled=none
 dp:A.depth+3*k+5 < recursionLimit
 un:A.units+16*k+200 < cLine
theorem bN.mono{j k:Nat}{A:WL}(r:bN k A)(h:j<=k):bN j A:=⟨r.hd,by have:=r.dp;omega,by have:=r.un;omega⟩
theorem bN.deeper{k:Nat}{A:WL}(r:bN (k+1) A)(env:Env):bN k (A.deeper env):=
 ⟨r.hd,by have:=r.dp;show A.depth+1+3*k+5 < _;omega,by have:=r.un;show A.units+3+16*k+200 < _;omega⟩
theorem HB{A:WL}{C:Wu}{us:List Ws}{kw:List (Str×Ws)}:(A.under (.builtin "type.__call__" ⟨.ref C::us,kw⟩)).depth=A.depth+1:=by
 first | rfl | simp [Vd,Code.weight,Code.isCreation,Code.isGuard,Code.isCaller,Wc,Ve,guardIds]
theorem HC{A:WL}{C:Wu}{us:List Ws}{kw:List (Str×Ws)}:(A.under (.builtin "type.__call__" ⟨.ref C::us,kw⟩)).units=A.units+1:=by
 first | rfl | simp [Vd,Code.cUnits,Wc,Ve]
theorem bN.make{k:Nat}{A:WL}(r:bN (k+1) A)(C:Wu)(us:List Ws)(kw:List (Str×Ws)):bN k (A.under (.builtin "type.__call__" ⟨.ref C::us,kw⟩)):=
 ⟨r.hd,by have:=r.dp;rw [HB];omega,by have:=r.un;rw [HC];omega⟩
theorem bN.depth{k:Nat}{A:WL}(r:bN k A):A.depth < recursionLimit:=by have:=r.dp;omega
theorem bN.units{k:Nat}{A:WL}(r:bN k A):A.units+64 < cLine:=by have:=r.un;omega
theorem bN.units0{k:Nat}{A:WL}(r:bN k A):A.units < cLine:=by have:=r.un;omega
def uy:TA:=λ_ H Q=>Q [] H
def sM(ta:TE)(tr:TA):TA:=λσ H Q=>ta σ H λx H1=>tr σ H1 λxs H2=>Q (x::xs) H2
section
variable {X:Cx} {e:WC} {es:List WC} {te:TE} {t:TA} {pos:Pos}
theorem bJ:PA X [] uy:=λ_ _ _ _ H Q I h=>Calls.spliced_nil ⟨[],H,I,.nil,h⟩
theorem aQ(ha:PE X e te)(hr:PA X es t)(hs:WB (e::es) X.env=(false,eval e X.env)::WB es X.env:=by rfl):PA X (e::es) (sM te t):=by
 intro pos Yn s σ H Q I h;rw [hs];show Wx _ _ (spliced ((false,eval e X.env)::WU pos (WB es X.env))) _ _ s;refine Calls.spliced_cons (aC (ha Yn s σ H _ I h) λu s1 ⟨x,H1,I1,r1,q1⟩=>?_);exact aC (hr pos Yn s1 σ H1 _ I1 q1) λus s2 uu49=>by obtain⟨xs,H2,I2,r2,q2⟩:=uu49;exact⟨x::xs,H2,I2,.cons r1 r2,q2⟩
def xK(t:TA):TE:=λσ H Q=>t σ H λxs H1=>xs.length<=WA/\∀p,H1 p=none->Q (.ref p) (ao H1 p (.tup xs))
def xM(t:TA):TE:=λσ H Q=>t σ H λxs H1=>xs.length<=WA/\∀p,H1 p=none->Q (.ref p) (ao H1 p (.lst xs))
theorem uz{x1}(h:PA X es t):PE X (.Tuple es x1 pos) (xK t):=by
 intro Yn s σ H Q I hq;refine wpAny_Tuple_spliced (aC (h pos Yn s σ H _ I hq) λus s1 ⟨xs,H1,I1,r,z,q⟩=>⟨by rw [<-r.length];exact z,?_⟩);have hf:H1 s1.heap.objs.size=none:=I1.hok.fresh (PL _);refine⟨.ref s1.heap.objs.size,ao H1 s1.heap.objs.size (.tup xs),I1.laid (t':=s1.toks) (λb u e=>Py _ e) (PL _) ?_,rfl,q _ hf⟩;exact⟨z,us,r,⟨_,Qa _ rfl,rfl,_,rfl⟩⟩
theorem xN(h:PA X es t):PE X (.List es pos) (xM t):=by
 intro Yn s σ H Q I hq;refine wpAny_List_spliced (aC (h pos Yn s σ H _ I hq) λus s1 ⟨xs,H1,I1,r,z,q⟩=>⟨by rw [<-r.length];exact z,?_⟩);have hf:H1 s1.heap.objs.size=none:=I1.hok.fresh (PL _);refine⟨.ref s1.heap.objs.size,ao H1 s1.heap.objs.size (.lst xs),I1.laid (t':=s1.toks) (λb u e=>Py _ e) (PL _) ?_,rfl,q _ hf⟩;exact⟨z,us,0,r,Qa _ rfl⟩
end
abbrev Sp:=List V->Hp->VK->XK->Prop
abbrev kR:=List Env->Hp->Wv->XK->Ws->Wv->Prop
structure p6 (P:WH) (w:WJ) (K:Pq) (mg:Str->Option Ws) (base:WG) (A:WL) (outer:List Env) (s:Wv) (H:Hp):Prop where
 frames:A.frames=some outer
 mod:Mod K mg base
 bs:∀b o,base.get? b=some o->s.heap.get? b=some o/\H b=none
 bsz:base.objs.size<=s.heap.objs.size
 funs:s.heap.FunFrames base outer
 frf:∀b∈cF outer,H b=none
 hok:bQ P w H s.heap
 bare:XJ s.gens
def CE(outer:List Env)(P:WH)(w:WJ)(H:Hp)(s:Wv)(Q:VK)(u:Ws)(s':Wv):Prop:=
 ∃v H',s'.os=s.os/\XJ s'.gens/\Un (cF outer) [] H H' s.heap s'.heap/\bQ P w H' s'.heap/\aJ v u/\Q v H'
def CR(CX:kR)(outer:List Env)(P:WH)(w:WJ)(H:Hp)(s:Wv)(Q:VK)(E:XK)(r:Yc)(s':Wv):Prop:=
 match r with
 | .ok (.ret u)=>CE outer P w H s Q u s'
 | .ok _=>False
 | .error e=>CX outer H s E e s'
structure aF (P:WH) (w:WJ) (K:Pq) (mg:Str->Option Ws) (base:WG) (CX:kR) (k:Nat) (f:Wu) (fd:WD) (ps:List Str) (sp:Sp):Prop where
 len:∀vs H Q E,sp vs H Q E->vs.length=ps.length
 run:∀(A:WL)(outer:List Env)(s:Wv)(H:Hp)(args:Args)(us:List Ws)(vs:List V)(Q:VK)(E:XK),bN k A->p6 P w K mg base A outer s H->BindsTo s fd args (ps.zip us)->aM vs us->sp vs H Q E->
  Xo (Wy P w) A (.call (.ref f) args) (CR CX outer P w H s Q E) s
theorem aF.imp{P:WH}{w:WJ}{K:Pq}{mg:Str->Option Ws}{base:WG}{CX:kR}{k:Nat}{f:Wu}{fd:WD}{ps:List Str}{sp sp':Sp}(F:aF P w K mg base CX k f fd ps sp)
 (h:∀vs H Q E,sp' vs H Q E->sp vs H Q E):aF P w K mg base CX k f fd ps sp':=
 ⟨λvs H Q E q=>F.len vs H Q E (h _ _ _ _ q),λA outer s H args us vs Q E hr he hb hv hs=>F.run A outer s H args us vs Q E hr he hb hv (h _ _ _ _ hs)⟩
theorem p6.make{P:WH}{w:WJ}{K:Pq}{mg:Str->Option Ws}{base:WG}{A:WL}{outer:List Env}{s:Wv}{H:Hp}(e:p6 P w K mg base A outer s H)(C:Wu)(us:List Ws)(kw:List (Str×Ws)):
 p6 P w K mg base (A.under (.builtin "type.__call__" ⟨.ref C::us,kw⟩)) outer s H:=⟨by first | exact e.frames | (simpa [Vd,Code.envs,Ve,pushEnvs] using e.frames),e.mod,e.bs,e.bsz,e.funs,e.frf,e.hok,e.bare⟩
section
variable {X:Cx} {Yn:List (Wu×Obj)} {σ:St} {H:Hp} {s s':Wv}
theorem ag.env0(I:ag X Yn σ H s):p6 X.prog X.w X.K X.mg X.base X.A X.stack s H:=
 ⟨I.ok.frames,I.ok.mod,I.bs,Qt I.ok.bsz I.sz,I.stack,I.stkFree,I.hok,I.bare⟩
theorem ag.after{Q:VK}{u:Ws}(I:ag X Yn σ H s)(h:CE X.stack X.prog X.w H s Q u s'):EP X Yn σ Q u s':=by
 obtain⟨v,H',os,bare,un,hok,r,q⟩:=h;obtain⟨hh,g,d,t,os'⟩:=s';obtain rfl:os'=s.os:=os;exact⟨v,H',I.call (h':=hh) (g':=g) (d':=d) (t':=t) (ch:=[]) un hok bare (λb z=>absurd z Wq),r,q⟩
end
def sN(sp:Sp)(dvs:List V)(E:XK)(t:TA):TE:=λσ H Q=>t σ H λvs H1=>sp (vs++dvs) H1 Q E
def mz(K:Pq)(fd:WD)(ps:List Str)(ds:List Ws):Prop:=
 ∀(s:Wv)(us:List Ws),K.In s.heap->(us++ds).length=ps.length->BindsTo s fd ⟨us,[]⟩ (ps.zip (us++ds))
theorem mz.all{K:Pq}{fd:WD}{ps:List Str}(h:∀us:List Ws,us.length=ps.length->bindArgs fd ⟨us,[]⟩=pure (ps.zip us)):mz K fd ps []:=λs us _ hl=>by
 rw [PX] at hl⊢;exact .of_eq (h us hl)
def qR(CX:kR)(X:Cx)(E:XK):Prop:=∀(Yn:List (Wu×Obj))(σ:St)(H:Hp)(s:Wv)(e:Ws)(s':Wv),ag X Yn σ H s->CX X.stack H s E e s'->X.xe e s'
section
variable {X:Cx} {CX:kR} {k:Nat} {f C:Wu} {fd:WD} {ps:List Str} {sp:Sp} {dvs:List V} {ds:List Ws} {E:XK} {x m:Str} {p pos apos:Pos} {e o:WC} {es:List WC} {ta:TE} {t:TA}
theorem HD{Yn:List (Wu×Obj)}{σ:St}{H:Hp}{s:Wv}{Q:VK}{us:List Ws}{vs:List V}(F:aF X.prog X.w X.K X.mg X.base CX k f fd ps sp)(hr:bN k X.A)(hb:mz X.K fd ps ds)(hd:aM dvs ds)(hx:qR CX X E)
 (I:ag X Yn σ H s)(r:aM vs us)(h:sp (vs++dvs) H Q E):Wx (Wy X.prog X.w) X.A (call (.ref f) us) (EP X Yn σ Q) X.xe s:=by
 have r2:aM (vs++dvs) (us++ds):=r.append hd;have hl:(us++ds).length=ps.length:=by rw [<-r2.length];exact F.len _ _ _ _ h
 refine XN (Xe (F.run X.A X.stack s H ⟨us,[]⟩ (us++ds) (vs++dvs) Q E hr I.env0 (hb s us I.kIn hl) r2 h) λr s' hq=>?_);cases r with
 | error e=>exact hx Yn σ H s e s' I hq
 | ok fl=>
  cases fl with
  | ret u=>exact I.after hq
  | next=>exact Ry hq
  | brk=>exact Ry hq
  | cont=>exact Ry hq
theorem HE(F:aF X.prog X.w X.K X.mg X.base CX k f fd ps sp)(hr:bN k X.A)(hg:Gl X x)(hm:X.mg x=some (.ref f))(hk:Sb X.K (.ref f)=true)(hb:mz X.K fd ps ds)(hd:aM dvs ds)(hx:qR CX X E)
 (ha:PA X (e::es) t)(hdb:(x==("__debug__":Str))=false:=by decide)(he:WB (e::es) X.env=(false,eval e X.env)::WB es X.env:=by rfl)(hpl:(WU pos (WB es X.env)).any (·.1)=false:=by rfl):
 PE X (.Call (.Name x p) (e::es) [] pos) (sN sp dvs E t):=by
 intro Yn s σ H Q I h;refine Xf (oW I hg hm ?_ hdb);refine Tg (h₀:=X.base) I.ok.mod.kin hk (aC (ha pos Yn s σ H _ I h) λus s1 ⟨vs,H1,I1,r,q⟩=>⟨I1.kIn,?_⟩) he hpl;exact HD F hr hb hd hx I1 r q
end
section
variable {X:Cx} {CX:kR} {k:Nat} {f C:Wu} {fd:WD} {ps ks:List Str} {sp:Sp} {E:XK} {x m:Str} {p pos apos kpos:Pos} {e o:WC} {es:List WC} {kws:List Xv} {te ta:TE} {t tk:TA} {nm:Option Str}
variable {g:List Ws->List Ws->List Ws} {gV:List V->List V->List V}
end
structure aN (N P:List Str) (sc:WZ):Prop where
 kind:sc.kind= .function
 co:sc.isCoroutine=false
 gen:sc.isGenerator=false
 nd:N.Nodup
 pre:N.take P.length=P
 par:∀x∈P,sc.names.lookup x=some .local\/sc.names.lookup x=some .cell
 nofree:∀y∈sc.names,y.2≠ .free
theorem Cm{kindOf:Str->Option W4}{x:Str}:∀{binds:List (Str×Ws)}{m:Str->Option Ws},(∀v,(x,v)∉ binds)->bindL kindOf binds m x=m x
 | [],_,_=>rfl
 | (n,v)::r,m,h=>by
  unfold bindL;rw [Cm λw hw=>h w (Q2 _ hw)];split
  ·have:x≠n:=by rintro rfl;exact h v RC
   simp [this]
  ·rfl
theorem Cn{kindOf:Str->Option W4}{x:Str}:∀{binds:List (Str×Ws)}{m:Str->Option Ws},(∀v,(x,v)∉ binds)->bindC kindOf binds m x=m x
 | [],_,_=>rfl
 | (n,v)::r,m,h=>by
  unfold bindC;rw [Cn λw hw=>h w (Q2 _ hw)];split
  ·rfl
  ·have:x≠n:=by rintro rfl;exact h v RC
   simp [this]
theorem Co{kindOf:Str->Option W4}{x:Str}{v:Ws}:∀{P:List Str}{vs:List Ws}{i:Nat}{m:Str->Option Ws},P.Nodup->P[i]?=some x->vs[i]?=some v->kindOf x=some .local->
 bindL kindOf (P.zip vs) m x=some v
 | [],_,_,_,_,h,_,_=>by simp at h
 | _::_,[],_,_,_,_,h,_=>by simp at h
 | p::P,w::vs,0,m,nd,h1,h2,hk=>by
  simp at h1 h2;subst h1;subst h2;show bindL kindOf ((p,w)::P.zip vs) m p=_;unfold bindL;rw [Cm λv hv=>(TQ.mp nd).1 (UA hv).1,Wn hk];simp
 | p::P,w::vs,i+1,m,nd,h1,h2,hk=>by
  show bindL kindOf ((p,w)::P.zip vs) m x=_;unfold bindL;exact Co (i:=i) (TQ.mp nd).2 (by simpa using h1) (by simpa using h2) hk
theorem Cp{kindOf:Str->Option W4}{x:Str}{v:Ws}:∀{P:List Str}{vs:List Ws}{i:Nat}{m:Str->Option Ws},P.Nodup->P[i]?=some x->vs[i]?=some v->kindOf x≠some .local->
 bindC kindOf (P.zip vs) m x=some v
 | [],_,_,_,_,h,_,_=>by simp at h
 | _::_,[],_,_,_,_,h,_=>by simp at h
 | p::P,w::vs,0,m,nd,h1,h2,hk=>by
  simp at h1 h2;subst h1;subst h2;show bindC kindOf ((p,w)::P.zip vs) m p=_;unfold bindC;rw [Cn λv hv=>(TQ.mp nd).1 (UA hv).1,Wm hk];simp
 | p::P,w::vs,i+1,m,nd,h1,h2,hk=>by
  show bindC kindOf ((p,w)::P.zip vs) m x=_;unfold bindC;exact Cp (i:=i) (TQ.mp nd).2 (by simpa using h1) (by simpa using h2) hk
def start(N:List Str)(vs:List V):St:=vs.map some++PH (N.length - vs.length) none
def j9(CX:kR)(P:WH)(w:WJ)(K:Pq)(mg:Str->Option Ws)(base:WG)(N:List Str)(qual:Str)(scope:WZ)(f:Wu)(cd:Ws)(A:WL)(outer:List Env)(s:Wv)(H:Hp)(E:XK):Cx where
 prog:=P
 w:=w
 K:=K
 mg:=mg
 base:=base
 A:=A.deeper (XC qual scope s.heap.objs.size f cd)
 N:=N
 s₀:=s
 H₀:=H
 env:=XC qual scope s.heap.objs.size f cd
 outer:=outer
 stack:=XC qual scope s.heap.objs.size f cd::outer
 ex:=[]
 calm:=true
 fn:=λ_=>true
 pn:=[]
 xe:=λe s'=>Wx (Wy P w) (A.deeper (XC qual scope s.heap.objs.size f cd)) (leaving (XC qual scope s.heap.objs.size f cd) e) (λ_ s''=>CX outer H s E e s'') (λe' s''=>CX outer H s E e' s'') s'
theorem Cq{sc:WZ}{n:Nat}{x:Str}(h:sc.names.lookup x=some .cell):∃c,(W3 n sc.names []).lookup x=some c:=by
 have q:=Tz sc.names n [] (.inl h);exact Sg.mp q
theorem HF{CX:kR}{P:WH}{w:WJ}{K:Pq}{mg:Str->Option Ws}{base:WG}{N ps:List Str}{qual:Str}{scope:WZ}{f:Wu}{cd:Ws}{A:WL}{outer:List Env}{s s1:Wv}{H:Hp}{E:XK}{us:List Ws}{vs:List V}
 (S:aN N ps scope)(hd:A.handled=none)(e0:p6 P w K mg base A outer s H)(hl:vs.length=ps.length)(r:aM vs us)
 (x:InCallC s s.heap.objs.size (bindL (XC qual scope s.heap.objs.size f cd).kindOf (ps.zip us) λ_=>none) (W3 (s.heap.objs.size+1) scope.names []) (bindC (XC qual scope s.heap.objs.size f cd).kindOf (ps.zip us) λ_=>none) s1):
 ag (j9 CX P w K mg base N qual scope f cd A outer s H E) [] (start N vs) H s1:=by
 have hpl:ps.length<=N.length:=by have:=congrArg Tb S.pre;rw [Ro] at this;omega
 obtain⟨h1,tk,rfl,hk⟩:=x.done;have noA:∀b:Wu,b ∉ (j9 CX P w K mg base N qual scope f cd A outer s H E).ex:=λb z=>absurd (show b∈([]:List Wu) from z) Wq;refine⟨⟨e0.mod,S.kind,rfl,rfl,PL _,λy z c h1 h2=>?_,λy hy=>?_,λy c _ h=>?_,λ_=>hd,Around.frames_deeper e0.frames,.inr ⟨rfl,rfl⟩,λb z=>absurd z (noA b),e0.bs,e0.bsz,λb _ _=>noA b,λb z=>absurd z (noA b),e0.funs,e0.frf⟩,
  rfl,e0.bare,Un.kept hk,⟨_,x.toInCall.ns,λi y v h1 h2 h3=>?_⟩,λy c h=>⟨_,x.cell y c h⟩,e0.hok.fresh (PL _),λy c h=>?_,λp hp=>absurd (show p∈([]:List (Wu×Obj)) from hp) Wq,e0.hok.kept hk,?_⟩
 ·exact name_of_addr x.apart (R5 h1) (R5 h2)
 ·have hy:scope.names.lookup y=some .cell\/scope.names.lookup y=some .free:=hy;rcases hy with hy | hy
  ·exact Cq hy
  ·exact absurd rfl (S.nofree _ (R5 hy))
 ·exact SX (x.above y c (R5 h))
 ·have hi:i < vs.length:=by
   unfold start at h2;by_cases hi:i < vs.length
   ·exact hi
   ·rw [Sx (by simpa using hi)] at h2;rw [SM] at h2;split at h2 <;> cases h2
  have ha:vs[i]?=some v:=by
   unfold start at h2;rw [Se (by simpa using hi),Ru] at h2;cases e:vs[i]? with
   | none=>rw [e] at h2;cases h2
   | some a=>rw [e] at h2;cases h2;rfl
  obtain⟨u,hu,rv⟩:=r.get ha;have hp:ps[i]?=some y:=by
   rw [<-S.pre,List.getElem?_take_of_lt Ce];exact h1
  have ndP:ps.Nodup:=by rw [<-S.pre];exact S.nd.sublist (Ug _ _)
  refine⟨u,rv,?_⟩;rcases S.par y (Rp hp) with k | k
  ·exact .inl ⟨k,Co ndP hp hu k⟩
  ·obtain⟨c,e⟩:=Cq (n:=s.heap.objs.size+1) k;refine .inr ⟨.inl k,c,e,?_⟩;have q:=x.cell y c e;rw [Cp ndP hp hu (by show scope.names.lookup y≠_;rw [k];decide)] at q;exact q
 ·exact e0.hok.fresh (SX (x.above y c (R5 h)))
 ·unfold start;show _=N.length;rw [Ra,PB,UH];omega
theorem Cr{CX:kR}{P:WH}{w:WJ}{K:Pq}{mg:Str->Option Ws}{base:WG}{k:Nat}{f:Wu}{name qual:Str}{params:Arguments}{body:List WK}{scope:WZ}{dV kV doc pm cdv ct oc:Ws}{an od:Option Wu}
 {osl:Array (Option Ws)}{N ps:List Str}{sp:Sp}(lk:K.lookup f=some ⟨oc,od,.func (RT name qual params body scope dV kV doc pm an cdv ct),osl⟩)(hcd:Tq K cdv qual=true)(S:aN N ps scope)
 (len:∀vs H Q E,sp vs H Q E->vs.length=ps.length)
 (hbody:∀(A:WL) (outer:List Env) (s:Wv) (H:Hp) (vs:List V) (Q:VK) (E:XK),bN k (A.deeper (XC qual scope s.heap.objs.size f cdv))->sp vs H Q E->
   ∃t,bG (j9 CX P w K mg base N qual scope f cdv A outer s H E) body t/\t {nx:=λ_ H'=>Q .non H',rt:=Q} (start N vs) H):
 aF P w K mg base CX (k+1) f (RT name qual params body scope dV kV doc pm an cdv ct) ps sp:=by
 refine⟨len,λA outer s H args us vs Q E hr e0 hb r hsp=>?_⟩;have hl:=len _ _ _ _ hsp;have KX:K.In s.heap:=e0.mod.kin.keeps λb o e=>(e0.bs b o e).1;have lim:s.heap.NoLimit:=e0.mod.nolimit.keeps λb o e=>(e0.bs b o e).1;have hkind:∀y∈ps.zip us,scope.names.lookup y.1=some .local\/(scope.names.lookup y.1=some .cell/\((W3 (s.heap.objs.size+1) scope.names []).lookup y.1).isSome=true):=λuu53 hy=>by
  obtain⟨n,v⟩:=uu53;rcases S.par n (UA hy).1 with q | q
  ·exact .inl q
  ·exact .inr ⟨q,Tz _ _ _ (.inl q)⟩
 refine codeAny_call_function hr.depth (KX _ _ lk) rfl S.co S.gen rfl (PySem.W.codeRec_of KX hcd) (hb _ _ _ _ ?_);refine wpAny_newFunctionEnv_cells S.kind hkind λenv he s1 x=>?_;subst he;refine⟨lim.keeps x.toInCall.keep,codeAny_func ?_⟩;obtain⟨t,ht,hq⟩:=hbody A outer s H vs Q E (hr.deeper _) hsp;have I:ag (j9 CX P w K mg base N qual scope f cdv A outer s H E) [] (start N vs) H s1:=HF S hr.hd e0 hl r x;refine WR (ht [] s1 (start N vs) H _ I hq) (λfl s' hs=>?_) λe s' hs=>hs;have fin:∀{σ':St}{H':Hp}{v:V}{u:Ws},ag (j9 CX P w K mg base N qual scope f cdv A outer s H E) [] σ' H' s'->aJ v u->Q v H'->CE outer P w H s Q u s':=
  λ{σ' H' v u} J rv q=>⟨v,H',J.os,J.bare,J.base,J.hok,rv,q⟩
 cases fl with
 | ret u=>
  obtain⟨v,σ',H',J,rv,q⟩:=hs;exact fin J rv q
 | next=>
  obtain⟨σ',H',J,q⟩:=hs;exact fin (v:=V.non) (u:=RW) J rfl q
 | brk=>
  obtain⟨_,_,_,q⟩:=hs;exact Ry q
 | cont=>
  obtain⟨_,_,_,q⟩:=hs;exact Ry q
section
variable {X:Cx} {x:Str} {p pos:Pos} {e:WC} {es:List WC} {t:TA} {id T:String} {r:List V->Hp->VK->Prop}
def sO(r:List V->Hp->VK->Prop)(t:TA):TE:=λσ H Q=>t σ H λvs H1=>r vs H1 Q
theorem aR(hc:kA X (.builtin id) r)(hg:Gl X x)(hm:X.mg x=none)(hv:WO x=some (.builtin id))(ha:PA X (e::es) t)(hn:x≠"__name__":=by decide)(hdb:(x==("__debug__":Str))=false:=by decide)
 (he:WB (e::es) X.env=(false,eval e X.env)::WB es X.env:=by rfl)(hpl:(WU pos (WB es X.env)).any (·.1)=false:=by rfl):PE X (.Call (.Name x p) (e::es) [] pos) (sO r t):=by
 intro Yn s σ H Q I h;refine Xf (pW I hg hm hv ?_ hn hdb);exact PyProof.Rows.callWith_builtin1 (aC (ha pos Yn s σ H _ I h) λus s1 uu54=>by obtain⟨vs,H1,I1,r1,q1⟩:=uu54;exact hc Yn s1 σ H1 vs us Q I1 r1 q1) he hpl
theorem cf(hc:kA X (.type T) r)(hg:Gl X x)(hm:X.mg x=none)(hv:WO x=some (.type T))(ha:PA X (e::es) t)(hn:x≠"__name__":=by decide)(hdb:(x==("__debug__":Str))=false:=by decide)
 (he:WB (e::es) X.env=(false,eval e X.env)::WB es X.env:=by rfl)(hpl:(WU pos (WB es X.env)).any (·.1)=false:=by rfl):PE X (.Call (.Name x p) (e::es) [] pos) (sO r t):=by
 intro Yn s σ H Q I h;refine Xf (pW I hg hm hv ?_ hn hdb);exact R3 (aC (ha pos Yn s σ H _ I h) λus s1 uu55=>by obtain⟨vs,H1,I1,r1,q1⟩:=uu55;exact hc Yn s1 σ H1 vs us Q I1 r1 q1) he hpl
end
end L2
namespace HT
open PySem PyProof.Rows
def lexLt:List Int->List Int->Bool
 | [],[]=>false
 | [],_::_=>true
 | _::_,[]=>false
 | x::xs,y::ys=>if x=y then lexLt xs ys else decide (x < y)
section
open PySem.SeqAt
open PySem.AutoSeq1 (wpAny_loadPart')
open PySem.MeetsSeq PySem.MeetsSeq2 PySem.MeetsSeq3
end
section
variable {prog:WH} {w:WJ} {A:WL} {E:Ws->Wv->Prop} {s:Wv}
theorem cat_tup{t b:Wu}{vs ws:List Ws}{Q:Ws->Wv->Prop}(ht:IsTup s.heap t vs.toArray)(hb:IsTup s.heap b ws.toArray)(hv:vs≠[])
 (h1:ws=[]->Q (.ref t) s)(h2:ws≠[]->Q (.ref s.heap.objs.size) {s with heap:=s.heap.push {cls:= .type "tuple",data:= .seq (vs++ws).toArray}})
 (hsz:vs.length+ws.length<=WA):Wx (Wy prog w) A (W7 .Add (.ref t) (.ref b)) Q E s:=by
 obtain⟨⟨cls,dd,data,sl⟩,ho,hc,n,hd⟩:=id ht;obtain⟨⟨cls2,dd2,data2,sl2⟩,ho2,hc2,n2,hd2⟩:=id hb;simp only at hc hd hc2 hd2;subst hc hd hc2 hd2;have e:vs.toArray++ws.toArray=(vs++ws).toArray:=Wq
 by_cases hw:ws=[]
 ·exact concat_meets ⟨_,ho,rfl⟩ ⟨_,ho2,rfl⟩ Yk seq_tuple_add TB Tu (Th _ _)
   (tuple_addW1 t b vs.toArray ws.toArray n n2 dd dd2 sl sl2 (by simpa using hv) (by simp [hw])) ⟨ho,ho2,h1 hw⟩
 ·refine concat_meets ⟨_,ho,rfl⟩ ⟨_,ho2,rfl⟩ Yk seq_tuple_add TB Tu (Th _ _)
   (tuple_addW2 t b vs.toArray ws.toArray n n2 dd dd2 sl sl2 (by simpa using hv) (by simpa using hw) (by rw [Qk,Qk];exact hsz)) ⟨ho,ho2,?_⟩
  rw [e];exact h2 hw
def sIx(n d:Nat):Option Int->Nat
 | none=>d
 | some v=>if v < 0 then(v+(n:Int)).toNat else min v.toNat n
theorem p7(n d:Nat):sIx n d none=d:=rfl
theorem sIx_nat(n d k:Nat):sIx n d (some (k:Int))=min k n:=by
 show(if (k:Int) < 0 then((k:Int)+(n:Int)).toNat else min (k:Int).toNat n)=min k n;rw [Wm Ce,Q7]
theorem sIx_le(n d:Nat)(hd:d<=n)(o:Option Int):sIx n d o<=n:=by
 cases o with
 | none=>exact hd
 | some v=>
  show(if v < 0 then(v+(n:Int)).toNat else min v.toNat n)<=n;by_cases hv:v < 0
  ·rw [Wn hv];omega
  ·rw [Wm hv];exact Vz _ _
theorem Cs(v:Int)(n d:Nat):(if v < 0 then max (v+(n:Int)) 0 else min v (n:Int))=((sIx n d (some v):Nat):Int):=by
 show(if v < 0 then max (v+(n:Int)) 0 else min v (n:Int))=(((if v < 0 then(v+(n:Int)).toNat else min v.toNat n):Nat):Int);by_cases hv:v < 0
 ·simp only [Wn hv];omega
 ·simp only [Wm hv];omega
theorem HG(lo hi:Option Int)(n:Nat):Tc lo hi 1 (n:Int)=(((sIx n 0 lo:Nat):Int),((sIx n n hi:Nat):Int)):=by
 have h1:¬((1:Int) < 0):=Ce
 unfold Tc;simp only [h1,if_false];refine Prod.ext ?_ ?_
 ·cases lo with
  | none=>rfl
  | some v=>exact Cs v n 0
 ·cases hi with
  | none=>rfl
  | some v=>exact Cs v n n
theorem HH(i j:Nat):Sy (i:Int) (j:Int) 1=j - i:=by
 unfold Sy;have h1:(1:Int) > 0:=Ce
 simp only [h1,if_true,V4];split <;> omega
theorem Ct{v:Ws}{o:Option Int}{Q:Option Int->Wv->Prop}(p:IsPart v o)(h:Q o s):Wx (Wy prog w) A (Builtin.Slice.slicePartIndex v) Q E s:=by
 cases p with
 | none=>exact slicePart_none h
 | int i t=>exact slicePart_int h
theorem sliceApplied_gen{sl:Wu}{vl vu:Ws}{lo hi:Option Int}{n:Nat}{Q:Int×Int×Nat->Wv->Prop}(hs:s.heap.IsSliceOf sl vl vu .none)(pl:IsPart vl lo)(pu:IsPart vu hi)
 (h:Q (((sIx n 0 lo:Nat):Int),1,sIx n n hi - sIx n 0 lo) s):Wx (Wy prog w) A (T8 (.ref sl) (pure (n:Int))) Q E s:=by
 obtain⟨os,hos,hcs,hds⟩:=id hs;unfold T8 Builtin.Slice.sliceFields;refine Wt (Wt (WY hos hds (x:=vl) rfl (Wt (WY hos hds (x:=vu) rfl (Wt (WY hos hds (x:= .none) rfl (Ww ?_)))))));refine Wt (slicePart_none ?_);show Wx _ _ (if ((1:Int)==0)=true then _ else _) _ _ s;rw [Wm tx];refine Wt (Ct pl (Wt (Ct pu (Wt (Ww ?_)))));show Wx _ _ (match Tc lo hi 1 (n:Int) with | (lo,hi)=>pure (lo,(1:Int),Sy lo hi 1)) _ _ s;rw [HG lo hi n];show Wx _ _ (pure (((sIx n 0 lo:Nat):Int),(1:Int),Sy ((sIx n 0 lo:Nat):Int) ((sIx n n hi:Nat):Int) 1)) _ _ s;rw [HH];exact Ww h
theorem HI(xs:Array Ws)(i k:Nat):((Rx k).filterMap λ(m:Nat)=>xs[((i:Int)+(m:Int)*1).toNat]?).toArray=((xs.toList.drop i).take k).toArray:=by
 have e:(λ(m:Nat)=>xs[((i:Int)+(m:Int)*1).toNat]?)=λm=>xs[i+m]?:=by
  funext m;have:((i:Int)+(m:Int)*1).toNat=i+m:=Ce
  rw [this]
 rw [e];have:=pick_run xs i k;rw [Vf] at this;have e2:((λx=>xs[x]?)∘ λx=>i+x)=λm=>xs[i+m]?:=rfl;rw [e2] at this;rw [this]
theorem getItem_tuple_cut{t sl:Wu}{items:Array Ws}{vl vu:Ws}{lo hi:Option Int}{Q:Ws->Wv->Prop}(ht:IsTup s.heap t items)(hs:s.heap.IsSliceOf sl vl vu .none)(pl:IsPart vl lo)(pu:IsPart vu hi)
 (hw:¬(sIx items.size 0 lo=0/\sIx items.size items.size hi=items.size))
 (h:Q (.ref s.heap.objs.size) {s with heap:=s.heap.push {cls:= .type "tuple",data:= .seq ((items.toList.drop (sIx items.size 0 lo)).take (sIx items.size items.size hi - sIx items.size 0 lo)).toArray}})
 (hsz:items.size<=WA):Wx (Wy prog w) A (X0 (.ref t) (.ref sl)) Q E s:=by
 have htake:sizeOk (.seq ((items.toList.drop (sIx items.size 0 lo)).take (sIx items.size items.size hi - sIx items.size 0 lo)).toArray):=by
  show((items.toList.drop (sIx items.size 0 lo)).take (sIx items.size items.size hi - sIx items.size 0 lo)).toArray.size<=WA;rw [Qk,Ro,RU,PY];omega
 have hj:sIx items.size items.size hi<=items.size:=sIx_le _ _ (PL _) hi;obtain⟨os,hos,hcs,hds⟩:=id hs;have hTs:s.TypeIs (.ref sl) "slice":=⟨os,hos,hcs⟩;unfold X0
 try with_reducible refine WX ?_
 first | refine Wt (Ww ?_) | skip
 refine Wt (wpAny_sequenceKey ht.typeIs tx ?_);refine Wt (WS (name:=Pp "__getitem__") ht.typeIs Sf
  (WV Sf ht.typeIs entry_tuple_getitem ?_ (args_tuple_getitem _ _)))
 show Wx _ _ (T9 (.ref t) >>=_) _ _ s;refine Wt (tupleItemsOf_ ht ?_);refine Wt (X4 hTs ?_);rw [Wn tx];refine Wt (sliceApplied_gen hs pl pu ?_);have hno:¬((((sIx items.size 0 lo:Nat):Int)==0 && (1:Int)==1 && (sIx items.size items.size hi - sIx items.size 0 lo)==items.size)=true):=by
  intro q;rw [P6,P6] at q;have q1:((sIx items.size 0 lo:Nat):Int)=0:=eq_of_beq q.1.1;have q2:sIx items.size items.size hi - sIx items.size 0 lo=items.size:=eq_of_beq q.2;exact hw ⟨Ce,Ce⟩
 show Wx _ _ (if (((sIx items.size 0 lo:Nat):Int)==0 && (1:Int)==1 && (sIx items.size items.size hi - sIx items.size 0 lo)==items.size)=true then _ else _) _ _ s;rw [Wm hno,HI]
 first
  | exact Wt (m:=SG _) (WQ (Ww ⟨_,rfl,Ww h⟩) htake)
  | exact Wt (m:=SG _) (WQ (Wt (Ww (Ww ⟨_,rfl,Ww h⟩))) htake)
  | exact Wt (Wt (m:=SG _) (WQ (Ww (Ww ⟨_,rfl,Ww h⟩)) htake))
  | exact Wt (Wt (m:=SG _) (WQ (Ww ⟨_,rfl,Ww h⟩) htake))
end
end HT
namespace L2
open PySem PySem.Spec PyProof.Rows
abbrev TO:=St->Hp->(Option Int->Hp->Prop)->Prop
def PO(X:Cx)(e:Option WC)(t:TO):Prop:=
 ∀(Yn:List (Wu×Obj))(s:Wv)(σ:St)(H:Hp)(Q:Option Int->Hp->Prop),ag X Yn σ H s->t σ H Q->
  Wx (Wy X.prog X.w) X.A (evalPart e X.env) (λu s'=>∃o H',ag X Yn σ H' s'/\IsPart u o/\Q o H') X.xe s
def HJ:TO:=λ_ H Q=>Q none H
def HK(t:TE):TO:=λσ H Q=>t σ H λx H1=>∃i,x= .int i/\Q (some i) H1
theorem HL{ns:List Int}:∀{us:List Ws},aM (ns.map V.int) us->IntsAre us ns:=by
 induction ns with
 | nil=>intro us r;rw [Qc] at r;cases r;exact .nil
 | cons n ns ih=>
  intro us r;rw [Pw] at r;cases r with
  | cons r1 r2=>
   obtain⟨t,e⟩:=r1;subst e;exact .cons n t (ih r2)
section
variable {X:Cx} {e:WC} {te:TE} {lo hi:Option WC} {tl th:TO} {pos p2:Pos}
theorem HM:PO X none HJ:=by
 intro Yn s σ H Q I h;rw [evalPart_none];exact Ww ⟨none,H,I,.none,h⟩
theorem HN(h:PE X e te):PO X (some e) (HK te):=by
 intro Yn s σ H Q I hw;rw [evalPart_some];refine aC (h Yn s σ H _ I hw) λu s1 ⟨x,H1,I1,r1,q1⟩=>?_;obtain⟨i,rfl,q⟩:=q1;obtain⟨t,rfl⟩:=r1;exact⟨some i,H1,I1,.int i t,q⟩
def sP(X:Cx)(r:V->Option Int->Option Int->Hp->VK->Prop):Prop:=
 ∀(Yn:List (Wu×Obj))(s:Wv)(σ:St)(H:Hp)(x:V)(v vl vu:Ws)(lo hi:Option Int)(sl:Wu)(Q:VK),ag X Yn σ H s->aJ x v->s.heap.IsSliceOf sl vl vu .none->IsPart vl lo->IsPart vu hi->r x lo hi H Q->
  ∃T id,typeLookup (.type T) "__getitem__"=pure (some (.builtin id))/\s.TypeIs v T/\Wx (Wy X.prog X.w) X.A (X0 v (.ref sl)) (EP X Yn σ Q) X.xe s
def HP(r:V->Option Int->Option Int->Hp->VK->Prop)(te:TE)(tl th:TO):TE:=λσ H Q=>te σ H λx H1=>tl σ H1 λl H2=>th σ H2 λu H3=>r x l u H3 Q
theorem xO{r:V->Option Int->Option Int->Hp->VK->Prop}(hr:sP X r)(he:PE X e te)(hl:PO X lo tl)(hu:PO X hi th):PE X (.Subscript e (.Slice lo hi none p2) pos) (HP r te tl th):=by
 intro Yn s σ H Q I h;refine Subscript_ (aC (he Yn s σ H _ I h) λv s1 ⟨x,H1,I1,r1,q1⟩=>?_);refine wpAny_Slice (aC (hl Yn s1 σ H1 _ I1 q1) λvl s2 ⟨l,H2,I2,pl,q2⟩=>aC (hu Yn s2 σ H2 _ I2 q2) λvu s3 ⟨u,H3,I3,pu,q3⟩=>?_);rw [evalPart_none];refine Ww ?_;have I4:ag X Yn σ H3 {s3 with heap:=s3.heap.push {cls:= .type "slice",data:= .fields #[vl,vu,.none]}}:=I3.kept (t':=s3.toks) λb ob q=>Py _ q;obtain⟨T,id,hT,ht,hg⟩:=hr Yn {s3 with heap:=s3.heap.push {cls:= .type "slice",data:= .fields #[vl,vu,.none]}} σ H3 x v vl vu l u s3.heap.objs.size Q I4 r1 (Wl ..) pl pu q3;show Wx (Wy X.prog X.w) X.A (subscriptTail e (.Slice lo hi none p2) v (.ref s3.heap.objs.size)) (EP X Yn σ Q) X.xe {s3 with heap:=s3.heap.push {cls:= .type "slice",data:= .fields #[vl,vu,.none]}};exact tail_any (ops:=[.ref s3.heap.objs.size,v]) ht hT hg (by with_unfolding_all rfl)
def om(xs:List V)(lo hi:Option Int):List V:=(xs.drop (HT.sIx xs.length 0 lo)).take (HT.sIx xs.length xs.length hi - HT.sIx xs.length 0 lo)
theorem Cu(xs:List V)(lo hi:Option Int):(om xs lo hi).length<=xs.length:=by
 unfold om;rw [Ro,RU];omega
def HQ(K:Pq):V->Option Int->Option Int->Hp->VK->Prop:=λx lo hi H Q=>∃a xs,x= .ref a/\aY K H a xs/\
 ¬(HT.sIx xs.length 0 lo=0/\HT.sIx xs.length xs.length hi=xs.length)/\∀p,H p=none->Q (.ref p) (ao H p (.tup (om xs lo hi)))
theorem HR:sP X (HQ X.K):=by
 intro Yn s σ H x v vl vu lo hi sl Q I rx hs pl pu h;obtain⟨a,xs,rfl,hx,hw,q⟩:=h;cases rx;obtain⟨its,r,ht,hz⟩:=I.tuple hx;have hlen:its.toArray.size=xs.length:=by rw [Qk];exact r.length.symm
 refine⟨"tuple",_,Sf.lookup,ht.typeIs,?_⟩;refine HT.getItem_tuple_cut ht hs pl pu (by rw [hlen];exact hw) ?_ (by rw [hlen];exact hz);rw [hlen];refine⟨.ref s.heap.objs.size,_,I.laid (t':=s.toks) (o:= .tup (om xs lo hi)) (λb ob q=>Py _ q) (PL _) ?_,rfl,q _ (I.hok.fresh (PL _))⟩;exact⟨Qt (Cu xs lo hi) hz,_,(r.drop (HT.sIx xs.length 0 lo)).take (HT.sIx xs.length xs.length hi - HT.sIx xs.length 0 lo),Vc _ _⟩
def xP(K:Pq):R2:=λx y H Q=>∃a b xs ys,x= .ref a/\y= .ref b/\aY K H a xs/\aY K H b ys/\xs≠[]/\xs.length+ys.length<=WA/\
 (ys=[]->Q (.ref a) H)/\(ys≠[]->∀p,H p=none->Q (.ref p) (ao H p (.tup (xs++ys))))
theorem aM.nil_iff{xs:List V}{us:List Ws}(r:aM xs us):us=[]↔xs=[]:=by
 cases r with
 | nil=>simp
 | cons _ _=>simp
theorem HS:bC X (W7 .Add) (xP X.K):=by
 intro Yn s σ H x y v u Q I rx ry h;obtain⟨a,b,xs,ys,rfl,rfl,ha,hb,hx,hz,q1,q2⟩:=h;cases rx;cases ry;obtain⟨its,r1,p1,_⟩:=I.tuple ha;obtain⟨its2,r2,p2,_⟩:=I.tuple hb;refine HT.cat_tup p1 p2 (λz=>hx (r1.nil_iff.mp z)) (λz=>⟨.ref a,H,I,rfl,q1 (r2.nil_iff.mp z)⟩) (λz=>?_) (by rw [<-r1.length,<-r2.length];exact hz);refine⟨.ref s.heap.objs.size,_,I.laid (t':=s.toks) (o:= .tup (xs++ys)) (λb ob q=>Py _ q) (PL _) ?_,rfl,q2 (λw=>z (r2.nil_iff.mpr w)) _ (I.hok.fresh (PL _))⟩;exact⟨by rw [Ra];exact hz,_,r1.append r2,Vc _ _⟩
end
def oo(n:Nat)(i:Int):Option Nat:=if 0<=i then(if i < n then some i.toNat else none) else if -(n:Int)<=i then some (i+n).toNat else none
def atI{α:Type}(xs:List α)(i:Int):Option α:=(oo xs.length i).bind λj=>xs[j]?
theorem Cv{n:Nat}{i:Int}{j:Nat}(h:oo n i=some j):seqIndex? i n=some j/\j < n/\-(n:Int)<=i/\i < n:=by
 unfold oo at h;by_cases h0:0<=i
 ·rw [Wn h0] at h;by_cases h1:i < n
  ·rw [Wn h1] at h;have e:i.toNat=j:=Ri h;exact⟨by rw [seqIndex_of h0 h1,e],Ce,Ce,h1⟩
  ·rw [Wm h1] at h;cases h
 ·rw [Wm h0] at h;by_cases h1:-(n:Int)<=i
  ·rw [Wn h1] at h;have e:(i+n).toNat=j:=Ri h;exact⟨by rw [seqIndex_neg Ce h1,e],Ce,h1,Ce⟩
  ·rw [Wm h1] at h;cases h
theorem xQ{α:Type}{xs:List α}{i:Int}{v:α}(h:atI xs i=some v):∃j,seqIndex? i xs.length=some j/\xs[j]?=some v/\j < xs.length/\-(xs.length:Int)<=i/\i < xs.length:=by
 unfold atI at h;cases e:oo xs.length i with
 | none=>rw [e] at h;cases h
 | some j=>
  rw [e] at h;obtain⟨h1,h2,h3,h4⟩:=Cv e;exact⟨j,h1,h,h2,h3,h4⟩
theorem nK{α:Type}{xs:List α}{j:Nat}{v:α}(h:xs[j]?=some v):atI xs (j:Int)=some v:=by
 have hj:j < xs.length:=(Ql.mp h).1;have e:oo xs.length (j:Int)=some j:=by
  unfold oo;rw [Wn Ce,Wn Ce];simp
 unfold atI;rw [e];exact h
def HU(b:WC):Prop:=∀o i,subscripted b false o i=operate [o,i] (X0 o i)
def qS(X:Cx)(r:R2):Prop:=
 ∀(value slice:WC)(Yn:List (Wu×Obj))(s:Wv)(σ:St)(H:Hp)(x y:V)(v u:Ws)(Q:VK),ag X Yn σ H s->aJ x v->aJ y u->r x y H Q->
  subscripted slice false v u=operate [v,u] (X0 v u)->Wx (Wy X.prog X.w) X.A (subscriptTail value slice v u) (EP X Yn σ Q) X.xe s
def sQ(X:Cx)(id:String)(r:V->List V->Hp->VK->Prop):Prop:=
 ∀(Yn:List (Wu×Obj))(s:Wv)(σ:St)(H:Hp)(x:V)(xs:List V)(v:Ws)(us:List Ws)(Q:VK),ag X Yn σ H s->aJ x v->aM xs us->r x xs H Q->
  Wx (Wy X.prog X.w) X.A (call (.builtin id) (v::us)) (EP X Yn σ Q) X.xe s
section
variable {X:Cx} {a b:WC} {ta tb:TE} {pos:Pos}
theorem p9{r:R2}(hr:qS X r)(ha:PE X a ta)(hb:PE X b tb)(hs:HU b):PE X (.Subscript a b pos) (pY r ta tb):=by
 intro Yn s σ H Q I h;exact Subscript_ (wU ha hb I h λv u s2 x y H2 I2 rx ry q=>hr a b Yn s2 σ H2 x y v u Q I2 rx ry q (hs _ _))
def xR(K:Pq):R2:=λx y H Q=>∃p xs i v,x= .ref p/\y= .int i/\bf K H p xs/\atI xs i=some v/\Q v H
def uA(K:Pq):R2:=λx y H Q=>∃p xs i v,x= .ref p/\y= .int i/\aY K H p xs/\atI xs i=some v/\Q v H
def Cw:R2:=λx y H Q=>∃z i c,x= .str z/\y= .int i/\z.length<=WA/\atI z.cps.toList i=some c/\Q (.str ⟨#[c]⟩) H
theorem aO:qS X (xR X.K):=by
 intro value slice Yn s σ H x y v u Q I rx ry h hs;obtain⟨p,xs,i,z,rfl,rfl,hq,he,q⟩:=h;cases rx;obtain⟨t,rfl⟩:=ry;obtain⟨its,r,pl,hz⟩:=I.list hq;obtain⟨j,h1,h2,h3,h4,h5⟩:=xQ he;obtain⟨w,ew,rw'⟩:=r.get h2;have hl:=r.length;have hn:=pe;have fin:EP X Yn σ Q w s:=⟨z,H,I,rw',q⟩;by_cases h0:0<=i
 ·have hj:i.toNat=j:=by
   rw [seqIndex_of h0 h5] at h1;exact Ri h1
  exact item_listR pl.isList h0 Ce (by rw [hj];simpa using ew) fin hs
 ·have hj:(i+(its.toArray.size:Int)).toNat=j:=by
   rw [seqIndex_neg Ce h4] at h1;rw [Qk,<-hl];exact Ri h1
  exact subscriptTail_builtinR (x:=w) pl.isList.typeIs slot_list_getitem.lookup
   (wpAny_getItem_list_neg (Q:=λr s'=>r=w/\EP X Yn σ Q r s') pl.isList Ce (by rw [Qk] <;> omega) Ce (by rw [hj];simpa using ew) ⟨rfl,fin⟩) hs
theorem aI:qS X (uA X.K):=by
 intro value slice Yn s σ H x y v u Q I rx ry h hs;obtain⟨p,xs,i,z,rfl,rfl,hq,he,q⟩:=h;cases rx;obtain⟨t,rfl⟩:=ry;obtain⟨its,r,pl,hz⟩:=I.tuple hq;obtain⟨j,h1,h2,h3,h4,h5⟩:=xQ he;obtain⟨w,ew,rw'⟩:=r.get h2;have hl:=r.length;have hn:=pe;have fin:EP X Yn σ Q w s:=⟨z,H,I,rw',q⟩;exact subscriptTail_builtinR (x:=w) pl.typeIs slot_tuple_getitem.lookup
  (getItem_tuple (j:=j) (Q:=λr s'=>r=w/\EP X Yn σ Q r s') pl Ce Ce (by rw [Qk,<-hl];exact h1) (by simpa using ew) ⟨rfl,fin⟩) hs
theorem xS:qS X Cw:=by
 intro value slice Yn s σ H x y v u Q I rx ry h hs;obtain⟨z,i,c,rfl,rfl,hz,he,q⟩:=h;obtain⟨t,rfl⟩:=rx;obtain⟨t',rfl⟩:=ry;obtain⟨j,h1,h2,h3,h4,h5⟩:=xQ he;have hl:z.cps.toList.length=z.length:=by simp [Str.length]
 rw [hl] at h1 h4 h5;have hn:=pe;exact tail_any (Xm s z t) slot_str_getitem.lookup (getItem_str (c:=c) (by
  have e1:decide (i < -(2 ^ 63:Int))=false:=decide_eq_false Ce;have e2:decide (i >= 2 ^ 63)=false:=decide_eq_false Ce;rw [e1,e2,QB]) (by rw [h1];simpa using h2) ⟨.str ⟨#[c]⟩,H,I.tok _,⟨_,rfl⟩,q⟩) hs
theorem HV(its:List Ws)(n j:Nat)(u:Ws):Tr (·.setIfInBounds j u) {cls:= .type "list",data:= .seq its.toArray n}={cls:= .type "list",data:= .seq (its.set j u).toArray n}:=by
 simp [Tr]
theorem ag.lst{Yn:List (Wu×Obj)}{σ:St}{H:Hp}{s:Wv}{p:Wu}{xs:List V}(I:ag X Yn σ H s)(h:H p=some (.lst xs)):
 ∃(its:List Ws)(n:Nat),aM xs its/\s.heap.get? p=some {cls:= .type "list",data:= .seq its.toArray n}/\xs.length<=WA:=by
 obtain⟨z,its,n,r,e⟩:=I.hok p _ h;exact⟨its,n,r,e,z⟩
theorem ag.lstUpd{Yn:List (Wu×Obj)}{σ:St}{H:Hp}{s:Wv}{p:Wu}{xs ys:List V}{its its':List Ws}{n n':Nat}{f:Obj->Obj}(I:ag X Yn σ H s)(h:H p=some (.lst xs))
 (ho:s.heap.get? p=some {cls:= .type "list",data:= .seq its.toArray n})(hf:f {cls:= .type "list",data:= .seq its.toArray n}={cls:= .type "list",data:= .seq its'.toArray n'})(r:aM ys its')(hz:ys.length<=WA)(t:Nat):
 ag X Yn σ (ao H p (.lst ys)) {s with heap:=s.heap.update p f,toks:=t}:=by
 have e:(s.heap.update p f).get? p=some {cls:= .type "list",data:= .seq its'.toArray n'}:=by
  rw [Rk f ho (by rw [hf] <;> rfl),hf]
 refine I.write (x:=p) (e:=p) (by rw [h];trivial) (.inl rfl) (λb u hb q=>(RG _ _ (Ne.symm hb)).trans q) ⟨_,e⟩ ?_;exact⟨hz,its',n',r,e⟩
def HW:V->V->V->Hp->(Hp->Prop)->Prop:=λo i v H Q=>∃p xs k j,o= .ref p/\i= .int k/\H p=some (.lst xs)/\oo xs.length k=some j/\Q (ao H p (.lst (xs.set j v)))
theorem HX:B1 X HW:=by
 intro Yn s σ H o i v ov iv u Q I ro ri rv h;obtain⟨p,xs,k,j,rfl,rfl,hp,hj,q⟩:=h;cases ro;obtain⟨t,rfl⟩:=ri;obtain⟨its,n,r,ho,hz⟩:=I.lst hp;obtain⟨h1,h2,h3,h4⟩:=Cv hj;have hl:=r.length;have hn:=pe;have I':ag X Yn σ (ao H p (.lst (xs.set j v))) {s with heap:=s.heap.update p (Tr (·.setIfInBounds j u))}:=
  I.lstUpd hp ho (HV its n j u) (r.set rv j) (by rw [List.length_set];exact hz) s.toks
 by_cases h0:0<=k
 ·have hk:k.toNat=j:=by
   rw [seqIndex_of h0 h4] at h1;exact Ri h1
  exact PySem.W.ki_setAt ho h0 Ce (by rw [Qk,<-hl];exact h4) (by rw [hk];exact⟨_,I',q⟩)
 ·have hk:(k+(its.toArray.size:Int)).toNat=j:=by
   rw [seqIndex_neg Ce h3] at h1;rw [Qk,<-hl];exact Ri h1
  exact PySem.W.ki_setBack ho Ce (by rw [Qk,<-hl];exact h3) Ce (by rw [hk];exact⟨_,I',q⟩)
theorem HY(lo hi:Option Int)(n:Nat):(XE lo hi none n).1=((HT.sIx n 0 lo:Nat):Int)/\(XE lo hi none n).2.1=((HT.sIx n n hi:Nat):Int)/\(XE lo hi none n).2.2=1:=by
 refine⟨?_,?_,rfl⟩
 ·cases lo with
  | none=>simp [XE,HT.sIx]
  | some i=>
   simp only [XE,HT.sIx,VA,show(1:Int) > 0 by decide,if_true];by_cases h:i < 0
   ·simp only [h,if_true] <;> omega
   ·simp only [h,if_false] <;> omega
 ·cases hi with
  | none=>simp [XE,HT.sIx]
  | some i=>
   simp only [XE,HT.sIx,VA,show(1:Int) > 0 by decide,if_true];by_cases h:i < 0
   ·simp only [h,if_true] <;> omega
   ·simp only [h,if_false] <;> omega
theorem HZ(its:List Ws)(lo hi:Option Int):slicePick its.toArray lo hi none=((its.drop (HT.sIx its.length 0 lo)).take (HT.sIx its.length its.length hi - HT.sIx its.length 0 lo)).toArray:=by
 obtain⟨h1,h2,h3⟩:=HY lo hi its.toArray.size;unfold slicePick;rw [h1,h2,h3];simp only [sliceRange_one,pick_run,Qk] <;> rfl
def Ia(K:Pq):V->Option Int->Option Int->Hp->VK->Prop:=λx lo hi H Q=>∃a xs,x= .ref a/\bf K H a xs/\∀p,H p=none->Q (.ref p) (ao H p (.lst (om xs lo hi)))
theorem Ib:sP X (Ia X.K):=by
 intro Yn s σ H x v vl vu lo hi sl Q I rx hs pl pu h;obtain⟨a,xs,rfl,hx,q⟩:=h;cases rx;obtain⟨its,r,ht,hz⟩:=I.list hx;have hlen:=r.length;refine⟨"list",_,slot_list_getitem.lookup,ht.isList.typeIs,?_⟩;refine wpAny_getItem_list_slice ht.isList hs pl pu .none Wq ?_ (by rw [Qk] <;> omega);rw [HZ,<-hlen];refine⟨.ref s.heap.objs.size,_,I.laid (t':=s.toks) (o:= .lst (om xs lo hi)) (λb ob q=>Py _ q) (PL _) ?_,rfl,q _ (I.hok.fresh (PL _))⟩;exact⟨Qt (Cu xs lo hi) hz,_,0,(r.drop (HT.sIx xs.length 0 lo)).take (HT.sIx xs.length xs.length hi - HT.sIx xs.length 0 lo),Qa _ rfl⟩
theorem ke:kA X (.builtin "len") (λxs H Q=>∃p ys,xs=[.ref p]/\(bf X.K H p ys\/aY X.K H p ys)/\Q (.int ys.length) H):=by
 intro Yn s σ H xs us Q I r h;obtain⟨p,ys,rfl,hq,q⟩:=h;obtain⟨u,rfl,rx⟩:=lh r;cases rx;have hn:=pe;rcases hq with hq | hq
 ·obtain⟨its,r',pl,hz⟩:=I.list hq;have hlen:=r'.length;exact U6 pl.isList (by simp only [Qk] <;> omega) ⟨.int ys.length,H,I.tok _,⟨s.toks+1,by rw [Qk,hlen]⟩,q⟩
 ·obtain⟨its,r',pl,hz⟩:=I.tuple hq;have hlen:=r'.length;exact len_tuple pl (by simp only [Qk] <;> omega) ⟨.int ys.length,H,I.tok _,⟨s.toks+1,by rw [Qk,hlen]⟩,q⟩
theorem oq:kA X (.builtin "len") (λxs H Q=>∃z,xs=[.str z]/\z.length<=WA/\Q (.int z.length) H):=by
 intro Yn s σ H xs us Q I r h;obtain⟨z,rfl,hz,q⟩:=h;obtain⟨u,rfl,t,rfl⟩:=lh r;have hn:=pe;exact len_str Ce ⟨.int z.length,H,I.tok _,⟨_,rfl⟩,q⟩
theorem Ic:kA X (.type "list") (λxs H Q=>∃p ys,xs=[.ref p]/\(bf X.K H p ys\/aY X.K H p ys)/\∀l,H l=none->Q (.ref l) (ao H l (.lst ys))):=by
 intro Yn s σ H xs us Q I r h;obtain⟨p,ys,rfl,hq,q⟩:=h;obtain⟨u,rfl,rx⟩:=lh r;cases rx;have fin:∀(its:List Ws),aM ys its->ys.length<=WA->∀(h':WG)(c':Nat),(∀b o',s.heap.get? b=some o'->h'.get? b=some o')->
  h'.get? s.heap.objs.size=some {cls:= .type "list",dict:=none,data:= .seq its.toArray c',slots:=#[]}->EP X Yn σ Q (.ref s.heap.objs.size) {s with heap:=h'}:=λits r' hz h' c' kp e=>
  ⟨.ref s.heap.objs.size,_,I.laid (t':=s.toks) kp (PL _) (show bI X.prog X.w _ h' _ (.lst ys) from⟨hz,its,c',r',e⟩),rfl,q _ (I.hok.fresh (PL _))⟩
 rcases hq with hq | hq
 ·obtain⟨its,r',pl,hz⟩:=I.list hq;have hlen:=r'.length;obtain⟨o,ho,hc,n,hd⟩:=pl.isList;exact call_list_seq p (.inl rfl) ho hc hd (λh' c' kp e=>fin its r' hz h' c' kp e) (by simp only [Qk] <;> omega)
 ·obtain⟨its,r',pl,hz⟩:=I.tuple hq;have hlen:=r'.length;obtain⟨o,ho,hc,n,hd⟩:=pl;exact call_list_seq p (.inr rfl) ho hc hd (λh' c' kp e=>fin its r' hz h' c' kp e) (by simp only [Qk] <;> omega)
theorem lZ:kA X (.type "tuple") (λxs H Q=>∃p ys,xs=[.ref p]/\((bf X.K H p ys/\∀l,H l=none->Q (.ref l) (ao H l (.tup ys)))\/(aY X.K H p ys/\Q (.ref p) H))):=by
 intro Yn s σ H xs us Q I r h;obtain⟨p,ys,rfl,h⟩:=h;obtain⟨u,rfl,rx⟩:=lh r;cases rx;rcases h with⟨hq,q⟩ | ⟨hq,q⟩
 ·obtain⟨its,r',pl,hz⟩:=I.list hq;have hlen:=r'.length;refine call_tuple_list pl.isList (λh' kp=>?_) (by simp only [Qk] <;> omega);have I1:ag X Yn σ H {s with heap:=h'}:=I.kept (t':=s.toks) kp;have I2:ag X Yn σ (ao H h'.objs.size (.tup ys)) {s with heap:=h'.push {cls:= .type "tuple",data:= .seq its.toArray}}:=
   I1.laid (t':=s.toks) (λb o e=>Py _ e) (PL _) (show bI X.prog X.w _ _ _ (.tup ys) from⟨hz,its,r',Vc _ _⟩)
  exact⟨.ref h'.objs.size,_,I2,rfl,q _ (I1.hok.fresh (PL _))⟩
 ·obtain⟨its,r',pl,hz⟩:=I.tuple hq;exact call_tuple_same pl ⟨.ref p,H,I,rfl,q⟩
def Cy(K:Pq)(T:String)(x:V)(H:Hp):Prop:=match x with
 | .str _=>T="str"
 | .int _=>T="int"
 | .ref p=>(T="list"/\∃xs,bf K H p xs)\/(T="tuple"/\∃o,K.lookup p=some o/\o.cls= .type "tuple"/\o.dict=none)\/
  (T="dict"/\((∃kvs,H p=some (.dK kvs))\/∃kvs,H p=some (.dT kvs)))\/(T="set"/\∃S n,H p=some (.set S n))
 | _=>False
theorem Ie{Yn:List (Wu×Obj)}{σ:St}{H:Hp}{s:Wv}{T:String}{x:V}{v:Ws}(I:ag X Yn σ H s)(r:aJ x v)(ty:Cy X.K T x H):
 s.TypeIs v T/\∀a,v= .ref a->∃ob,s.heap.get? a=some ob/\ob.dict=none:=by
 cases x with
 | str z=>
  obtain⟨t,rfl⟩:=r;cases (show T="str" from ty);exact⟨Xm s z t,λ_ e=>nomatch e⟩
 | int i=>
  obtain⟨t,rfl⟩:=r;cases (show T="int" from ty);exact⟨typeIs_int s i t,λ_ e=>nomatch e⟩
 | ref p=>
  cases r;rcases ty with⟨rfl,xs,hq⟩ | ⟨rfl,o,hk,hc,hd⟩ | ⟨rfl,hk⟩ | ⟨rfl,S,n,hk⟩
  ·obtain⟨its,_,pl,_⟩:=I.list hq;refine⟨pl.isList.typeIs,λa e=>?_⟩;cases e;obtain⟨o,n,e,c,hd,_⟩:=pl;exact⟨o,e,hd⟩
  ·refine⟨⟨o,I.kIn p o hk,hc⟩,λa e=>?_⟩;cases e;exact⟨o,I.kIn _ o hk,hd⟩
  ·have z:∃o,s.heap.get? p=some o/\o.ExactDict:=by
    rcases hk with⟨kvs,hk⟩ | ⟨kvs,hk⟩
    ·obtain⟨_,_,_,_,o,_,_,e,ex,_⟩:=I.hok p _ hk;exact⟨o,e,ex⟩
    ·obtain⟨_,_,_,_,o,_,_,e,ex,_⟩:=I.hok p _ hk;exact⟨o,e,ex⟩
   obtain⟨o,e,ex⟩:=z;refine⟨⟨o,e,ex.1⟩,λa e2=>?_⟩;cases e2;exact⟨o,e,ex.2.1⟩
  ·obtain⟨o,_,_,_,e,ex,_⟩:=I.hok p _ hk;refine⟨⟨o,e,ex.1⟩,λa e2=>?_⟩;cases e2;exact⟨o,e,ex.2.1⟩
 | _=>exact Ry ty
def Ig(K:Pq)(T:String)(r:V->List V->Hp->VK->Prop)(to:TE)(t:TA):TE:=λσ H Q=>to σ H λx H1=>Cy K T x H1/\t σ H1 λxs H2=>r x xs H2 Q
variable {o e:WC} {es:List WC} {to:TE} {t:TA} {name:Str} {apos cpos:Pos} {T id:String} {r:V->List V->Hp->VK->Prop}
theorem sR(pa:PlainAttrs T)(slot:Slot T name id)(hty:typeOf (.builtin id)=pure (.type "method_descriptor"))(hm:sQ X id r)(ho:PE X o to)(ha:PA X (e::es) t)
 (hbase:Xi o name X.env (eval o X.env)=eval o X.env:=by rfl)
 (hfew:((WU cpos (WB (e::es) X.env)).all (λx=>!x.1) && (X6 cpos (XF [] X.env)).all (λx=>x.1.isSome)
   && decide ((e::es).length+([]:List Xv).length+(if ([]:List Xv).isEmpty then 0 else 1) < 30))=true:=by rfl)
 (hline:(apos.endLine==cpos.line)=true:=by rfl)(hs:WB (e::es) X.env=(false,eval e X.env)::WB es X.env:=by rfl)(hplain:(WU cpos (WB es X.env)).any (·.1)=false:=by rfl):
 PE X (.Call (.Attribute o name apos) (e::es) [] cpos) (Ig X.K T r to t):=by
 intro Yn s σ H Q I h;refine wpAny_Call_method_late hbase hfew hline rfl (aC (ho Yn s σ H _ I h) λv s1 ⟨x,H1,I1,r1,ty,q1⟩=>?_);obtain⟨h1,h2⟩:=Ie I1 r1 ty;refine⟨T,id,pa,slot,hty,h1,h2,?_⟩;have hA:=ha cpos Yn s1 σ H1 _ I1 q1;rw [hs] at hA⊢;refine UE (by show(false || (WU cpos (WB es X.env)).any (·.1))=false;rw [hplain] <;> rfl) (UU ?_);exact aC hA λus s2 uu61=>by obtain⟨vs,H2,I2,r2,q2⟩:=uu61;exact hm Yn s2 σ H2 x vs v us Q I2 r1 r2 q2
end
def Ih(X:Cx)(id:String)(r:V->List V->Hp->VK->Prop):Prop:=
 ∀(Yn:List (Wu×Obj))(s:Wv)(σ:St)(H:Hp)(x:V)(xs:List V)(v:Ws)(us:List Ws)(Q:VK),ag X Yn σ H s->aJ x v->aM xs us->r x xs H Q->
  Wx (Wy X.prog X.w) X.A (call (.builtin id) (v::us)) (EP X Yn σ Q) X.xe s
theorem aM.one:∀{x:V}{us:List Ws},aM [x] us->∃u,us=[u]/\aJ x u
 | _,_,.cons r .nil=>⟨_,rfl,r⟩
theorem aM.rep{xs:List V}{us:List Ws}(h:aM xs us):∀k:Nat,aM (PH k xs).flatten (PH k us).flatten
 | 0=>.nil
 | k+1=>by
  rw [R6,R6,R1,R1];exact aM.append h (aM.rep h k)
theorem Cz(its:List Ws):∀(k:Nat)(acc:List Ws),
 VG (λx1 x2=>x1++x2) acc.toArray (PH k its.toArray)=(acc++(PH k its).flatten).toArray
 | 0,acc=>by simp
 | k+1,acc=>by
  have e:acc.toArray++its.toArray=(acc++its).toArray:=Wq
  have e2:(acc++its)++(PH k its).flatten=acc++(PH (k+1) its).flatten:=by
   rw [R6,R1,Uh]
  rw [<-e2,<-Cz its k (acc++its),<-e,R6,R4]
section
variable {X:Cx} {Yn:List (Wu×Obj)} {σ:St} {H:Hp} {s:Wv} {l b:Wu} {xs ys zs:List V}
theorem ag.lset{its its':List Ws}{n:Nat}{f:Array Ws->Array Ws}{t':Nat}(I:ag X Yn σ H s)(hH:H l=some (.lst xs))
 (e:s.heap.get? l=some {cls:= .type "list",data:= .seq its.toArray n})(hf:f its.toArray=its'.toArray)(hv:aM ys its')(hz:ys.length<=WA):
 ag X Yn σ (ao H l (.lst ys)) {s with heap:=s.heap.update l (Tr f),toks:=t'}:=by
 have q:=PySem.IsL.update e f;rw [hf] at q;refine I.write (x:=l) (e:=l) (by rw [hH];exact trivial) (.inl rfl) (λb' u hb hu=>(RG s.heap (Tr f) (Ne.symm hb)).trans hu) ⟨_,q⟩ ?_;exact⟨hz,its',_,hv,q⟩
theorem ag.lnew{its:List Ws}{t':Nat}(I:ag X Yn σ H s)(hv:aM ys its)(hz:ys.length<=WA):
 ag X Yn σ (ao H s.heap.objs.size (.lst ys)) {s with heap:=s.heap.push {cls:= .type "list",data:= .seq its.toArray},toks:=t'}:=
 I.laid (λ_ _ q=>Py _ q) (PL _) ⟨hz,its,0,hv,Qa _ rfl⟩
theorem ag.fresh(I:ag X Yn σ H s):H s.heap.objs.size=none:=I.hok.fresh (PL _)
theorem ag.lstM(I:ag X Yn σ H s)(hH:H l=some (.lst xs)):xs.length<=WA/\∃(its:List Ws)(n:Nat),aM xs its/\xs.length=its.length/\s.heap.get? l=some {cls:= .type "list",data:= .seq its.toArray n}:=by
 obtain⟨z,its,n,r,e⟩:=I.hok l _ hH;exact⟨z,its,n,r,r.length,e⟩
theorem Ii{n:Nat}(h:n<=WA):Ti n=false:=by
 unfold Ti;exact decide_eq_false Ce
end
section
variable {X:Cx}
def Ij:V->List V->Hp->VK->Prop:=λx vs H Q=>∃l xs y,x= .ref l/\vs=[y]/\H l=some (.lst xs)/\xs.length < WA/\Q .non (ao H l (.lst (xs++[y])))
theorem CA:Ih X "list.append" Ij:=by
 intro Yn s σ H x vs v us Q I rx rv h;obtain⟨l,xs,y,rfl,rfl,hH,hz,q⟩:=h;cases rx;obtain⟨u,rfl,ru⟩:=rv.one;obtain⟨z,its,n,r,hl,e⟩:=I.lstM hH;refine Xn F.slot_list_append ⟨_,e,rfl⟩ F.entry_list_append (F.args_list_append_2 _ _) (PySem.list_append l its.toArray n u (by rw [Qk];omega)) ⟨e,?_⟩;refine⟨.non,_,I.lset (its':=its++[u]) hH e Wq (r.append (.cons ru .nil)) ?_,rfl,q⟩;rw [Ra,List.length_singleton];omega
def Ik:R2:=λx y H Q=>∃l k xs,x= .ref l/\y= .int k/\H l=some (.lst xs)/\-(2 ^ 63)<=k/\k < 2 ^ 63/\xs.length*k.toNat<=WA/\
 ∀p,H p=none->Q (.ref p) (ao H p (.lst (PH k.toNat xs).flatten))
theorem Il{α:Type}(xs:List α)(k:Nat):(PH k xs).flatten.length=k*xs.length:=by
 induction k with
 | zero=>simp
 | succ k ih=>rw [R6,R1,Ra,ih,Nat.succ_mul,Nat.add_comm]
theorem Im:bC X (W7 .Mult) Ik:=by
 intro Yn s σ H x y v u Q I rx ry h;obtain⟨l,k,xs,rfl,rfl,hH,h1,h2,hz,q⟩:=h;cases rx;obtain⟨t,rfl⟩:=ry;obtain⟨z,its,n,r,hl,e⟩:=I.lstM hH;have hlen:its.toArray.size*k.toNat<=WA:=by rw [Qk,<-hl];exact hz
 have hcap:¬its.toArray.size*k.toNat > (2 ^ 63 - 1)/ 8:=by
  have:(WA:Nat)<=(2 ^ 63 - 1)/ 8:=tx
  omega
 have hfit:¬(!VY k)=true:=by
  rw [fitsIndex_both h1 h2];exact Qr
 have hlong:¬Ti (its.toArray.size*k.toNat)=true:=by
  rw [Ii hlen];exact Qr
 have hnew:VG (λx1 x2=>x1++x2) #[] (PH (if its.toArray.isEmpty=true then 0 else k.toNat) its.toArray)=(PH k.toNat its).flatten.toArray:=by
  have f0:∀m:Nat,VG (λx1 x2=>x1++x2) #[] (PH m its.toArray)=(PH m its).flatten.toArray:=λm=>by
   have:=Cz its m [];rw [P2] at this;exact this
  rw [f0];cases its with
  | nil=>simp
  | cons a r'=>rw [Wm Wq]
 refine wpAny_binaryOp_repeat_ref (T:="list") (U:="int") tx ⟨_,e,rfl⟩ (λs'=>typeIs_int s' k t) noFill_list_mul F.fills_int_mul F.slot_int_rmul repeat_list F.slot_int_index.lookup
  (Xn F.slot_int_rmul (typeIs_int s k t) F.entry_int_rmul (F.args_int_rmul_2 _ _) (int___rmul___int_list k t l its.toArray n)
    ⟨e,rfl,⟨_,e,rfl⟩,Xn F.slot_list_mul ⟨_,e,rfl⟩ F.entry_list_mul (F.args_list_mul_2 _ _) (AutoListH.list___mul___list_int_3 l its.toArray n k t hfit hcap hlong) ⟨e,?_⟩⟩)
 rw [hnew];exact⟨.ref _,_,I.lnew (t':=s.toks) (r.rep k.toNat) (by rw [Il,Nat.mul_comm];exact hz),rfl,q _ I.fresh⟩
end
end L2
namespace Att
open PySem PySem.W PySem.Calls PyProof.Rows
theorem Io{P:Params}{h:WG}:∀(ns:List Int)(vs:List Ws),WellAll P h vs (ns.map SN)->IntsAre vs ns:=by
 intro ns
 induction ns with
 | nil=>
  intro vs w;rw [Qc] at w;cases w;exact .nil
 | cons n ns ih=>
  intro vs w;rw [Pw] at w;cases w with
  | cons a b=>
   cases a;exact .cons _ _ (ih _ b)
theorem Ip{l:OpenLaw}{n:Nat}(hn:l.most=some n){P:Params}{h:WG}{args:List WData}{vals:List Ws}
 (hpre:l.row.toRowW.claim.pre args=true)(hwl:WellAll P h vals args):
 ∃a vs ns,vals=[Qy a]/\args=[Uk (ns.map SN)]/\h.get? a=some {cls:= .type "list",data:= .seq vs.toArray}/\IntsAre vs ns/\ns.length<=n:=by
 have hsh:WShape.hasAll [] args [.list .int]=true:=(pre_splitW hpre).1;have hc:l.pre.holds [] {args:=args}=true:=(pre_splitW hpre).2;obtain⟨d,r,rfl,h1,h2⟩:=hasAllW_cons hsh;obtain rfl:=hasAllW_nil h2;obtain⟨xs,rfl,h3⟩:=hasW_list h1;obtain⟨ns,rfl⟩:=items_int h3;have hlen:ns.length<=n:=by
  unfold OpenLaw.pre at hc;have h4:(WTm.not (.lt (.lit (.int (n:Int))) (.len (.arg 0)))).holds [] {args:=[.list (ns.map .int)]}=true:=by
   have h4:=(holds_andW hc).1;rw [hn] at h4;exact h4
  have h5:=condW_of h4 (w_not (w_lt w_lit (w_len_list (w_arg rfl))));rw [PB] at h5;refine Up λq=>?_;have q':(n:Int) < ((ns.length:Nat):Int):=Ce
  first
   | (rw [decide_eq_true q'] at h5;exact absurd h5 tx)
   | (simp at h5;omega)
 cases hwl with
 | cons w1 w2=>
  cases w2;cases w1 with
  | list ho hall=>exact⟨_,_,ns,rfl,rfl,ho,Io ns _ hall,hlen⟩
theorem Iq(l:OpenLaw)(args:List WData):l.row.toRowW.claim.post args (.bool true) args=true:=
 postW_of (r:=l.row.toRowW) (X:=(true==true))
  (show WShape.has [] (.bool true) .bool=true by first | rfl | decide | simp [WShape.has,WShape.arms,WShape.armsAll])
  (show(WTm.eq .res (.lit (.bool true))).value [] {args:=args,res:=some (.bool true),after:=args}=some (.bool (true==true)) from w_eq_bool (w_res rfl) w_lit) rfl
end Att
namespace L2
open PySem PySem.Spec PyProof.Rows
theorem CB:∀{vs:List Ws}{ns:List Int},IntsAre vs ns->aM (ns.map V.int) vs
 | _,_,.nil=>.nil
 | _,_,.cons n t h=>.cons ⟨t,rfl⟩ (CB h)
def uB(H:Hp):Prop:=∀b,H b=none\/∃o xs,H b=some (.frz o (.lst xs))
theorem Ir{P:WH}{w:WJ}{K:Pq}{mg mb:Str->Option Ws}{CX:kR}{k:Nat}{fa a:Wu}{fd:WD}{x:Str}{sp:Sp}{s₁:Wv}{vs:List Ws}{ns:List Int}
 (KX:K.In s₁.heap)(hns:s₁.heap.Ns WE mg)(hb:s₁.heap.Ns builtinsNs mb)(hbb:∀x:Str,x≠"__name__"->mb x=WO x)(hlim:s₁.heap.NoLimit)(hg:s₁.gens=#[])
 (ha:s₁.heap.get? a=some {cls:= .type "list",data:= .seq vs.toArray})(hi:IntsAre vs ns)(hl:ns.length<=WA)(hr:bN k callerA)
 (F:∀base:WG,K.In base->base.Ns WE mg->aF P w K mg base CX k fa fd [x] sp)(hbind:∀(s:Wv) (u:Ws),BindsTo s fd ⟨[u],[]⟩ [(x,u)])
 (hsp:∀H:Hp,uB H->bf K H a (ns.map V.int)->sp [.ref a] H (λv _=>v= .bl true) λ_ _ _=>False)
 (hCX:∀H e s',CX [] H s₁ (λ_ _ _=>False) e s'->False):
 Xo (Wy P w) callerA (.call (.ref fa) ⟨[.ref a],[]⟩) (λr s'=>r= .ok (.ret (.bool true))/\OldK s₁.heap s'.heap/\s'.os=s₁.os/\XJ s'.gens) s₁:=by
 have rv:=CB hi;have lenV:=hi.length;have core:∀H:Hp,uB H->bf K H a (ns.map V.int)->bQ P w H s₁.heap->(∀b,H b≠none->b=a)->(H a≠none->K.lookup a=none)->
  Xo (Wy P w) callerA (.call (.ref fa) ⟨[.ref a],[]⟩) (λr s'=>r= .ok (.ret (.bool true))/\OldK s₁.heap s'.heap/\s'.os=s₁.os/\XJ s'.gens) s₁:=by
  intro H hO hS hok hA hK;have base_of:∀{b:Wu}{o:Obj},s₁.heap.get? b=some o->H b=none->(n8 s₁.heap H).get? b=some o:=λe n=>G0 e n;have noA:∀{b:Wu}{o:Obj}{es:Array Yd}{ep:Nat},s₁.heap.get? b=some o->o.data= .dict es ep->H b=none:=λ{b o es ep} e d=>by
   cases q:H b with
   | none=>rfl
   | some u=>
    have e':b=a:=hA b (by rw [q];simp);subst e';rw [ha] at e;cases e;have d':Data.seq vs.toArray _=Data.dict es ep:=d;cases d'
  have nsK:∀{b:Wu}{m:Str->Option Ws},s₁.heap.Ns b m->(n8 s₁.heap H).Ns b m:=λ{b m} ⟨o,es,ep,e,d,r⟩=>⟨o,es,ep,base_of e (noA e d),d,r⟩;have hKb:K.In (n8 s₁.heap H):=λb o e=>base_of (KX b o e) (by
   cases q:H b with
   | none=>rfl
   | some u=>
    have e':b=a:=hA b (by rw [q];simp);subst e';rw [hK (by rw [q];simp)] at e;cases e)
  have hM:Mod K mg (n8 s₁.heap H):=⟨hKb,nsK hns,⟨mb,nsK hb,hbb⟩,let ⟨mc,h1,h2⟩:=hlim;⟨mc,nsK h1,h2⟩⟩;have e0:p6 P w K mg (n8 s₁.heap H) callerA [] s₁ H:=⟨rfl,hM,λb o e=>G1 e,Nat.le_of_eq (GZ _ _),trivial,λb hb=>absurd (show b∈([]:List Wu) from hb) Wq,hok,.of_eq hg⟩;refine Xe ((F _ hKb (nsK hns)).run callerA [] s₁ H ⟨[.ref a],[]⟩ [.ref a] [.ref a] _ _ hr e0 (hbind s₁ (.ref a)) (.cons rfl .nil) (hsp H hO hS)) λr s' h=>?_;cases r with
  | error e=>exact(hCX H e s' h).elim
  | ok fl=>
   cases fl with
   | next=>exact Ry h
   | brk=>exact Ry h
   | cont=>exact Ry h
   | ret u=>
    obtain⟨v,H',os,bare,un,hok',r',q⟩:=h;have q':v= .bl true:=q;subst q';obtain rfl:u=So true:=r';refine⟨rfl,OldK.of_keep λb o e=>?_,os,bare⟩;cases q:H b with
    | none=>exact un.keep b o e q (by intro z;exact absurd (show b∈([]:List Wu) from z) Wq) Wq
    | some u=>
     rcases hO b with z | ⟨ob,xs,z⟩
     ·rw [q] at z;cases z
     ·have z2:=un.frzs b ob _ z;obtain⟨e1,_⟩:=hok b _ z;obtain⟨e2,_⟩:=hok' b _ z2;rw [e] at e1;cases e1;exact e2
 cases hk:K.lookup a with
 | some o=>
  have e:=KX a o hk;rw [ha] at e;cases e;refine core (λ_=>none) (λ_=>.inl rfl) (.inr ⟨_,vs.toArray,_,hk,rfl,rfl,rfl,by rw [Qk,lenV];exact hl,by simpa using rv⟩) (λb u z=>by have z':(none:Option HO)=some u:=z;cases z') (λb z=>absurd rfl z) λz=>absurd rfl z
 | none=>
  refine core (λb=>if b=a then some (.frz {cls:= .type "list",data:= .seq vs.toArray} (.lst (ns.map V.int))) else none) (λb=>?_) (.inl (.inr ⟨{cls:= .type "list",data:= .seq vs.toArray},Wn rfl⟩)) (λb u z=>?_) (λb z=>?_) λ_=>hk
  ·by_cases hb:b=a
   ·exact .inr ⟨_,_,Wn hb⟩
   ·exact .inl (Wm hb)
  ·by_cases hb:b=a
   ·have z':=(Wn hb).symm.trans z;cases z';subst hb;exact⟨ha,by rw [PB];exact hl,vs,_,rv,ha⟩
   ·have z':=(Wm hb).symm.trans z;cases z'
  ·by_cases hb:b=a
   ·exact hb
   ·exact absurd (Wm hb) z
abbrev KOf{K:Pq}{h:WG}(_:K.In h):Pq:=K
def inClass(s:WK)(j:Nat):WK:=match s with
 | .ClassDef _ _ _ body _ _ _ _ _ _ _=>body.getD j (.Pass ⟨0,0,0,0⟩)
 | _=>.Pass ⟨0,0,0,0⟩
def nL(s:WK):Arguments:=match s with
 | .FunctionDef _ a _ _ _ _ _ _ _ _=>a
 | _=>{posonlyargs:=[],args:=[],vararg:=none,kwonlyargs:=[],kw_defaults:=[],kwarg:=none,defaults:=[]}
def l3(s:WK):List WK:=match s with
 | .FunctionDef _ _ b _ _ _ _ _ _ _=>b
 | _=>[]
def az(s:WK):WZ:=match s with
 | .FunctionDef _ _ _ _ _ _ sc _ _ _=>sc
 | _=>{kind:= .function,names:=[],isGenerator:=false,isCoroutine:=false}
abbrev CX0:kR:=λ_ _ _ _ _ _=>False
abbrev E0:XK:=λ_ _ _=>False
theorem CC{X:Cx}:qR CX0 X E0:=λ_ _ _ _ _ _ _ h=>h.elim
structure lJ (K:Pq) (x qual:Str) (st:WK) (f:Wu) (fd:WD):Prop where
 ex:∃(oc:Ws)(od:Option Wu)(kV doc pm:Ws)(an:Option Wu)(cdv ct:Ws)(osl:Array (Option Ws)),
  fd=RT x qual (nL st) (l3 st) (az st) .none kV doc pm an cdv ct/\K.lookup f=some ⟨oc,od,.func fd,osl⟩/\Tq K cdv qual=true
 kp:Sb K (.ref f)=true
section
variable {P:WH} {w:WJ} {K:Pq} {mg:Str->Option Ws} {base:WG}
theorem lJ.ok{x qual:Str}{st:WK}{f:Wu}{fd:WD}{N ps:List Str}{k:Nat}{sp:Sp}(F:lJ K x qual st f fd)(S:aN N ps (az st))(len:∀vs H Q E,sp vs H Q E->vs.length=ps.length)
 (hbody:∀(cdv:Ws) (A:WL) (outer:List Env) (s:Wv) (H:Hp) (vs:List V) (Q:VK) (E:XK),bN k (A.deeper (XC qual (az st) s.heap.objs.size f cdv))->sp vs H Q E->
   ∃t,bG (j9 CX0 P w K mg base N qual (az st) f cdv A outer s H E).nox (l3 st) t/\t {nx:=λ_ H'=>Q .non H',rt:=Q} (start N vs) H):aF P w K mg base CX0 (k+1) f fd ps sp:=by
 obtain⟨oc,od,kV,doc,pm,an,cdv,ct,osl,rfl,lk,hcd⟩:=F.ex;refine Cr lk hcd S len λA outer s H vs Q E hr hsp=>?_;obtain⟨t,h,q⟩:=hbody cdv A outer s H vs Q E hr hsp;exact⟨t,h.nox,q⟩
theorem lJ.binds{x qual:Str}{st:WK}{f:Wu}{fd:WD}{ps:List Str}(F:lJ K x qual st f fd)
 (h:∀(kV doc pm:Ws) (an:Option Wu) (cdv ct:Ws) (us:List Ws),us.length=ps.length->bindArgs (RT x qual (nL st) (l3 st) (az st) .none kV doc pm an cdv ct) ⟨us,[]⟩=pure (ps.zip us)):mz K fd ps []:=by
 obtain⟨oc,od,kV,doc,pm,an,cdv,ct,osl,rfl,lk,hcd⟩:=F.ex;exact .all (h kV doc pm an cdv ct)
theorem CD{x qual:Str}{st:WK}{f:Wu}{oc:Ws}{od an:Option Wu}{osl:Array (Option Ws)}{kV doc pm cdv ct:Ws}(l:K.lookup f=some ⟨oc,od,.func (RT x qual (nL st) (l3 st) (az st) .none kV doc pm an cdv ct),osl⟩)
 (c:Tq K cdv qual=true)(k:Sb K (.ref f)=true):lJ K x qual st f (RT x qual (nL st) (l3 st) (az st) .none kV doc pm an cdv ct):=⟨⟨oc,od,kV,doc,pm,an,cdv,ct,osl,rfl,l,c⟩,k⟩
end
section
variable {X:Cx}
theorem pv(i:Nat){x:Str}{pos:Pos}(hN:X.N[i]?=some x:=by rfl)(hv:sg X.env.scope x:=by first | exact Uq rfl | exact TC (Uq rfl) | exact TC (TC rfl))(hd:(x==("__debug__":Str))=false:=by decide)
 (hcd:(x==("__classdict__":Str))=false:=by decide):PE X (.Name x pos) (n9 i):=pU hN hv hd hcd
end
def aq(H H':Hp):Prop:=∀b o,H b=some o->H' b=some o
theorem aq.refl(H:Hp):aq H H:=λ_ _ h=>h
theorem aq.trans{H H1 H2:Hp}(a:aq H H1)(b:aq H1 H2):aq H H2:=λc o h=>b c o (a c o h)
def mh(env:Env)(names:List (Str×W4))(cs:List (Str×Wu)):List (Str×Wu):=
 names.foldl (λcs p=>if (p.2==RA)=true then(p.1,(env.cells.lookup p.1).getD 0)::cs else cs) cs
theorem CF{scope:WZ}{env:Env}(h:∀y∈scope.names,y.2= .free->∃c,env.cells.lookup y.1=some c):closureFor scope env=pure (mh env scope.names []):=by
 unfold closureFor;have key:∀(l:List (Str×W4))(cs:List (Str×Wu)),(∀y∈l,y.2= .free->∃c,env.cells.lookup y.1=some c)->
  (forIn l cs λ(x:Str×W4) (r:List (Str×Wu))=>(if (x.2==RA)=true then do let a<-cellOf env x.1;pure (SO ((x.1,a)::r)) else pure (SO r):Sem (ForInStep (List (Str×Wu)))))=pure (mh env l cs):=by
  intro l
  induction l with
  | nil=>intro cs _;rfl
  | cons p r ih=>
   intro cs hl;rw [UB];by_cases hk:(p.2==RA)=true
   ·obtain⟨c,hc⟩:=hl p RC (by simpa using hk);rw [Wn hk];have e:cellOf env p.1=pure c:=by unfold cellOf;rw [hc]
    rw [e];simp only [pure_bind];rw [ih _ λy hy=>hl y (Q2 _ hy)];unfold mh;rw [R4,Wn hk,hc];rfl
   ·rw [Wm hk];simp only [pure_bind];rw [ih _ λy hy=>hl y (Q2 _ hy)];unfold mh;rw [R4,Wm hk]
 have:=key scope.names [] h;simp only [bind_pure];exact this
theorem xT{env:Env}:∀(l:List (Str×W4))(cs:List (Str×Wu)){x:Str}{c:Wu},(∀y∈l,y.2= .free->∃c,env.cells.lookup y.1=some c)->(∀y d,cs.lookup y=some d->env.cells.lookup y=some d)->
 (mh env l cs).lookup x=some c->env.cells.lookup x=some c
 | [],cs,x,c,_,hc,h=>hc x c h
 | p::r,cs,x,c,hl,hc,h=>by
  unfold mh at h;rw [R4] at h;by_cases hk:(p.2==RA)=true
  ·rw [Wn hk] at h;refine xT r _ (λy hy=>hl y (Q2 _ hy)) (λy d e=>?_) h;obtain⟨a,ha⟩:=hl p RC (by simpa using hk);rw [Q6] at e;cases hx:y==p.1 with
   | true=>
    rw [hx] at e;have hy:y=p.1:=by simpa using hx
    rw [ha] at e;cases e;rw [hy];exact ha
   | false=>rw [hx] at e;exact hc y d e
  ·rw [Wm hk] at h;exact xT r cs (λy hy=>hl y (Q2 _ hy)) hc h
theorem xU{env:Env}:∀(l:List (Str×W4))(cs:List (Str×Wu)){x:Str},(∃c,cs.lookup x=some c)->∃c,(mh env l cs).lookup x=some c
 | [],cs,x,h=>h
 | p::r,cs,x,⟨c,h⟩=>by
  unfold mh;rw [R4];by_cases hk:(p.2==RA)=true
  ·rw [Wn hk];refine xU r _ ?_;rw [Q6];cases hx:x==p.1 with
   | true=>exact⟨_,rfl⟩
   | false=>exact⟨c,h⟩
  ·rw [Wm hk];exact xU r cs ⟨c,h⟩
theorem xV{env:Env}:∀(l:List (Str×W4))(cs:List (Str×Wu)){x:Str},(x,RA)∈l->∃c,(mh env l cs).lookup x=some c
 | [],_,_,h=>by simp at h
 | p::r,cs,x,h=>by
  unfold mh;rw [R4];rcases Pz.mp h with e | e
  ·subst e;rw [Wn (by rfl)];exact xU r _ ⟨(env.cells.lookup x).getD 0,by rw [Q6];simp⟩
  ·exact xV r _ e
theorem Iu{env:Env}{scope:WZ}{x:Str}(h:(relabel scope env).names.lookup x=some .cell\/(relabel scope env).names.lookup x=some .free):scope.names.lookup x=some .free\/scope.names.lookup x=some .cell:=by
 have key:∀(l:List (Str×W4)),
  ((l.map λ(n,k)=>if (k==RA && env.scope.kind== .function && env.kindOf n==some .cell) then(n,TJ) else(n,k)).lookup x=some .cell\/
  (l.map λ(n,k)=>if (k==RA && env.scope.kind== .function && env.kindOf n==some .cell) then(n,TJ) else(n,k)).lookup x=some .free)->l.lookup x=some .free\/l.lookup x=some .cell:=by
  intro l
  induction l with
  | nil=>intro h;simp at h
  | cons p r ih=>
   obtain⟨n,k⟩:=p;intro h;rw [Pw] at h;rw [Q6];by_cases hx:x=n
   ·subst hx;rw [beq_self_eq_true];by_cases hq:(k==RA && env.scope.kind== .function && env.kindOf x==some .cell)=true
    ·have:k= .free:=by simp only [P6,beq_iff_eq] at hq;exact hq.1.1
     subst this;exact .inl rfl
    ·simp only [Wm hq,Q6,beq_self_eq_true] at h;exact h.symm
   ·have hb:(x==n)=false:=by simpa using hx
    rw [hb];refine ih ?_;by_cases hq:(k==RA && env.scope.kind== .function && env.kindOf n==some .cell)=true
    ·simpa only [Wn hq,Q6,hb] using h
    ·simpa only [Wm hq,Q6,hb] using h
 exact key scope.names h
theorem Iw{env:Env}{scope:WZ}{x:Str}(h:scope.names.lookup x=some .cell\/scope.names.lookup x=some .free):(relabel scope env).names.lookup x=some .cell\/(relabel scope env).names.lookup x=some .free:=by
 have key:∀(l:List (Str×W4)),l.lookup x=some .cell\/l.lookup x=some .free->
  ((l.map λ(n,k)=>if (k==RA && env.scope.kind== .function && env.kindOf n==some .cell) then(n,TJ) else(n,k)).lookup x=some .cell\/
  (l.map λ(n,k)=>if (k==RA && env.scope.kind== .function && env.kindOf n==some .cell) then(n,TJ) else(n,k)).lookup x=some .free):=by
  intro l
  induction l with
  | nil=>intro h;simp at h
  | cons p r ih=>
   obtain⟨n,k⟩:=p;intro h;rw [Pw];by_cases hx:x=n
   ·subst hx;rw [Q6,beq_self_eq_true] at h;by_cases hq:(k==RA && env.scope.kind== .function && env.kindOf x==some .cell)=true
    ·left;simp only [Wn hq,Q6,beq_self_eq_true]
    ·simp only [Wm hq,Q6,beq_self_eq_true];exact h
   ·have hb:(x==n)=false:=by simpa using hx
    rw [Q6,hb] at h;by_cases hq:(k==RA && env.scope.kind== .function && env.kindOf n==some .cell)=true
    ·simpa only [Wn hq,Q6,hb] using ih h
    ·simpa only [Wm hq,Q6,hb] using ih h
 exact key scope.names h
structure bO (sc:WZ) (N N':List Str) (k:Nat) (fr:List Nat) (scope:WZ):Prop where
 kind:scope.kind= .function
 cell:∀y∈scope.names,y.2= .cell->scope.names.lookup y.1=some .cell
 names:∀y∈scope.names,y.2= .local->scope.names.lookup y.1=some .local
 nd:N'.Nodup
 slot:fr.map (λj=>N[j]?)=(N'.drop k).map some
 frees:∀x∈N'.drop k,scope.names.lookup x=some .free
 outer:∀y∈scope.names,y.2= .free->sc.names.lookup y.1=some .cell\/sc.names.lookup y.1=some .free
 outer':∀x∈N'.drop k,sc.names.lookup x=some .cell\/sc.names.lookup x=some .free
 len:N'.length=k+fr.length
theorem uC:∀(l:List (Str×W4)){n:Nat}{a:List (Str×Wu)}{x:Str}{c:Wu},(W3 n l a).lookup x=some c->n<=c\/a.lookup x=some c
 | [],_,_,_,_,h=>.inr h
 | (y,k)::r,n,a,x,c,h=>by
  unfold W3 at h;split at h
  ·rcases uC r h with z | z
   ·exact .inl Ce
   ·rw [Q6] at z;split at z
    ·exact .inl (by cases z;exact PL _)
    ·exact .inr z
  ·exact uC r h
theorem xW:∀(l:List (Str×W4)){n:Nat}{a:List (Str×Wu)}{x:Str}{c:Wu},l.lookup x=some .cell->(W3 n l a).lookup x=some c->n<=c
 | [],_,_,_,_,e,_=>nomatch e
 | (y,k)::r,n,a,x,c,e,h=>by
  unfold W3 at h;rw [Q6] at e;cases hx:x==y with
  | true=>
   rw [hx] at e;cases e;have h:List.lookup x (W3 (n+1) r ((y,n)::a))=some c:=h;rcases uC r h with z | z
   ·exact Ui z
   ·rw [Q6,hx] at z;cases z;exact PL _
  | false=>
   rw [hx] at e;split at h
   ·exact Ui (xW r e h)
   ·exact xW r e h
theorem xX:∀(l:List (Str×W4)){n:Nat}{a:List (Str×Wu)}{x:Str},(∀y∈l,y.2= .cell->y.1≠x)->(W3 n l a).lookup x=a.lookup x
 | [],_,_,_,_=>rfl
 | (y,k)::r,n,a,x,h=>by
  unfold W3;split
  ·rename_i hk;rw [xX r λz hz=>h z (Q2 _ hz),Q6];have:(x==y)=false:=by simpa using Ne.symm (h (y,k) RC (by simpa using hk))
   rw [this]
  ·exact xX r λz hz=>h z (Q2 _ hz)
theorem xY:∀(l:List (Str×W4)){n:Nat}{a:List (Str×Wu)},(∀x c,a.lookup x=some c->c < n)->(∀x y c,a.lookup x=some c->a.lookup y=some c->x=y)->∀x y c,(W3 n l a).lookup x=some c->(W3 n l a).lookup y=some c->x=y
 | [],_,_,_,h=>h
 | (z,k)::r,n,a,hl,hi=>by
  unfold W3;split
  ·have one:∀x c,((z,n)::a).lookup x=some c->x=z/\c=n\/c < n/\a.lookup x=some c:=λx c e=>by
    rw [Q6] at e;cases hx:x==z with
    | true=>rw [hx] at e;cases e;exact .inl ⟨by simpa using hx,rfl⟩
    | false=>rw [hx] at e;exact .inr ⟨hl x c e,e⟩
   refine xY r (λx c e=>?_) λx y c e1 e2=>?_
   ·rcases one x c e with⟨_,z⟩ | ⟨z,_⟩
    ·rw [z];exact Sk _
    ·exact RL z
   ·rcases one x c e1 with⟨a1,b1⟩ | ⟨a1,b1⟩ <;> rcases one y c e2 with⟨a2,b2⟩ | ⟨a2,b2⟩
    ·rw [a1,a2]
    ·omega
    ·omega
    ·exact hi x y c b1 b2
  ·exact xY r hl hi
theorem xZ:∀(l:List (Str×W4)){h:WG}{a:List (Str×Wu)},(∀x c,a.lookup x=some c->∃v,h.IsCell c v)->∀x c,(W3 h.objs.size l a).lookup x=some c->∃v,(pushCells h l).IsCell c v
 | [],_,_,h=>h
 | (z,k)::r,h,a,ha=>by
  unfold W3 pushCells;split
  ·have:=xZ r (h:=h.push {cls:= .type "cell",data:= .cell none}) (a:=(z,h.objs.size)::a) λx c e=>by
    rw [Q6] at e;split at e
    ·cases e;exact⟨none,_,Qa _ rfl,rfl⟩
    ·obtain⟨v,q⟩:=ha x c e;exact⟨v,q.keeps λb o e=>Py _ e⟩
   rwa [RX] at this
  ·exact xZ r ha
def uD(X:Cx)(scope:WZ)(C:Wu):List (Str×Wu):=W3 (C+1) scope.names (mh X.env scope.names [])
def bR(X:Cx)(scope:WZ)(N':List Str)(fp:List Wu)(C:Wu)(s:Wv)(H:Hp):Cx where
 prog:=X.prog
 w:=X.w
 K:=X.K
 mg:=X.mg
 base:=X.base
 A:=X.A
 N:=N'
 s₀:=s
 H₀:=H
 env:=compEnvC scope (uD X scope C) C X.env
 outer:=X.stack
 stack:=X.stack
 ex:=fp
 fn:=λx=>scope.names.lookup x==some .cell
 calm:=X.calm
 pn:=[]
 xe:=λ_ _=>False
def bF(k:Nat)(fr:List Nat)(σ:St):St:=PH k none++fr.map λj=>(σ[j]?).join
def pf(σ σ':St):Prop:=σ.length=σ'.length/\∀(i:Nat) v,σ[i]?=some (some v)->σ'[i]?=some (some v)
section
variable {X:Cx} {Yn:List (Wu×Obj)} {σ:St} {H:Hp} {s:Wv} {scope:WZ} {N':List Str} {k:Nat} {fr:List Nat} {fp:List Wu}
theorem x4(S:bO X.env.scope X.N N' k fr scope)(I:ag X Yn σ H s):∀x c,(mh X.env scope.names []).lookup x=some c->X.env.cells.lookup x=some c:=λx c e=>xT scope.names [] (λy hy e=>I.ok.has y.1 (S.outer y hy e)) (λ_ _ z=>by simp at z) e
theorem CG(S:bO X.env.scope X.N N' k fr scope)(I:ag X Yn σ H s){x:Str}{c:Wu}(e:(uD X scope s.heap.objs.size).lookup x=some c):s.heap.objs.size < c\/X.env.cells.lookup x=some c:=
 (uC _ e).imp (λz=>z) λz=>x4 S I x c z
theorem Iy(S:bO X.env.scope X.N N' k fr scope)(I:ag X Yn σ H s)(hf:∀b∈fp,mN X Yn H b)(hlt:∀b∈fp,b < s.heap.objs.size):
 (bR X scope N' fp s.heap.objs.size s H).Ok:=by
 have hcl:=x4 S I;refine⟨I.ok.mod,S.kind,I.ok.glob,I.ok.blt,PL _,xY _ (λx c e=>?_) (λx y c h1 h2=>I.ok.inj x y c (hcl x c h1) (hcl y c h2)),λx hx=>Sg.mp (Tz _ _ _ ?_),λx c h e=>Ui (xW _ (eq_of_beq h) e),I.ok.hd,I.ok.frames,.inl rfl,λb hb=>⟨QF (hlt b hb),λx c e=>?_⟩,
  I.bs,Qt I.ok.bsz I.sz,λb o e hb=>?_,λb hb hb'=>?_,I.stack,I.stkFree⟩
 ·obtain⟨v,o,ho,_⟩:=I.cell x c (hcl x c e);exact RL (PQ ho)
 ·rcases Iu hx with z | z
  ·exact .inr (Sg.mpr (xV _ _ (R5 z)))
  ·exact .inl z
 ·rcases CG S I e with z | z
  ·exact λq=>absurd (hlt b hb) (by rw [<-q];exact Nat.lt_asymm z)
  ·exact(hf b hb).2.2.2.2.1 x c z
 ·rcases(hf b hb).2.2.2.1 with z | z
  ·exact I.ok.noex b o e z
  ·exact absurd (QX (PQ e) (Qt I.ok.bsz z)) (RP _)
 ·rcases Pz.mp (I.stkSub b hb') with z | z
  ·exact(hf b hb).2.1 z
  ·exact(hf b hb).2.2.1 z
theorem Iz(S:bO X.env.scope X.N N' k fr scope)(I:ag X Yn σ H s)(hf:∀b∈fp,mN X Yn H b)(hlt:∀b∈fp,b < s.heap.objs.size){o:Obj}{h':WG}(e':h'=pushCells (s.heap.push o) scope.names)
 (hn:h'.Ns s.heap.objs.size (λ_=>none))(hk:∀b o,s.heap.get? b=some o->h'.get? b=some o):
 ag (bR X scope N' fp s.heap.objs.size s H) [] (bF k fr σ) H {s with heap:=h'}:=by
 have hcl:=x4 S I;refine⟨Iy S I hf hlt,rfl,I.bare,Un.kept hk,⟨_,hn,λi x v h1 h2 h3=>?_⟩,λx c e=>?_,I.hok.fresh (PL _),λx c e=>?_,λp hp=>absurd hp (by simp [bR]),I.hok.kept hk,?_⟩
 ·have hi:k<=i:=by
   rcases Vg i k with z | z
   ·exfalso;unfold bF at h2;rw [Se (by simpa using z),SM,Wn z] at h2;cases h2
   ·exact z
  have h2':(fr.map λj=>(σ[j]?).join)[i - k]?=some (some v):=by
   unfold bF at h2;rw [Sx (by simpa using hi)] at h2;simpa using h2
  have h1':(N'.drop k)[i - k]?=some x:=by
   rw [List.getElem?_drop,Nat.add_sub_cancel' hi];exact h1
  have hmem:x∈N'.drop k:=Rp h1';have e2:(fr.map λj=>X.N[j]?)[i - k]?=some (some x):=by
   rw [S.slot,Ru,h1'];rfl
  obtain⟨j,hj,ej⟩:∃j,fr[i - k]?=some j/\X.N[j]?=some x:=by
   rw [Ru] at e2;cases e:fr[i - k]? with
   | none=>rw [e] at e2;cases e2
   | some j=>rw [e] at e2;exact⟨j,rfl,Ri e2⟩
  have hv:σ[j]?=some (some v):=by
   rw [Ru,hj] at h2';have h3':(σ[j]?).join=some v:=Ri h2';cases e:σ[j]? with
   | none=>rw [e] at h3';cases h3'
   | some o=>rw [e] at h3';rw [show o=some v from h3']
  obtain⟨m,hn0,hl⟩:=I.loc;have ho:=S.outer' x hmem;obtain⟨u,ru,lk⟩:=hl j x v ej hv (.inr ho);refine⟨u,ru,.inr ⟨Iw (.inr (S.frees x hmem)),?_⟩⟩;rcases lk with⟨z,_⟩ | ⟨_,c,hc,hx⟩
  ·exfalso;rcases ho with ho | ho
   ·exact absurd (z.symm.trans ho) Wq
   ·exact absurd (z.symm.trans ho) Wq
  ·obtain⟨c',hc'⟩:=xV (env:=X.env) scope.names [] (R5 (S.frees x hmem));have:=hcl x c' hc';rw [hc] at this;cases this;obtain⟨o,ho,hd⟩:=hx;exact⟨c,(xX _ λy hy ey ex=>by have q:=S.cell y hy ey;rw [ex,S.frees x hmem] at q;cases q).trans hc',o,hk c o ho,hd⟩
 ·subst e';have:=xZ scope.names (h:=s.heap.push o) (a:=mh X.env scope.names []) (λx c e=>by
   obtain⟨v,q⟩:=I.cell x c (hcl x c e);exact⟨v,q.keeps λb o e=>Py _ e⟩) x c
  rw [RX] at this;exact this e
 ·rcases CG S I e with z | z
  ·exact I.hok.fresh (SX z)
  ·exact I.freeC x c z
 ·unfold bF;show _=N'.length;rw [Ra,UH,PB,S.len]
end
section
variable {prog:WH} {w:WJ} {A:WL} {E:Ws->Wv->Prop} {R:Yc->Wv->Prop} {s:Wv}
theorem IA{elt target iter:WC}{ifs:List WC}{scope:WZ}{pos:Pos}{it acc:Ws}{env:Env}(I:Nat->Wv->Prop)
 (turn:∀n s,I n s->Wx (Wy prog w) A (Xj it) (λr s₁=>match r with
  | none=>R (.ok .next) s₁
  | some v=>Wx (Wy prog w) A (X3 target it v) (λ_ s₁'=>Wx (Wy prog w) A (assign target env v) (λ_ s₂=>
   Wx (Wy prog w) A (forIn ifs true λc r=>if r=true then do let ok<-isTrue c env (eval c env);pure (SO ok) else pure (SO r)) (λok s₃=>
    if ok=true then Wx (Wy prog w) A (eval elt env) (λx s₄=>
     Wx (Wy prog w) A (call (.builtin "list.append") [acc,x]) (λ_ s₅=>∃m,m < n/\I m s₅) (λ_ _=>False) s₄) (λ_ _=>False) s₃
    else ∃m,m < n/\I m s₃) (λ_ _=>False) s₂) (λ_ _=>False) s₁') (λ_ _=>False) s₁) (λ_ _=>False) s)
 (n:Nat)(h:I n s):
 Xo (Wy prog w) A (.compLoop (.ListComp elt [⟨target,iter,ifs,0⟩] scope pos) 0 it acc env) R s:=by
 refine codeAny_loop rfl I (λn s hI=>?_) n h;show Wx _ A ((compTurn (.ListComp elt [⟨target,iter,ifs,0⟩] scope pos) 0 it acc env).onRaise (λx=>do X1 x env;theTreesLotGoes x)) _ _ s;refine wpAny_noted ?_;rw [compTurn_list];refine Wt (Xu (Wt (WR (turn n s hI) (λr s₁ h₁=>?_) λ_ _ h'=>h'.elim)));cases r with
 | none=>exact Ww h₁
 | some v=>
  refine Wt (WR h₁ (λ_ s₁' h₁'=>?_) λ_ _ h'=>h'.elim);refine Wt (WR h₁' (λ_ s₂ h₂=>Wt (WR h₂ (λok s₃ h₃=>?_) λ_ _ h'=>h'.elim)) λ_ _ h'=>h'.elim);cases ok with
  | false=>exact Ww ⟨rfl,h₃⟩
  | true=>
   exact Wt (Wt (WR h₃ (λx s₄ h₄=>Wt (WR h₄ (λ_ s₅ h₅=>Ww (Ww ⟨rfl,h₅⟩)) λ_ _ h'=>h'.elim)) λ_ _ h'=>h'.elim))
end
def l6(X:Cx)(ifs:List WC)(t:TT):Prop:=
 ∀(Yn:List (Wu×Obj))(s:Wv)(σ:St)(H:Hp)(Q:Bool->Hp->Prop),ag X Yn σ H s->t σ H Q->
  Wx (Wy X.prog X.w) X.A (forIn ifs true λc r=>if r=true then do let ok<-isTrue c X.env (eval c X.env);pure (SO ok) else pure (SO r)) (TP X Yn σ Q) X.xe s
def CH:TT:=λ_ H Q=>Q true H
theorem CI{X:Cx}:l6 X [] CH:=λYn s σ H Q I h=>wpAny_tests_nil ⟨H,I,h⟩
theorem IB{X:Cx}{c:WC}{t:TT}(h:PT X c t):l6 X [c] t:=λYn s σ H Q I hq=>wpAny_tests_one (h Yn s σ H Q I hq)
theorem bQ.but{P:WH}{w:WJ}{H:Hp}{h h':WG}{C:Wu}(x:bQ P w H h)(hC:H C=none)(k:∀b o,b≠C->h.get? b=some o->h'.get? b=some o):bQ P w H h':=λa o e=>by
 refine(x a o e).stay (λb u hb q=>k b u ?_ q) (λ_ q=>q) (λ_ _ q=>q) λ_ _ q=>q;intro z;subst z;rcases hb with z | z
 ·rw [<-z,hC] at e;cases e
 ·rw [hC] at z;cases z
theorem IC{M:XM}{A:WL}{E:Ws->Wv->Prop}{s:Wv}{scope:WZ}{g:Wu}{cl:List (Str×Wu)}{qual:Str}{e:Env}{Q:Env->Wv->Prop}
 (hQ:∀h',h'=pushCells (s.heap.push {cls:= .type "dict",data:= .dict #[]}) scope.names->h'.Ns s.heap.objs.size (λ_=>none)->(∀b o,s.heap.get? b=some o->h'.get? b=some o)->
  Q (newEnv scope s.heap.objs.size g (W3 (s.heap.objs.size+1) scope.names cl) qual none .none (some e) builtinsNs) {s with heap:=h'}):
 Wx M A (newFunctionEnv scope g cl [] qual none .none (some e)) Q E s:=by
 simp only [newFunctionEnv,Option.isSome_some,if_true];refine Wt (wpAny_alloc (Wt (wpAny_layCells _ (λname kind cells=>by cases hkc:kind==TJ <;> simp [hkc]) _ _ _ _ ?_)));rw [show({s with heap:=s.heap.push {cls:= .type "dict",data:= .dict #[]}}:Wv).heap.objs.size=s.heap.objs.size+1 from RX ..];rw [UI];exact Wt (Ww (Ww (hQ _ rfl ((Heap.Ns.new s.heap (.type "dict")).keeps (pushCells_keeps _ _)) λb o e=>pushCells_keeps _ _ b o (Py _ e))))
def ph(wi:TI)(g:TG)(tc:TT)(te:TE)(k:Nat)(fr:List Nat):TE:=λσ H Q=>wi σ H λJ H1=>∀D,H1 D=none->∃W:Nat->Nat->Hp->Prop,(∃m,W 0 m (ao H1 D (.lst [])))/\∀i m H,W i m H->
 (J.stop i H/\Q (.ref D) H)\/(J.go i H/\∀x H',J.yld i H x H'->g x (bF k fr σ) H' λσ2 H2=>pf (bF k fr σ) σ2/\tc σ2 H2 λok H3=>
  if ok=true then te σ2 H3 λy H4=>∃ys,H4 D=some (.lst ys)/\ys.length < WA/\∃m',m' < m/\W (i+1) m' (ao H4 D (.lst (ys++[y])))
  else ∃m',m' < m/\W (i+1) m' H3)
section
variable {X:Cx} {tg iter elt:WC} {ifs:List WC} {scope:WZ} {N':List Str} {k:Nat} {fr:List Nat} {wi:TI} {g:TG} {tc:TT} {te:TE} {pos:Pos}
theorem CJ{use:Option (Ws->Sem Unit)}{Q':Ws->Wv->Prop}{Yn:List (Wu×Obj)}{s:Wv}{σ:St}{H:Hp}{Q:VK}(hc:X.calm=true)(S:bO X.env.scope X.N N' k fr scope)(hi:PI X tg iter wi)
 (hg:∀fp C s H,PG (bR X scope N' fp C s H) tg g)(hf:∀fp C s H,l6 (bR X scope N' fp C s H) ifs tc)(he:∀fp C s H,PE (bR X scope N' fp C s H) elt te)
 (I:ag X Yn σ H s)(h:ph wi g tc te k fr σ H Q)
 (hQ:∀D C s' H',C≠X.env.locals->ag X Yn σ H' s'->(∀h',Sq C s'.heap h'->ag X Yn σ H' {s' with heap:=h'})->Q (.ref D) H'->(∃m,s'.heap.Ns C m)->X.env.locals < C->H' C=none/\(∀x c,X.env.cells.lookup x=some c->c≠C)/\(∀p∈X.pn++Yn,p.1≠C)->compPost (Wy X.prog X.w) X.A X.xe use Q' (.ref D) C (.ok .next) s'):
 Wx (Wy X.prog X.w) X.A (eval iter X.env) (λx s₁=>Wx (Wy X.prog X.w) X.A (pyIter x) (λit s₂=>Wx (Wy X.prog X.w) X.A (newList []) (λacc s₃=>
  Wx (Wy X.prog X.w) X.A (newFunctionEnv scope X.env.globals (mh X.env scope.names []) [] X.env.qual none .none (some X.env)) (λcenv s₄=>
   Xo (Wy X.prog X.w) X.A (.compStart (.ListComp elt [⟨tg,iter,ifs,0⟩] scope pos) 0 it acc {cenv with scope:=relabel scope X.env}) (compPost (Wy X.prog X.w) X.A X.xe use Q' acc cenv.locals) s₄) X.xe s₃) X.xe s₂) X.xe s₁) X.xe s:=by
 refine aC (hi Yn s σ H _ I h) λv s1 h1=>aC h1 λitv s2 h2=>?_;obtain⟨it,fp,tn,J,H2,e,I2,T,st2,f2,wW⟩:=h2;subst e;refine WQ ?_;have hD0:H2 s2.heap.objs.size=none:=I2.hok.fresh (PL _);obtain⟨W,⟨m0,w0⟩,turn⟩:=wW _ hD0;generalize hD:s2.heap.objs.size=D at*;have I3:ag X Yn σ (ao H2 D (.lst [])) {s2 with heap:=s2.heap.push {cls:= .type "list",dict:=none,data:= .seq ([]:List Ws).toArray}}:=by
  have:=I2.lnew (ys:=[]) (its:=[]) (t':=s2.toks) .nil (Rt _);rw [hD] at this;exact this
 generalize hs3:({s2 with heap:=s2.heap.push {cls:= .type "list",dict:=none,data:= .seq ([]:List Ws).toArray}}:Wv)=s3 at*;have up23:∀b o,s2.heap.get? b=some o->s3.heap.get? b=some o:=λb o e=>by rw [<-hs3];exact Py _ e
 have fpD:∀b∈fp,b≠D:=λb hb z=>by
  obtain⟨o,ho,_⟩:=T.obj _ _ st2 b hb;have:=PQ ho;rw [hD,z] at this;exact RP _ this
 have f3:∀b∈fp,mN X Yn (ao H2 D (.lst [])) b:=λb hb=>⟨by rw [ay (fpD b hb)];exact(f2 b hb).1,(f2 b hb).2⟩;have st3:tn 0 s3.heap:=T.keep _ _ _ st2 λb hb o e=>up23 b o e;have lt3:∀b∈fp,b < s3.heap.objs.size:=λb hb=>by obtain⟨o,ho,_⟩:=T.obj _ _ st3 b hb;exact PQ ho
 refine IC λh₁ e₁ hns₁ up34=>?_;have I4:=Iz S I3 f3 lt3 e₁ hns₁ up34;have st4:tn 0 h₁:=T.keep _ _ _ st3 λb hb o e=>up34 b o e;generalize hX':bR X scope N' fp s3.heap.objs.size s3 (ao H2 D (.lst []))=X' at*;have hg':PG X' tg g:=by rw [<-hX'];exact hg _ _ _ _
 have hf':l6 X' ifs tc:=by rw [<-hX'];exact hf _ _ _ _
 have he':PE X' elt te:=by rw [<-hX'];exact he _ _ _ _
 have eP:X'.prog=X.prog:=by rw [<-hX'];rfl
 have eW:X'.w=X.w:=by rw [<-hX'];rfl
 have eK:X'.K=X.K:=by rw [<-hX'];rfl
 have eA:X'.A=X.A:=by rw [<-hX'];rfl
 have eC:X'.calm=true:=by rw [<-hX'];exact hc
 have eE:X'.xe=λ_ _=>False:=by rw [<-hX'];rfl
 have eEnv:X'.env=compEnvC scope (uD X scope s3.heap.objs.size) s3.heap.objs.size X.env:=by rw [<-hX'];rfl
 have fpx:∀{H':Hp},(∀b∈fp,H' b=none)->∀b∈fp,mN X' [] H' b:=λ{H'} hn b hb=>by
  refine⟨hn b hb,?_,?_,.inl ?_,?_,?_⟩
  ·rw [eEnv];exact QF (lt3 b hb)
  ·have:=I4.ok.exfs b (by rw [<-hX'];exact hb);exact this
  ·rw [<-hX'];exact hb
  ·have:=I4.ok.exf b (by rw [<-hX'];exact hb);exact this.2
  ·intro p hp;rw [<-hX'] at hp;simp [bR] at hp
 have fin:∀(s':Wv)(H':Hp)(σ':St),ag X' [] σ' H' s'->Q (.ref D) H'->compPost (Wy X.prog X.w) X.A X.xe use Q' (.ref D) s3.heap.objs.size (.ok .next) s':=λs' H' σ' J q=>by
  have un:Un (cF X.stack) fp (ao H2 D (.lst [])) H' s3.heap s'.heap:=by have:=J.base;rw [<-hX'] at this;exact this
  have jos:s'.os=s3.os:=by have:=J.os;rw [<-hX'] at this;exact this
  have hC:H' s3.heap.objs.size=none:=by have:=J.free;rw [eEnv] at this;exact this
  have hok':bQ X.prog X.w H' s'.heap:=by have:=J.hok;rw [eP,eW] at this;exact this
  have nN:∀h',Sq s3.heap.objs.size s'.heap h'->ag X Yn σ H' {s' with heap:=h'}:=λh' hs'=>by
   have un':Un (cF X.stack) fp (ao H2 D (.lst [])) H' s3.heap h':=
    ⟨λb o e n h1 h2=>hs'.extBut b o (QF (PQ e)) (un.keep b o e n h1 h2),λb o e n h1 h2=>by
     obtain⟨sl,z⟩:=un.slot b o e n h1 h2;exact⟨sl,hs'.extBut b _ (QF (PQ e)) z⟩,un.free,λb o e h2=>by
     obtain⟨o',z⟩:=un.there b o e h2;exact⟨o',hs'.extBut b o' (QF (PQ e)) z⟩,un.tups,un.frzs,un.tbls⟩
   exact ag.call' (s':={s' with heap:=h'}) I3 jos un' (hok'.but hC hs'.extBut) J.bare λb hb=>⟨(f3 b hb).2.2.2.1,(f3 b hb).2.1,(f3 b hb).2.2.2.2.1,(f3 b hb).2.2.2.2.2⟩
  have nsC:∃m,s'.heap.Ns s3.heap.objs.size m:=by
   obtain⟨m,hn,_⟩:=J.loc;rw [eEnv] at hn;exact⟨m,hn⟩
  exact hQ D s3.heap.objs.size s' H' (Sr I3.lt) (nN s'.heap (.refl ..)) nN q nsC I3.lt
   ⟨hC,λx c e=>by obtain⟨v,o,ho,_⟩:=I3.cell x c e;exact QF (PQ ho),λp hp=>QF (PQ (I3.pin p hp).1)⟩
 have loop:∀s4:Wv,s4=({s3 with heap:=h₁}:Wv)->
  Xo (Wy X.prog X.w) X.A (.compLoop (.ListComp elt [⟨tg,iter,ifs,0⟩] scope pos) 0 (.ref it) (.ref D) X'.env) (compPost (Wy X.prog X.w) X.A X.xe use Q' (.ref D) s3.heap.objs.size) s4:=by
  rintro s4 rfl;refine IA (λn s'=>∃i H',ag X' [] (bF k fr σ) H' s'/\tn i s'.heap/\(∀b∈fp,H' b=none)/\W i n H') ?_ m0 ⟨0,_,I4,st4,λb hb=>(f3 b hb).1,w0⟩;rintro n s5 ⟨i,H5,I5,st5,fr5,w5⟩;rcases turn i n H5 w5 with⟨stop,qn⟩ | ⟨go,step⟩
  ·have:=T.done X' eP eW eK eC i [] s5 _ H5 (λ_ _=>False) I5 (fpx fr5) st5 stop;rw [eA] at this;refine aC this λr s6 ⟨hr,I6⟩=>?_;subst hr;exact fin s6 H5 _ I6 qn
  ·have:=T.item X' eP eW eK eC i [] s5 _ H5 (λ_ _=>False) I5 (fpx fr5) st5 go;rw [eA] at this;refine aC this λr s6 ⟨u,hr,h6⟩=>?_;subst hr;refine aC h6 λ_ s7 ⟨x,H7,I7,r7,y7,st7,fr7⟩=>?_;have I7':=I7.pinned (fpx fr7) (T.obj _ _ st7);have h8:=hg' _ s7 _ H7 x u _ I7' r7 (step x H7 y7);rw [eP,eW,eA,eE] at h8;refine aC h8 λ_ s8 ⟨σ8,H8,I8,kp,q8⟩=>?_;have h9:=hf' _ s8 σ8 H8 _ I8 q8;rw [eP,eW,eA,eE] at h9;have again:∀{s9:Wv}{H9:Hp}{n':Nat},ag X' ([]++sH fp s7.heap) σ8 H9 s9->n' < n->W (i+1) n' H9->∃m,m < n/\∃i H',ag X' [] (bF k fr σ) H' s9/\tn i s9.heap/\(∀b∈fp,H' b=none)/\W i m H':=λ{s9 H9 n'} I9 hn' w9=>by
    refine⟨n',hn',i+1,H9,I9.unpinned.weak kp.1 kp.2,T.keep _ _ _ st7 λb hb o e=>(I9.pin (b,o) (Rr _ (Rr _ (um hb e)))).1,λb hb=>?_,w9⟩;obtain⟨o,e,d⟩:=T.obj _ _ st7 b hb;exact(I9.pin (b,o) (Rr _ (Rr _ (um hb e)))).2.1
   refine aC h9 λok s9 ⟨H9,I9,q9⟩=>?_;cases ok with
   | false=>
    rw [Wm Qr] at q9;obtain⟨m',hm',w9⟩:=q9;rw [Wm Qr];exact again I9 hm' w9
   | true=>
    rw [Wn rfl] at q9;rw [Wn rfl];have h10:=he' _ s9 σ8 H9 _ I9 q9;rw [eP,eW,eA,eE] at h10;refine aC h10 λy s10 ⟨yv,H10,I10,r10,ys,hys,hz,m',hm',w10⟩=>?_;have h11:=CA (X:=X') _ s10 σ8 H10 (.ref D) [yv] (.ref D) [y] (λ_ H'=>W (i+1) m' H') I10 rfl (.cons r10 .nil) ⟨D,ys,yv,rfl,rfl,hys,hz,w10⟩;rw [eP,eW,eA,eE] at h11;exact aC h11 λ_ s11 uu68=>by obtain⟨_,H11,I11,_,q11⟩:=uu68;exact again I11 hm' q11
 have hE:({newEnv scope s3.heap.objs.size X.env.globals (uD X scope s3.heap.objs.size) X.env.qual none .none (some X.env) builtinsNs with scope:=relabel scope X.env}:Env)=X'.env:=by
  rw [eEnv];rfl
 have goal:=codeAny_compStart_list (elt:=elt) (target:=tg) (iter:=iter) (ifs:=ifs) (rest:=[]) (scope:=scope) (pos:=pos) (loop _ rfl) (T.self X.A 0 _ _ _ st4 (loop _ rfl));rw [<-hE] at goal;exact goal
theorem qc(hc:X.calm=true)(S:bO X.env.scope X.N N' k fr scope)(hi:PI X tg iter wi)
 (hg:∀fp C s H,PG (bR X scope N' fp C s H) tg g)(hf:∀fp C s H,l6 (bR X scope N' fp C s H) ifs tc)(he:∀fp C s H,PE (bR X scope N' fp C s H) elt te)
 (hs:∀x,WN iter X.env x=pure x:=by intro _;rfl):PE X (.ListComp elt [⟨tg,iter,ifs,0⟩] scope pos) (ph wi g tc te k fr):=by
 intro Yn s σ H Q I h;have hcell:∀y∈scope.names,y.2= .free->∃c,X.env.cells.lookup y.1=some c:=λy hy e=>I.ok.has y.1 (S.outer y hy e);rw [eval_ListComp];refine Yl (use:=none) rfl hs (CF hcell) S.kind S.names (CJ hc S hi hg hf he I h ?_);intro D C s' H' hC J nN q ns hlt _;obtain⟨m,hn⟩:=ns;exact⟨m,hn,λh' hs'=>⟨.ref D,H',nN h' hs',rfl,q⟩⟩
theorem ID{i:Nat}{x:Str}{pos' spos:Pos}(hN:X.N.Nodup)(hxi:X.N[i]?=some x)(hx:nH X.env.scope x)(hc:X.calm=true)(S:bO X.env.scope X.N N' k fr scope)(hi:PI X tg iter wi)
 (hg:∀fp C s H,PG (bR X scope N' fp C s H) tg g)(hf:∀fp C s H,l6 (bR X scope N' fp C s H) ifs tc)(he:∀fp C s H,PE (bR X scope N' fp C s H) elt te)
 (hsw:W2 (.ListComp elt [⟨tg,iter,ifs,0⟩] scope pos) (some (.Name x pos')) spos.line X.env=pure true)
 (hs:∀x,WN iter X.env x=pure x:=by intro _;rfl)(hfn:X.fn x=true\/X.env.scope.names.lookup x=some .local:=by first | exact .inl rfl | exact .inr rfl | assumption):
 PS X (.Assign [.Name x pos'] (.ListComp elt [⟨tg,iter,ifs,0⟩] scope pos) spos) (qN (ph wi g tc te k fr) (nh i)):=by
 intro Yn s σ H D I h;have hcell:∀y∈scope.names,y.2= .free->∃c,X.env.cells.lookup y.1=some c:=λy hy e=>I.ok.has y.1 (S.outer y hy e);rw [exec_Assign_Name_used _ _ _ _ hsw];refine Wt (Xu (Wt ?_));show Wx _ X.A (do let _<-comprehension (.ListComp elt [⟨tg,iter,ifs,0⟩] scope pos) scope X.env _ (newList []) false (eval iter X.env) (some (assign (.Name x pos') X.env))) _ _ s;refine Wt (WR (Yl (use:=some (assign (.Name x pos') X.env)) (Q:=λ_ s'=>∃σ' H',ag X Yn σ' H' s'/\D.nx σ' H') rfl hs (CF hcell) S.kind S.names (CJ hc S hi hg hf he I h ?_)) (λ_ s' hq=>Ww (Ww hq)) λ_ _ e=>e);intro D' C s' H' hC J nN q ns hlt ⟨c1,c2,c3⟩;obtain⟨m,hn⟩:=ns;show Wx _ X.A (assign (.Name x pos') X.env (.ref D')) _ _ _;refine wpAny_assign_Name (BW J hN hxi hx (v:= .ref D') rfl (λs2 J2 sb=>?_) hfn);obtain⟨a,sb,ha⟩:=sb;have hCa:C≠a:=by
  rcases ha with z | z
  ·rw [z];exact hC
  ·exact Ne.symm (c2 _ _ z)
 refine⟨m,hn.sameBut sb hCa,λh3 hs3=>⟨_,H',?_,q⟩⟩;exact J2.turned (t':=s2.toks) hs3.extBut c1 hC (.inr (Qt J.ok.above (SX hlt))) c2 c3
end
section
variable {X:Cx}
theorem IE:bC X (W7 .Mult) (rI IntMulOk λi j=>.int (i*j)):=sJ λ_ _ _ _ _ _ _ hc q=>mul_int q hc
theorem x5(hc:X.calm=true):kA X (.builtin "sum") (λxs H Q=>∃(a:Wu)(ns:List Int),xs=[.ref a]/\bf X.K H a (ns.map V.int)/\Q (.int ns.sum) H):=by
 intro Yn s σ H xs us Q I r h;obtain⟨a,ns,rfl,hl,q⟩:=h;obtain⟨u,rfl,rx⟩:=lh r;cases rx;obtain⟨its,rv,p,hz⟩:=I.list hl;have hi:IntsAre its ns:=HL rv;have hall:AllInts its.toArray:=hi.allInts;obtain⟨ys,hys⟩:=hall.items;have hn:numsOf its.toArray.toList=ns:=by rw [show its.toArray.toList=its from rfl,hi.numsOf]
 rw [hys,nums_intItems] at hn;have hl':=p.isList;rw [hys] at hl';refine sum_intListG (I.ok.hd hc) hl' λh' tk t' hk=>?_;refine⟨.int ns.sum,H,I.kept hk,⟨t',?_⟩,q⟩;rw [preSum_eq,RH Wq,hn]
theorem IF:kA X (.builtin "isinstance") (λxs H Q=>∃x T t b,xs=[x,.ty T]/\my X.K H x t/\SE X.K t (.type T)=some b/\Q (.bl b) H):=by
 intro Yn s σ H xs us Q I r h;obtain⟨x,T,t,b,rfl,ty,e,q⟩:=h;obtain⟨u,w',rfl,rx,rt⟩:=p5 r;cases rt;exact HA I rx ty e λtk=>⟨.bl b,H,I.tok tk,rfl,q⟩
end
end L2
namespace Att
open PySem PySem.W PySem.Calls PyProof.Rows
theorem IG{ns:List Int}(h:VB [Uk (ns.map SN)]=true):∀n∈ns,Rl n<=1048576:=by
 have h1:(Uk (ns.map SN)).layable=true:=by simpa [VB] using h
 have h2:(Uk (ns.map SN)).weight<=1048576:=(PySem.W.layableW_iff.mp h1).2.2;have key:∀l:List Int,∀n∈l,Rl n<=Td (l.map SN):=by
  intro l
  induction l with
  | nil=>intro n hn;simp at hn
  | cons x r ih=>
   intro n hn;have e:Td ((x::r).map SN)=Rl x+1+Td (r.map SN):=by
    rw [Pw,Td,V5];rfl
   rw [e];rcases Pz.mp hn with z | z
   ·subst z;omega
   ·have:=ih n z;omega
 intro n hn;have e:(Uk (ns.map SN)).weight=Td (ns.map SN):=by rw [V5]
 rw [e] at h2;exact Qt (key ns n hn) h2
theorem attach_callB{l:OpenLaw}{n:Nat}{q:WH}{loose:List Str}{XP:(Str->Option Ws)->WG->Prop}{YP:WJ->WG->Prop}{d:DefRec}
 (hn:l.most=some n)(hdf:d.params.defaults=[])
 (call:∀(w:WJ) (s₀ s₁:Wv) (mg mb:Str->Option Ws) (fa:Wu) (o:Obj) (pm cd doc:Ws) (a:Wu) (vs:List Ws) (ns:List Int),
  Ground q loose [] XP w s₀ mg mb s₁.heap->YP w s₁.heap->
  s₁.heap.get? fa=some o->o.data= .func (docDef d.name d.params d.body d.scope pm cd doc)->s₁.heap.CodeRec cd d.name->mg d.name=some (.ref fa)->
  s₁.heap.get? a=some {cls:= .type "list",data:= .seq vs.toArray}->IntsAre vs ns->ns.length<=n->(∀z∈ns,Rl z<=1048576)->s₁.gens=#[]->
  Xo (Wy l.prog w) callerA (.call (.ref fa) ⟨[.ref a],[]⟩) (λr s'=>r= .ok (.ret (.bool true))/\OldK s₁.heap s'.heap/\s'.os=s₁.os/\XJ s'.gens) s₁):
 WalkO q loose XP YP l.row.toRowW d [] (λf vs=>VH f vs):=by
 intro w s₀ s₁ mg mb G Y fa o pm cd doc dV kV ho hd hcd hD hmg hg args vals as hpre hlay hrd hwl hlo;obtain rfl:dV= .none:=Dflts.none hD hdf;obtain rfl:kV= .none:=Dflts.noKw hD;obtain⟨a,vs,ns,rfl,rfl,hobj,hints,hlen⟩:=Ip hn hpre hwl;have hb:∀z∈ns,Rl z<=1048576:=IG hlay;refine enter_call (Xe (call w s₀ s₁ mg mb fa o pm cd doc a vs ns G Y ho (fd_plain hd) hcd hmg hobj hints hlen hb hg) λr s' hq=>?_);obtain⟨rfl,h2,h3,h4⟩:=hq;exact⟨.inl ⟨.bool true,.bool true,[],rfl,λ_=>rfl,.bool true,Iq l _,λ_=>⟨List.Pairwise.nil,λ_ hm=>(nomatch hm)⟩⟩,h2,h3,h4⟩
end Att
namespace L2
open PySem PySem.Spec PyProof.Rows
theorem IH{l:VI}{n k:Nat}{q:WH}{loose:List Str}{XP:(Str->Option Ws)->WG->Prop}{YP:WJ->WG->Prop}{d:DefRec}{K:Params->Pq}{CX:WJ->kR}{sp:WJ->Sp}{x:Str}
 (hn:l.most=some n)(hn2:n<=WA)(hdf:d.params.defaults=[])(hr:bN k callerA)
 (hY:∀(w:WJ) (h:WG),YP w h->(K w.params).In h)
 (F:∀(w:WJ) (mg:Str->Option Ws) (fa:Wu) (h:WG),(K w.params).In h->h.Ns WE mg->mg d.name=some (.ref fa)->
  ∃fd:WD,(∀(s:Wv) (u:Ws),BindsTo s fd ⟨[u],[]⟩ [(x,u)])/\
   ∀base:WG,(K w.params).In base->base.Ns WE mg->aF l.prog w (K w.params) mg base (CX w) k fa fd [x] (sp w))
 (hsp:∀(w:WJ) (H:Hp) (a:Wu) (ns:List Int),ns.length<=n->(∀z∈ns,Rl z<=1048576)->uB H->bf (K w.params) H a (ns.map V.int)->sp w [.ref a] H (λv _=>v= .bl true) λ_ _ _=>False)
 (hCX:∀(w:WJ) (H:Hp) (s:Wv) (e:Ws) (s':Wv),CX w [] H s (λ_ _ _=>False) e s'->False):
 VZ q loose XP YP l.row.toRowW d [] (λf vs=>VH f vs):=by
 refine Att.attach_callB hn hdf λw s₀ s₁ mg mb fa o pm cd doc a vs ns G Y ho hd hcd hmg hobj hints hlen hb hg=>?_;have KX:=hY w _ Y;obtain⟨fd,hbi,hF⟩:=F w mg fa _ KX G.T.g hmg;exact Ir KX G.T.g G.T.b G.T.builtins G.T.nolimit hg hobj hints (Qt hlen hn2) hr hF hbi (λH hO hS=>hsp w H a ns hlen hb hO hS) λH e s'=>hCX w H s₁ e s'
theorem walk_ofBK{l:VI}{n k:Nat}{q:WH}{loose:List Str}{XP:(Str->Option Ws)->WG->Prop}{YP:WJ->WG->Prop}{d:DefRec}{K:Params->Pq}{CX:kR}{sp:Pq->Sp}{x:Str}
 (hn:l.most=some n)(hn2:n<=WA)(hdf:d.params.defaults=[])(hr:bN k callerA)
 (hY:∀(w:WJ) (h:WG),YP w h->(K w.params).In h)
 (F:∀(w:WJ) (mg:Str->Option Ws) (fa:Wu) (h:WG),(K w.params).In h->h.Ns WE mg->mg d.name=some (.ref fa)->
  ∃fd:WD,(∀(s:Wv) (u:Ws),BindsTo s fd ⟨[u],[]⟩ [(x,u)])/\
   ∀base:WG,(K w.params).In base->base.Ns WE mg->aF l.prog w (K w.params) mg base CX k fa fd [x] (sp (K w.params)))
 (hsp:∀(K:Pq) (H:Hp) (a:Wu) (ns:List Int),ns.length<=n->(∀z∈ns,Rl z<=1048576)->uB H->bf K H a (ns.map V.int)->sp K [.ref a] H (λv _=>v= .bl true) λ_ _ _=>False)
 (hCX:∀(H:Hp) (s:Wv) (e:Ws) (s':Wv),CX [] H s (λ_ _ _=>False) e s'->False):
 VZ q loose XP YP l.row.toRowW d [] (λf vs=>VH f vs):=
 IH (K:=K) (CX:=λ_=>CX) (sp:=λw=>sp (K w.params)) hn hn2 hdf hr hY F (λw H a ns h1 hb h2 h3=>hsp (K w.params) H a ns h1 hb h2 h3) λ_ H s e s'=>hCX H s e s'
def nM(p:Wu)(H H':Hp):Prop:=∀b o,H b=some o->b≠p->H' b=some o
theorem aq.new{H:Hp}{p:Wu}{o:HO}(h:H p=none):aq H (ao H p o):=λb u e=>by rw [ay (ky e h)];exact e
def FR(J:It)(g:TG)(tb:TS)(D:nI)(σ:St)(H1:Hp):Prop:=∃W:Nat->Nat->St->Hp->Prop,(∃m,W 0 m σ H1)/\∀i m σ H,W i m σ H->
 (J.stop i H/\D.nx σ H)\/(J.go i H/\∃N:St->Hp->Prop,(∀σ' H',N σ' H'->∃m',m' < m/\W (i+1) m' σ' H')/\∀x H',J.yld i H x H'->g x σ H' λσ2 H2=>tb {D with nx:=N,ct:=N,bk:=D.nx} σ2 H2)
theorem CK{ta:TA}{g:TG}{tb:TS}:sG (wN ta) g tb=λD σ H=>ta σ H λvs H1=>∃j:Int,vs=[.int j]/\-(2 ^ 62)<=j/\j < 2 ^ 62/\FR (nJ 0 j.toNat) g tb D σ H1:=rfl
theorem CL{ta:TA}{g:TG}{tb:TS}:sG (wO ta) g tb=λD σ H=>ta σ H λvs H1=>∃i j:Int,vs=[.int i,.int j]/\(-(2 ^ 62)<=i/\i < 2 ^ 62/\-(2 ^ 62)<=j/\j < 2 ^ 62)/\FR (nJ i (j - i).toNat) g tb D σ H1:=rfl
theorem CM{K:Pq}{tl:TE}{g:TG}{tb:TS}:sG (wL K tl) g tb=λD σ H=>tl σ H λx H1=>∃a,x= .ref a/\(∃xs,bf K H1 a xs)/\FR (sE K a) g tb D σ H1:=rfl
theorem CN{K:Pq}{tl:TE}{g:TG}{tb:TS}:sG (wM K tl) g tb=λD σ H=>tl σ H λx H1=>∃a,x= .ref a/\(∃xs,aY K H1 a xs)/\FR (sF K a) g tb D σ H1:=rfl
def pj(J:It)(g:TG)(tc:TT)(te:TE)(k:Nat)(fr:List Nat)(σ:St)(H1:Hp)(Q:VK):Prop:=∀D,H1 D=none->∃W:Nat->Nat->Hp->Prop,(∃m,W 0 m (ao H1 D (.lst [])))/\∀i m H,W i m H->
 (J.stop i H/\Q (.ref D) H)\/(J.go i H/\∀x H',J.yld i H x H'->g x (bF k fr σ) H' λσ2 H2=>pf (bF k fr σ) σ2/\tc σ2 H2 λok H3=>
  if ok=true then te σ2 H3 λy H4=>∃ys,H4 D=some (.lst ys)/\ys.length < WA/\∃m',m' < m/\W (i+1) m' (ao H4 D (.lst (ys++[y])))
  else ∃m',m' < m/\W (i+1) m' H3)
theorem CO{ta:TA}{g:TG}{tc:TT}{te:TE}{k:Nat}{fr:List Nat}:ph (wN ta) g tc te k fr=λσ H Q=>ta σ H λvs H1=>∃j:Int,vs=[.int j]/\-(2 ^ 62)<=j/\j < 2 ^ 62/\pj (nJ 0 j.toNat) g tc te k fr σ H1 Q:=rfl
theorem CP{ta:TA}{g:TG}{tc:TT}{te:TE}{k:Nat}{fr:List Nat}:ph (wO ta) g tc te k fr=λσ H Q=>ta σ H λvs H1=>∃i j:Int,vs=[.int i,.int j]/\(-(2 ^ 62)<=i/\i < 2 ^ 62/\-(2 ^ 62)<=j/\j < 2 ^ 62)/\pj (nJ i (j - i).toNat) g tc te k fr σ H1 Q:=rfl
theorem CQ{K:Pq}{tl:TE}{g:TG}{tc:TT}{te:TE}{k:Nat}{fr:List Nat}:ph (wL K tl) g tc te k fr=λσ H Q=>tl σ H λx H1=>∃a,x= .ref a/\(∃xs,bf K H1 a xs)/\pj (sE K a) g tc te k fr σ H1 Q:=rfl
theorem CS{K:Pq}{tl:TE}{g:TG}{tc:TT}{te:TE}{k:Nat}{fr:List Nat}:ph (wM K tl) g tc te k fr=λσ H Q=>tl σ H λx H1=>∃a,x= .ref a/\(∃xs,aY K H1 a xs)/\pj (sF K a) g tc te k fr σ H1 Q:=rfl
theorem CT{fr:List Nat}{σ:St}{v:Option V}:pf (bF 1 fr σ) ((bF 1 fr σ).set 0 v):=by
 refine⟨Wq,λi w h=>?_⟩;cases i with
 | zero=>simp [bF,PH] at h
 | succ i=>simpa [bF,PH] using h
theorem II{lo:Int}{n:Nat}{te:TE}{fr:List Nat}{σ:St}{H:Hp}{Q:VK}(f:Nat->V)(hn:n<=1000000)
 (ht:∀(i:Nat) (H':Hp) (R:VK),i < n->aq H H'->(∀H'',aq H' H''->R (f i) H'')->te ((bF 1 fr σ).set 0 (some (.int (lo+i)))) H' R)
 (hq:∀D H',H D=none->aq H H'->H' D=some (.lst ((Rx n).map f))->Q (.ref D) H'):pj (nJ lo n) (nh 0) CH te 1 fr σ H Q:=by
 intro D hD;refine⟨λi m H'=>m=n - i/\i<=n/\aq H H'/\H' D=some (.lst ((Rx i).map f)),⟨n,Wq,Rt _,aq.new hD,by rw [bu];rfl⟩,?_⟩;rintro i m H1 ⟨rfl,hi,s1,e1⟩;by_cases hlt:i < n
 ·refine .inr ⟨hlt,λx H' y=>?_⟩;obtain⟨e,y⟩:=y;subst e y;refine⟨CT,?_⟩;show te _ _ _;refine ht i H' _ hlt s1 λH2 s2=>?_;refine⟨_,s2 D _ e1,?_,n - (i+1),Ce,rfl,hlt,?_,?_⟩
  ·rw [PB,SW,WI];omega
  ·exact λb o h=>by rw [ay (ky h hD)];exact s2 b o (s1 b o h)
  ·rw [bu,SQ,RE];rfl
 ·have e:i=n:=Ce
  subst e;exact .inl ⟨PL _,hq D H1 hD s1 e1⟩
theorem cxK{CX:kR}{P:WH}{w:WJ}{K:Pq}{mg:Str->Option Ws}{base:WG}{N:List Str}{qual:Str}{scope:WZ}{f:Wu}{cd:Ws}{A:WL}{outer:List Env}{s:Wv}{H:Hp}{E:XK}:(j9 CX P w K mg base N qual scope f cd A outer s H E).K=K:=rfl
theorem cmK{X:Cx}{scope:WZ}{N':List Str}{fp:List Wu}{C:Wu}{s:Wv}{H:Hp}:(bR X scope N' fp C s H).K=X.K:=rfl
theorem CU{K:Pq}{p:Wu}{xs:List V}{i:Int}{v:V}{H:Hp}{Q:VK}(h:bf K H p xs)(hv:atI xs i=some v)(q:Q v H):xR K (.ref p) (.int i) H Q:=⟨p,xs,i,v,rfl,rfl,h,hv,q⟩
theorem uE{K:Pq}{p:Wu}{xs:List V}{i:Int}{v:V}{H:Hp}{Q:VK}(h:aY K H p xs)(hv:atI xs i=some v)(q:Q v H):uA K (.ref p) (.int i) H Q:=⟨p,xs,i,v,rfl,rfl,h,hv,q⟩
theorem CV{α:Type}{xs:List α}{i:Int}(h0:0<=i)(h1:i < xs.length):∃v,atI xs i=some v/\v∈xs:=by
 obtain⟨j,rfl⟩:=Q0 h0;have hj:j < xs.length:=Ce
 exact⟨xs[j],nK (by simp [hj]),R9 hj⟩
theorem IJ:WO "divmod"=some (.builtin "divmod"):=td
theorem lE:WO "isinstance"=some (.builtin "isinstance"):=td
theorem ni:WO "int"=some (.type "int"):=td
theorem sS:WO "bool"=some (.type "bool"):=td
theorem mP:WO "str"=some (.type "str"):=td
theorem k6:WO "tuple"=some (.type "tuple"):=td
theorem qf:WO "list"=some (.type "list"):=td
open PySem PySem.Spec PyProof.Rows PySem.W
theorem bQ.hide{P:WH}{w:WJ}{H:Hp}{h:WG}{as:List Wu}(x:bQ P w H h)(hn:∀b∈as,H b=none):bQ P w H (hideAll h as):=λa o e=>by
 refine(x a o e).stay (λb u hb q=>X9 _ q λhm=>?_) (λ_ q=>q) (λ_ _ q=>q) λ_ _ q=>q;have z:=hn b hm;rcases hb with r | r
 ·rw [r] at z;rw [z] at e;cases e
 ·rw [z] at r;cases r
theorem IK{K:Pq}{h:WG}{mg:Str->Option Ws}{x:Str}{C:Wu}{bmB:List Ws}{newId:String}(X:K.In h)(hm:mg x=some (.ref C))(q:TK K C bmB newId=true):OwnCls x C bmB newId mg h:=by
 refine⟨hm,?_⟩;unfold TK at q;split at q
 ·rename_i dd cd sl ho;split at q
  ·rename_i C' bm k0 k1 k2 k3 n k5 hm hs;simp only [P6,beq_iff_eq,P5] at q;obtain⟨⟨⟨⟨⟨rfl,rfl⟩,hdel⟩,ht⟩,hok⟩,hni⟩:=q;obtain⟨nm,bs,mro,ns,qn,hd,sn,sub,ab,col,del⟩:=cd;dsimp only at hm hdel hok hni;subst hm hdel;have hsl:sl=#[k0,k1,k2,k3,some (.builtin n),k5]:=by
    obtain⟨l⟩:=sl;simp only at hs;rw [hs]
   subst hsl;exact⟨bm,ns,nm,qn,bs,hd,sn,sub,ab,col,dd,k0,k1,k2,k3,k5,_,X _ _ ho,.of_isNs (isNs_of_in X hok),nsMap_none_of_in X hok hni,tail_of_in X ht⟩
  ·cases q
 ·cases q
section
variable {M:XM} {A:WL} {E:Ws->Wv->Prop}
variable {nm q:Str} {C N:Wu} {bs bm:List Ws} {hdct:Bool} {sn:List Str} {sub:List Ws} {ab:Bool} {col:Option Bool} {dd:Option Wu} {k0 k1 k2 k3 k5:Option Ws} {newId:String}
variable {nm' q':Str} {C' N':Wu} {bs' bm':List Ws} {hdct':Bool} {sn':List Str} {sub':List Ws} {ab':Bool} {col':Option Bool} {dd':Option Wu} {k0' k1' k2' k3' k5':Option Ws} {newId':String}
theorem CW{h:WG}{g:Array XT}{d:Drawn}{t:Nat}{os:OsState}{e:Wu}{oe:Obj}{Q:Bool->Wv->Prop}
 (hC:h.get? C=some (W5 nm q C N bs bm hdct sn sub ab col dd k0 k1 k2 k3 k5 newId))(hC':h.get? C'=some (W5 nm' q' C' N' bs' bm' hdct' sn' sub' ab' col' dd' k0' k1' k2' k3' k5' newId'))
 (he:h.get? e=some oe)(hcls:oe.cls= .ref C)(hbase:bm'.contains (.type "BaseException")=true)(hin:(Qy C::bm).contains (.ref C')=true)
 (hq:Q true ⟨h,g,d,t,os⟩):Wx M A (excMatches (.ref e) (.ref C')) Q E ⟨h,g,d,t,os⟩:=by
 have hcB:(Qy C'::bm').contains (.type "BaseException")=true:=by rw [TZ,hbase,Ur]
 have f:=tc_notTuple;unfold excMatches
 repeat (first | (with_reducible refine WW he ?_;rw [hcls]) | with_reducible refine WW hC' ?_ | (with_reducible refine Xs hC' ?_;rw [hcB]) | (with_reducible refine Xs hC ?_;rw [hin]) | wp_step)
 exact hq
end
section
variable {X:Cx} {Yn:List (Wu×Obj)} {σ:St} {H:Hp} {s:Wv}
theorem IL{M:XM}{A:WL}{E:Ws->Wv->Prop}{i:Nat}{x:Str}{pos:Pos}{Q:Unit->Wv->Prop}(I:ag X Yn σ H s)(hN:X.N.Nodup)(hi:X.N[i]?=some x)(hx:X.env.scope.names.lookup x=some .local)
 (h:∀s',ag X Yn (σ.set i none) H s'->Q () s'):Wx M A (do bindName X.env x .none;unbindBehindTheSuite X.env x pos) Q E s:=by
 have hcls:(X.env.scope.kind== .class || (X.env.scope.kind== .module && X.env.locals !=X.env.globals))=false:=by rw [I.ok.kind];rfl
 have hiσ:i < σ.length:=by rw [I.len];exact(Ql.mp hi).1
 refine Wt (wpAny_bindName (pT I hN hi (.inl hx) (v:= .non) rfl (λs1 I1=>?_) (.inr hx)));obtain⟨m,hn,hl⟩:=id I1.loc;obtain⟨u0,r0,lk⟩:=hl i x .non hi (by rw [Rg hiσ]) (.inl hx);have hv:∃v,m x=some v:=by
  rcases lk with⟨_,z⟩ | ⟨z,_⟩
  ·exact⟨_,z⟩
  ·rcases z with z | z
   ·exact absurd (z.symm.trans hx) Wq
   ·exact absurd (z.symm.trans hx) Wq
 obtain⟨v,hv⟩:=hv;unfold unbindBehindTheSuite;refine Yi (WR (wpAny_unbindName_local (E:=λ_ _=>False) hx hn hv hcls λh' u hn' hs=>?_) (λ_ _ z=>z) λ_ _ z=>z.elim);obtain⟨oL,_,_,hoL,_⟩:=id hn;have cne:=I1.cne;have tracked:bQ X.prog X.w H h':=λb ob e=>by
  refine(I1.hok b ob e).stay (λc w' hc q=>(hs.2 c ?_).trans q) (λ_ q=>q) (λ_ _ q=>q) λ_ _ q=>q;rintro rfl;rcases hc with z | hc
  ·rw [<-z,I1.free] at e;cases e
  ·rw [I1.free] at hc;cases hc
 refine h _ ⟨I1.ok,I1.os,I1.bare,⟨λb o e n hb hx'=>?_,λb o e n hb hx'=>?_,I1.base.free,λb o e hx'=>?_,I1.base.tups,I1.base.frzs,I1.base.tbls⟩,⟨_,hn',λj y v' e1 e2 e3=>?_⟩,λy c e=>?_,I1.free,I1.freeC,λp hp=>?_,tracked,by simpa using I.len⟩
 ·exact(hs.2 b (QF (QX (PQ e) I.ok.above))).trans (I1.base.keep b o e n hb hx')
 ·obtain⟨sl,e1⟩:=I1.base.slot b o e n hb hx';exact⟨sl,(hs.2 b (QF (QX (PQ e) I.ok.above))).trans e1⟩
 ·obtain⟨o',e1⟩:=I1.base.there b o e hx';exact⟨o',(hs.2 b (QF (QX (PQ e) I.ok.above))).trans e1⟩
 ·by_cases hj:j=i
  ·subst hj;rw [Rg hiσ] at e2;cases e2
  ·rw [Q3 (Ne.symm hj)] at e2;obtain⟨u',r',q⟩:=hl j y v' e1 (by rw [Q3 (Ne.symm hj)];exact e2) e3;refine⟨u',r',?_⟩;rcases q with⟨k,e⟩ | ⟨k,c,e,z⟩
   ·refine .inl ⟨k,?_⟩;have:y≠x:=λe=>hj (v7 hN e1 (e▸hi));simp [this,e]
   ·exact .inr ⟨k,c,e,z.sameBut hs (cne y c e)⟩
 ·obtain⟨w',z⟩:=I1.cell y c e;exact⟨w',z.sameBut hs (cne y c e)⟩
 ·obtain⟨e,n,ne,nf,d⟩:=I1.pin p hp;exact⟨(hs.2 p.1 ne).trans e,n,ne,nf,d⟩
end
def kS(e:Wu)(C:Ws)(h:WG):Prop:=∃o,h.get? e=some o/\o.cls=C
theorem bI.there{P:WH}{w:WJ}{H:Hp}{h:WG}{a:Wu}{o:HO}(x:bI P w H h a o):∃ob,h.get? a=some ob:=by
 cases o with
 | lst xs=>obtain⟨_,_,_,_,e⟩:=x;exact⟨_,e⟩
 | tup xs=>obtain⟨_,_,_,ob,e,_⟩:=x;exact⟨_,e⟩
 | dK kvs=>obtain⟨_,_,_,_,o,_,_,e,_⟩:=x;exact⟨_,e⟩
 | dT kvs=>obtain⟨_,_,_,_,o,_,_,e,_⟩:=x;exact⟨_,e⟩
 | set S n=>obtain⟨o,_,_,_,e,_⟩:=x;exact⟨_,e⟩
 | ins C dx fs=>obtain⟨_,_,_,e,_⟩:=x;exact⟨_,e⟩
 | own y=>exact x
 | xd fs=>obtain⟨_,⟨_,_,_,e,_⟩,_⟩:=x;exact⟨_,e⟩
 | rng lo hi=>obtain⟨_,_,_,e⟩:=x;exact⟨_,e⟩
 | frz ob u=>obtain⟨e,_⟩:=x;exact⟨_,e⟩
 | tbl ps=>obtain⟨_,_,_,_,e,_⟩:=x;exact⟨_,e⟩
 | cod q=>obtain⟨_,_,_,e,_⟩:=x;exact⟨_,e⟩
 | met f y=>exact⟨_,(show h.get? a=some _ from x)⟩
 | ext φ=>exact x.2.1
theorem uF{X:Cx}{outer:List Env}{H H':Hp}{h h1 h2 B:WG}{e:Wu}{cls a0:Ws}(un:Un (cF outer) [] H H' h h1)(fl:SH B outer e cls a0 h1)(st:B.StaysIn h2)(sm:h1.UpToSlots h2)
 (kb:∀b o,h.get? b=some o->H b=none->b ∉ cF outer->B.get? b=some o)(th:∀b o,h.get? b=some o->b ∉ cF outer->∃o',B.get? b=some o'):Un (cF outer) [] H H' h h2:=by
 have up:∀b∈cF outer,∀o,h1.get? b=some o->∃sl,h2.get? b=some {o with slots:=sl}:=λb hb o eo=>by
  obtain⟨_,o',ho',hd⟩:=fl.2.2.1.mem hb;rw [eo] at ho';cases ho';exact sm b o eo hd
 refine⟨λb o eb n hb _=>st b o (kb b o eb n hb),λb o eb n hb hx=>?_,un.free,λb o eb hx=>?_,un.tups,un.frzs,un.tbls⟩
 ·obtain⟨sl,es⟩:=un.slot b o eb n hb hx;obtain⟨sl',es'⟩:=up b hb _ es;exact⟨sl',es'⟩
 ·by_cases hb:b∈cF outer
  ·obtain⟨o',eo'⟩:=un.there b o eb hx;obtain⟨sl',es'⟩:=up b hb _ eo';exact⟨_,es'⟩
  ·obtain⟨o',eo'⟩:=th b o eb hb;exact⟨o',st b o' eo'⟩
abbrev Cx.inEx(X:Cx)(e:Wu):Cx:={X with A:=X.A.mark (some (.ref e)),calm:=false,xe:=λ_ _=>False}
theorem Cx.Ok.inEx{X:Cx}(ok:X.Ok)(e:Wu):(X.inEx e).Ok:=
 ⟨ok.mod,ok.kind,ok.glob,ok.blt,ok.above,ok.inj,ok.has,ok.cab,λz=>absurd z Wq,ok.frames,ok.stk,ok.exf,ok.bs,ok.bsz,ok.noex,ok.exfs,ok.funs,ok.frf⟩
theorem Cx.Ok.outEx{X:Cx}{e:Wu}(ok:(X.inEx e).Ok)(hd:X.calm=true->X.A.handled=none):X.Ok:=
 ⟨ok.mod,ok.kind,ok.glob,ok.blt,ok.above,ok.inj,ok.has,ok.cab,hd,ok.frames,ok.stk,ok.exf,ok.bs,ok.bsz,ok.noex,ok.exfs,ok.funs,ok.frf⟩
section
variable {X:Cx} {Yn:List (Wu×Obj)} {σ:St} {H:Hp} {s:Wv}
theorem ag.inEx(I:ag X Yn σ H s)(e:Wu):ag (X.inEx e) Yn σ H s:=⟨I.ok.inEx e,I.os,I.bare,I.base,I.loc,I.cell,I.free,I.freeC,I.pin,I.hok,I.len⟩
theorem ag.outEx{e:Wu}(I:ag (X.inEx e) Yn σ H s)(hd:X.calm=true->X.A.handled=none):ag X Yn σ H s:=⟨I.ok.outEx hd,I.os,I.bare,I.base,I.loc,I.cell,I.free,I.freeC,I.pin,I.hok,I.len⟩
end
theorem CY{K:Pq}{h:WG}{C C':Wu}{nm qn:Str}{N:Wu}{bs bm:List Ws}{hdct:Bool}{sn:List Str}{sub:List Ws}{ab:Bool}{col:Option Bool}{dd:Option Wu}{k0 k1 k2 k3 k5:Option Ws}{newId:String}(X:K.In h)(e:RQ K C (.ref C')=some true)
 (hC:h.get? C=some (W5 nm qn C N bs bm hdct sn sub ab col dd k0 k1 k2 k3 k5 newId)):(Qy C::bm).contains (.ref C')=true:=by
 obtain⟨cd,a,b⟩:=Option.bind_eq_some_iff.mp e;unfold PySem.W.clsIn at a;split at a
 ·rename_i ho;cases a;have z:=(X _ _ ho).symm.trans hC;have z1:cd.mro=Qy C::bm:=by unfold W5 at z;cases z;rfl
  split at b
  ·cases b
  ·rw [z1] at b;exact Ri b
 ·cases a
section
variable {X:Cx}
theorem CZ{bs:List Bool}{its:List Ws}(r:aM (bs.map V.bl) its):its=bs.map So:=by
 induction bs generalizing its with
 | nil=>cases r;rfl
 | cons b bs ih=>
  rw [Pw] at r;cases r with
  | cons r1 r2=>
   rw [Pw,<-ih r2];exact congrArg (·::_) r1
theorem IM(bs:List Bool)(f:Nat->Bool)(h:∀i,i < bs.length->f i=bs.getD i true):(Rx bs.length).all f=bs.all id:=by
 rw [RM,Rh,Rh];constructor
 ·intro z b hb;obtain⟨i,hi,e⟩:=U7 hb;have:=z i (Sa.mpr hi);rw [h i hi,RR,QY hi] at this;rw [<-e];exact this
 ·intro z i hi;have hi:=Sa.mp hi;rw [h i hi,RR,QY hi];exact z _ (R9 hi)
theorem IP(bs:List Bool)(f:Nat->Bool)(h:∀i,i < bs.length->f i=bs.getD i true):(Rx bs.length).any f=bs.any id:=by
 rw [RM,S9,S9];constructor
 ·rintro⟨i,hi,z⟩;have hi:=Sa.mp hi;rw [h i hi,RR,QY hi] at z;exact⟨_,R9 hi,z⟩
 ·rintro⟨b,hb,z⟩;obtain⟨i,hi,e⟩:=U7 hb;refine⟨i,Sa.mpr hi,?_⟩;rw [h i hi,RR,QY hi];show bs[i]=true;rw [e];exact z
theorem C0{bs:List Bool}{i:Nat}{v:Ws}(h:(bs.map So).toArray[i]?=some v):v= .bool (bs.getD i true):=by
 have h':(bs.map So)[i]?=some v:=by simpa using h
 rw [Ru] at h';cases e:bs[i]? with
 | none=>rw [e] at h';cases h'
 | some b=>
  rw [e] at h';rw [RR,e];exact(Ri h').symm
theorem C1{prog:WH}{w:WJ}{A:WL}{E:Ws->Wv->Prop}{s:Wv}{l:Wu}{items:Array Ws}{Q:Ws->Wv->Prop}(hl:s.heap.IsList l items)
 (h:∀s₂:Wv,s₂={s with heap:=s.heap.push {cls:= .type "list_iterator",data:= .fields #[.ref l,.int 0 0]}}->
  (s₂.heap.IsListIter s.heap.objs.size l 0/\s₂.heap.IsList l items)->l≠s.heap.objs.size->Q (.ref s.heap.objs.size) s₂):Wx (Wy prog w) A (pyIter (.ref l)) Q E s:=by
 have hlt:l < s.heap.objs.size:=by obtain⟨_,e,_⟩:=hl;exact PQ e
 exact Yj hl (h _ rfl ⟨⟨_,Qa _ rfl,rfl,rfl⟩,hl.push _⟩ (QF hlt))
theorem pk(hc:X.calm=true):kA X (.builtin "all") (λxs H Q=>∃(a:Wu)(bs:List Bool),xs=[.ref a]/\bf X.K H a (bs.map V.bl)/\Q (.bl (bs.all id)) H):=by
 intro Yn s σ H xs us Q I r h;obtain⟨a,bs,rfl,hl,q⟩:=h;obtain⟨u,rfl,rx⟩:=lh r;cases rx;obtain⟨its,rv,p,hz⟩:=I.list hl;have hi:=CZ rv;subst hi;refine call_all_walk (C1 p.isList λs₂ e st hlI=>?_);subst e;refine⟨_,_,_,_,_,_,λi=>bs.getD i true,rfl,VJ (A:=X.A.in1) (I.ok.hd hc) _ a hlI _,st,λi v s' Q' E' hP hq=>by rw [C0 hP];exact WT hq,λh' tk hk=>?_⟩;have e:=IM bs (λi=>bs.getD i true) λ_ _=>rfl;have e2:(QZ So bs).toArray.size=bs.length:=Wq
 rw [e2,e];exact⟨.bl (bs.all id),H,I.kept (old_kept hk),rfl,q⟩
theorem x6(hc:X.calm=true):kA X (.builtin "any") (λxs H Q=>∃(a:Wu)(bs:List Bool),xs=[.ref a]/\bf X.K H a (bs.map V.bl)/\Q (.bl (bs.any id)) H):=by
 intro Yn s σ H xs us Q I r h;obtain⟨a,bs,rfl,hl,q⟩:=h;obtain⟨u,rfl,rx⟩:=lh r;cases rx;obtain⟨its,rv,p,hz⟩:=I.list hl;have hi:=CZ rv;subst hi;refine call_any_walk (C1 p.isList λs₂ e st hlI=>?_);subst e;refine⟨_,_,_,_,_,_,λi=>bs.getD i true,rfl,VJ (A:=X.A.in1) (I.ok.hd hc) _ a hlI _,st,λi v s' Q' E' hP hq=>by rw [C0 hP];exact WT hq,λh' tk hk=>?_⟩;have e:=IP bs (λi=>bs.getD i true) λ_ _=>rfl;have e2:(QZ So bs).toArray.size=bs.length:=Wq
 rw [e2,e];exact⟨.bl (bs.any id),H,I.kept (old_kept hk),rfl,q⟩
end
open PySem PySem.Spec PyProof.Rows PySem.W PySem.Calls PySem.Builtin.ObjectAttr PySem.Builtin PySem.Builtin.Getset_descriptor
section
variable {prog:WH} {w:WJ} {A:WL} {E:Ws->Wv->Prop} {s:Wv} {K:Pq} {x C:Wu}
theorem kS.type{M:XM}{h:WG}(p:kS x (.ref C) h):Looks M h (typeOf (.ref x)) (.ref C):=by
 obtain⟨o,h1,h2⟩:=p;exact h2▸(Looks.ld h1).andThen .now
theorem IQ{tp:Ws}{R:Yc->Wv->Prop}(X:K.In s.heap)(p:kS x (.ref C) s.heap)(hm:mroIn K C (.type "object")=some true)(hq:R (.ok (.ret (.ref C))) s):
 Xo (Wy prog w) A (.call (.builtin "getset_descriptor.__get__") ⟨[.builtin "object.__class__",.ref x,tp],[]⟩) R s:=by
 obtain⟨hh,gg,dr,tt,os⟩:=s;have LT:=kS.type (M:=Wy prog w) p;have LM:=looks_mroIn (M:=Wy prog w) X hm;refine Xb KF.slot_gs.plain KF.entry_gs (KF.slot_gs.check _ _ _ _ _ _ _ _ KF.type_class (KF.args_gs _ _ _) ?_);unfold Builtin.«getset_descriptor.__get__» descrGet;rw [dga_obj];refine Wt (Ww ?_);unfold descrGetter descrCheckInstance descrNameAndClass isInstance;simp only [KF.owner_class]
 repeat lk
 refine⟨Tj _ td,Xh KF.entry_class ?_⟩;unfold Builtin.«object.__class__» shownTypeOf;(repeat lk);exact hq
structure lP (K:Pq) (C:Wu):Prop where
 ga:X2 K (.ref C) "__getattribute__"=some (some (.builtin "BaseException.__getattribute__"))
 hk:X2 K (.ref C) "__getattr__"=some none
 cl:X2 K (.ref C) "__class__"=some (some (.builtin "object.__class__"))
 gt:specialIn K (.builtin "object.__class__") "__get__"=some (some (.builtin "getset_descriptor.__get__"))
 tk:takesIn K (.builtin "object.__class__")=some true
 ob:mroIn K C (.type "object")=some true
 be:mroIn K C (.type "BaseException")=some true
 cd:(clsIn K C).isSome=true
theorem C2{nameV:Ws}{Q:Unit->Wv->Prop}(Z:lP K C)(X:K.In s.heap)(p:kS x (.ref C) s.heap)(hq:Q () s):
 Wx (Wy prog w) A (XB "BaseException.__getattribute__" ⟨[.ref x,nameV],[]⟩) Q E s:=by
 have hk:builtinKind "BaseException.__getattribute__"=some .slot:=td
 have hsp:splitId "BaseException.__getattribute__"=some ("BaseException","__getattribute__"):=td
 have ha:=F.args_bexc_ga (.ref x) nameV;have LI:Looks (Wy prog w) s.heap (isInstance (.ref x) (.type "BaseException")) true:=(kS.type p).andThen (looks_mroIn X Z.be);simp only [XB,hk,hsp];refine Wt (LI.at ?_)
 repeat (first | wp_step)
 exact hq
theorem IS{tk:Tok}{Q:Fin->Wv->Prop}(Z:lP K C)(X:K.In s.heap)(p:kS x (.ref C) s.heap)(hq:Q (.done (.ret (.ref C))) s):
 Wx (Wy prog w) A (Builtin.«object.__getattribute__» ⟨[.ref x,.str "__class__" tk],[]⟩) Q E s:=by
 obtain⟨hh,gg,dr,tt,os⟩:=s;have L0:=kS.type (M:=Wy prog w) p;have L1:=Xp (M:=Wy prog w) X Z.cl;have L2:=looks_specialIn (M:=Wy prog w) X Z.gt;have L3:=looks_takesIn (M:=Wy prog w) X Z.tk;have LF:Looks (Wy prog w) hh (PySem.Builtin.ObjectAttr.find (.ref x) (.ref C) "__class__") (.bind (.builtin "getset_descriptor.__get__") (.builtin "object.__class__")):=
  L1.andThen (L2.andThen ((show Looks (Wy prog w) hh (dataDescriptor? (some (.builtin "object.__class__")) (some (.builtin "getset_descriptor.__get__"))) (some (.builtin "getset_descriptor.__get__",.builtin "object.__class__")) from L3.andThen .now).andThen (Looks.tag .now)))
 unfold Builtin.«object.__getattribute__»
 repeat (first | with_reducible refine Wt (L0.at ?_) | with_reducible refine Wt (LF.at ?_) | wp_step)
 refine IQ X p Z.ob ?_
 repeat (first | wp_step)
 exact hq
theorem IT{tk:Tok}{R:Yc->Wv->Prop}(Z:lP K C)(X:K.In s.heap)(p:kS x (.ref C) s.heap)(hq:R (.ok (.ret (.ref C))) s):
 Xo (Wy prog w) A (.call (.builtin "BaseException.__getattribute__") ⟨[.ref x,.str "__class__" tk],[]⟩) R s:=
 Xb F.excAttr_ValueError.ga.plain F.entry_bexc_ga (C2 Z X p (IS Z X p hq))
theorem IU{tk:Tok}{Q:Ws->Wv->Prop}(Z:lP K C)(X:K.In s.heap)(p:kS x (.ref C) s.heap)(hq:Q (.ref C) s):
 Wx (Wy prog w) A (getAttrBy (.ref x) (.str "__class__" tk) false) Q E s:=by
 obtain⟨hh,gg,dr,tt,os⟩:=s;have L0:=kS.type (M:=Wy prog w) p;have L1:=Xp (M:=Wy prog w) X Z.ga;have L2:=Xp (M:=Wy prog w) X Z.hk;have f3:=F.excAttr_ValueError.ga.bind (.ref x);have hx0:(false && onTheHeap (R7 "BaseException.__getattribute__"))=false:=rfl;have hx2:(R7 "BaseException.__getattribute__"==R7 "object.__getattribute__")=false:=td
 have hx1:(onTheHeap (Qy C) && R7 "BaseException.__getattribute__"==R7 "object.__getattribute__")=false:=by rw [hx2];rfl
 repeat (first | with_reducible refine Wt (L0.at ?_) | with_reducible refine Wt (L1.at ?_) | with_reducible refine L2.at ?_ | wp_step)
 refine IT (s:=⟨hh,gg,dr,tt,os⟩) Z X p ?_
 repeat (first | wp_step)
 exact hq
theorem IV{Q:Option Ws->Wv->Prop}(Z:lP K C)(X:K.In s.heap)(p:kS x (.ref C) s.heap)(hq:Q (some (.ref C)) {s with toks:=s.toks+1}):
 Wx (Wy prog w) A (getAttr? (.ref x) "__class__") Q E s:=by
 obtain⟨hh,gg,dr,tt,os⟩:=s;unfold getAttr? getAttrBy?
 repeat (any_goals (first | assumption | with_reducible apply IU (s:=⟨hh,gg,dr,tt+1,os⟩) Z X p | wp_step))
theorem C3(Z:lP K C):KitX K (.ref x) (.ref C) (kS x (.ref C)) where
 ty:=λM h _ p=>kS.type p
 it:=λM h X _=>by
  obtain⟨cdD,hcD⟩:=Sg.mp Z.cd;unfold clsIn at hcD;split at hcD
  ·rename_i ho;intro A' Q' E' s' k q;unfold isType loadHead;exact Wt (wpAny_loadPart (k _ _ (X _ _ ho)) (Ww q))
  ·cases hcD
 ne:=λh tp dd its n sl X htp=>by
  obtain⟨cdD,hcD⟩:=Sg.mp Z.cd;refine Vp.mpr λq=>?_;have e:=Qy.inj (beq_iff_eq.mp q);subst e;unfold clsIn at hcD;split at hcD
  ·rename_i ho;have z:=(X _ _ ho).symm.trans htp;cases z
  ·cases hcD
 ca:=λX p k=>IV Z X p k
end
section
variable {X:Cx}
abbrev aV(d:Wr):Prop:=PD d=true
theorem IW{cs:List Wu}{its:List Ws}(r:aM (cs.map V.ref) its):its=cs.map Qy:=by
 induction cs generalizing its with
 | nil=>cases r;rfl
 | cons b bs ih=>
  rw [Pw] at r;cases r with
  | cons r1 r2=>
   rw [Pw,<-ih r2];exact congrArg (·::_) r1
end
theorem pq:WO "all"=some (.builtin "all"):=td
theorem x8:WO "any"=some (.builtin "any"):=td
theorem IX:WO "ValueError"=some (.type "ValueError"):=td
def IY(p:Wu)(h:WG):Prop:=∃(n:Int)(t:Tok)(k:Nat),h.get? p=some {cls:= .type "list",data:= .seq #[.int n t] k}
abbrev oy(p:Wu):HO:= .ext (IY p)
abbrev mi:Wr:= .dict [(.none,.none)]
def IZ(p:Wu)(h:WG):Prop:=∃(a b c:Int)(t u v:Tok)(k:Nat),h.get? p=some {cls:= .type "list",data:= .seq #[.int a t,.int b u,.int c v] k}
abbrev I0(p:Wu):HO:= .ext (IZ p)
abbrev Ja:Wr:= .dict [(.none,.bool true)]
abbrev mB(ds:List Wr):Wr:= .dict [(.none,.list ds)]
abbrev C4(C:Wu)(kp ds:List Wr):Wr:= .dict [(.none,.tuple [.int (C:Int),.list kp,.list ds])]
abbrev C5(kp ds:List Wr):Wr:= .dict [(.bool true,.tuple [.list kp,.list ds])]
abbrev Ex:=Wu->Prop
abbrev sT:Hp:=λ_=>none
mutual
inductive Dt (K:Pq) (H:Hp) (O:Ex):V->Wr->Prop
 | non:Dt K H O .non .none
 | bl (b:Bool):Dt K H O (.bl b) (.bool b)
 | int (i:Int):Dt K H O (.int i) (.int i)
 | str (x:Str):Dt K H O (.str x) (.str x)
 | tup {a:Wu} {xs:List V} {ds:List Wr}:Rd H a (.tup xs)->¬O a->au K H O xs ds->Dt K H O (.ref a) (.tuple ds)
 | tupK {a:Wu} {xs:List V} {ds:List Wr}:aY K sT a xs->au K H O xs ds->Dt K H O (.ref a) (.tuple ds)
 | lst {a:Wu} {xs:List V} {ds:List Wr}:Rd H a (.lst xs)->¬O a->au K H O xs ds->Dt K H O (.ref a) (.list ds)
 | pack {p:Wu}:H p=some (oy p)->¬O p->Dt K H O (.ref p) mi
 | purse {p:Wu}:H p=some (I0 p)->¬O p->Dt K H O (.ref p) Ja
 | dct0 {a:Wu}:H a=some (.dK [])->¬O a->Dt K H O (.ref a) (.dict [])
 | obj {a C dx:Wu} {fs:List (Str×V)} {kp ds:List Wr}:H a=some (.ins C dx fs)->kp=fs.map (λp=>Pr p.1)->¬O a->au K H O (fs.map (·.2)) ds->Dt K H O (.ref a) (C4 C kp ds)
 | dic {a:Wu} {ob:Obj} {kv:List (bp×V)} {ks:List Str} {kp ds:List Wr}:H a=some (.frz ob (.dK kv))->kv.map (·.1)=ks.map Tp->kp=ks.map Pr->¬O a->au K H O (kv.map (·.2)) ds->Dt K H O (.ref a) (C5 kp ds)
 | scr {a:Wu} {xs:List V} {ds:List Wr}:(Rd H a (.lst xs)/\¬O a)\/bf K sT a xs->au K H O xs ds->Dt K H O (.ref a) (mB ds)
inductive au (K:Pq) (H:Hp) (O:Ex):List V->List Wr->Prop
 | nil:au K H O [] []
 | cons {v:V} {d:Wr} {vs:List V} {ds:List Wr}:Dt K H O v d->au K H O vs ds->au K H O (v::vs) (d::ds)
end
theorem Rd.same{H H':Hp}{a:Wu}{u:HO}(s:∀o,H a=some o->H' a=some o)(h:Rd H a u):Rd H' a u:=by
 rcases h with h | ⟨o,h⟩
 ·exact .inl (s _ h)
 ·exact .inr ⟨o,s _ h⟩
theorem Rd.trk{H:Hp}{a:Wu}{u:HO}(h:Rd H a u):H a≠none:=by
 rcases h with h | ⟨o,h⟩ <;> rw [h] <;> exact λz=>nomatch z
section
variable {K:Pq}
structure aT (H H':Hp) (O O':Ex):Prop where
 keep:∀b o,H b=some o->¬O b->H' b=some o
 out:∀b,H b≠none->¬O b->¬O' b
mutual
theorem Dt.step{H H':Hp}{O O':Ex}(S:aT H H' O O'):∀{v:V}{d:Wr},Dt K H O v d->Dt K H' O' v d
 | _,_,.non=>.non
 | _,_,.bl b=>.bl b
 | _,_,.int i=>.int i
 | _,_,.str x=>.str x
 | _,_,.tup h n r=>.tup (h.same λo e=>S.keep _ o e n) (S.out _ h.trk n) (au.step S r)
 | _,_,.tupK h r=>.tupK h (au.step S r)
 | _,_,.lst h n r=>.lst (h.same λo e=>S.keep _ o e n) (S.out _ h.trk n) (au.step S r)
 | _,_,.pack h n=>.pack (S.keep _ _ h n) (S.out _ (by rw [h];exact λz=>nomatch z) n)
 | _,_,.purse h n=>.purse (S.keep _ _ h n) (S.out _ (by rw [h];exact λz=>nomatch z) n)
 | _,_,.dct0 h n=>.dct0 (S.keep _ _ h n) (S.out _ (by rw [h];exact λz=>nomatch z) n)
 | _,_,.obj h e n r=>.obj (S.keep _ _ h n) e (S.out _ (by rw [h];exact λz=>nomatch z) n) (au.step S r)
 | _,_,.dic h e1 e2 n r=>.dic (S.keep _ _ h n) e1 e2 (S.out _ (by rw [h];exact λz=>nomatch z) n) (au.step S r)
 | _,_,.scr h r=>.scr (h.imp (λh=>⟨h.1.same λo e=>S.keep _ o e h.2,S.out _ h.1.trk h.2⟩) id) (au.step S r)
theorem au.step{H H':Hp}{O O':Ex}(S:aT H H' O O'):∀{vs:List V}{ds:List Wr},au K H O vs ds->au K H' O' vs ds
 | _,_,.nil=>.nil
 | _,_,.cons h r=>.cons (Dt.step S h) (au.step S r)
end
theorem aT.same{H H':Hp}{O:Ex}(s:aq H H'):aT H H' O O:=⟨λb o e _=>s b o e,λ_ _ n=>n⟩
theorem Dt.mono{H H':Hp}{O:Ex}{v:V}{d:Wr}(s:aq H H')(h:Dt K H O v d):Dt K H' O v d:=h.step (.same s)
theorem au.mono{H H':Hp}{O:Ex}{v:List V}{d:List Wr}(s:aq H H')(h:au K H O v d):au K H' O v d:=h.step (.same s)
theorem au.length{H:Hp}{O:Ex}:∀{vs:List V}{ds:List Wr},au K H O vs ds->vs.length=ds.length
 | _,_,.nil=>rfl
 | _,_,.cons _ r=>by rw [Pu,Pu,au.length r]
theorem au.get{H:Hp}{O:Ex}:∀{vs:List V}{ds:List Wr}{i:Nat}{v:V},au K H O vs ds->vs[i]?=some v->∃d,ds[i]?=some d/\Dt K H O v d
 | _,_,_,_,.nil,e=>by simp at e
 | _,_,0,_,.cons h _,e=>by simp at e;subst e;exact⟨_,rfl,h⟩
 | _,_,i+1,_,.cons _ r,e=>by simpa using au.get (i:=i) r (by simpa using e)
theorem au.getD{H:Hp}{O:Ex}:∀{vs:List V}{ds:List Wr}{i:Nat}{d:Wr},au K H O vs ds->ds[i]?=some d->∃v,vs[i]?=some v/\Dt K H O v d
 | _,_,_,_,.nil,e=>by simp at e
 | _,_,0,_,.cons h _,e=>by simp at e;subst e;exact⟨_,rfl,h⟩
 | _,_,i+1,_,.cons _ r,e=>by simpa using au.getD (i:=i) r (by simpa using e)
theorem au.append{H:Hp}{O:Ex}:∀{vs ws:List V}{ds es:List Wr},au K H O vs ds->au K H O ws es->au K H O (vs++ws) (ds++es)
 | _,_,_,_,.nil,s=>s
 | _,_,_,_,.cons h r,s=>.cons h (au.append r s)
theorem au.take{H:Hp}{O:Ex}:∀{vs:List V}{ds:List Wr}(n:Nat),au K H O vs ds->au K H O (vs.take n) (ds.take n)
 | _,_,0,_=>.nil
 | _,_,_+1,.nil=>.nil
 | _,_,n+1,.cons h r=>.cons h (au.take n r)
theorem au.drop{H:Hp}{O:Ex}:∀{vs:List V}{ds:List Wr}(n:Nat),au K H O vs ds->au K H O (vs.drop n) (ds.drop n)
 | _,_,0,r=>r
 | _,_,_+1,.nil=>.nil
 | _,_,n+1,.cons _ r=>au.drop n r
theorem au.ints{H:Hp}{O:Ex}:∀(ns:List Int),au K H O (ns.map V.int) (ns.map PN)
 | []=>.nil
 | n::r=>.cons (.int n) (au.ints r)
inductive Sh (K:Pq) (H:Hp) (O:Ex):V->Wr->Prop
 | dt {v:V} {d:Wr}:Dt K H O v d->Sh K H O v d
 | own {l:Wu} {vs:List V} {ds:List Wr}:H l=some (.lst vs)->au K H O vs ds->Sh K H O (.ref l) (.list ds)
theorem Sh.mono{H H':Hp}{O:Ex}{v:V}{d:Wr}(s:aq H H'):Sh K H O v d->Sh K H' O v d
 | .dt h=>.dt (h.mono s)
 | .own h r=>.own (s _ _ h) (r.mono s)
theorem Dt.all{H:Hp}{O:Ex}{v:V}{d:Wr}(h:Dt K H O v d):Dt K H (λ_=>False) v d:=h.step ⟨λ_ _ e _=>e,λ_ _ _ z=>z⟩
theorem au.all{H:Hp}{O:Ex}{v:List V}{d:List Wr}(h:au K H O v d):au K H (λ_=>False) v d:=h.step ⟨λ_ _ e _=>e,λ_ _ _ z=>z⟩
theorem Sh.all{H:Hp}{O:Ex}{v:V}{d:Wr}:Sh K H O v d->Dt K H (λ_=>False) v d
 | .dt h=>h.all
 | .own h r=>.lst (.inl h) (λz=>z) r.all
theorem aY.of0{H:Hp}{a:Wu}{xs:List V}(h:aY K sT a xs):aY K H a xs:=by
 rcases h with(h | ⟨o,h⟩) | h
 ·cases h
 ·cases h
 ·exact .inr h
theorem bf.of0{H:Hp}{a:Wu}{xs:List V}(h:bf K sT a xs):bf K H a xs:=by
 rcases h with(h | ⟨o,h⟩) | h
 ·cases h
 ·cases h
 ·exact .inr h
theorem Sh.tup{H:Hp}{O:Ex}{v:V}{ds:List Wr}(h:Sh K H O v (.tuple ds)):∃a xs,v= .ref a/\aY K H a xs/\au K H O xs ds:=by
 cases h with
 | dt h=>
  cases h with
  | tup h _ r=>exact⟨_,_,rfl,.inl h,r⟩
  | tupK h r=>exact⟨_,_,rfl,h.of0,r⟩
theorem Sh.lstR{H:Hp}{O:Ex}{v:V}{ds:List Wr}(h:Sh K H O v (.list ds)):∃a xs,v= .ref a/\Rd H a (.lst xs)/\au K H O xs ds:=by
 cases h with
 | dt h=>
  cases h with
  | lst h _ r=>exact⟨_,_,rfl,h,r⟩
 | own h r=>exact⟨_,_,rfl,.inl h,r⟩
theorem Sh.lst{H:Hp}{O:Ex}{v:V}{ds:List Wr}(h:Sh K H O v (.list ds)):∃a xs,v= .ref a/\bf K H a xs/\au K H O xs ds:=by
 obtain⟨a,xs,e,h,r⟩:=h.lstR;exact⟨a,xs,e,.inl h,r⟩
theorem Sh.scr{H:Hp}{O:Ex}{v:V}{ds:List Wr}(h:Sh K H O v (mB ds)):∃a xs,v= .ref a/\bf K H a xs/\au K H O xs ds:=by
 cases h with
 | dt h=>
  cases h with
  | scr h r=>
   rcases h with h | h
   ·exact⟨_,_,rfl,.inl h.1,r⟩
   ·exact⟨_,_,rfl,h.of0,r⟩
theorem Sh.int{H:Hp}{O:Ex}{v:V}{i:Int}(h:Sh K H O v (.int i)):v= .int i:=by cases h with | dt h=>cases h;rfl
theorem Sh.bl{H:Hp}{O:Ex}{v:V}{i:Bool}(h:Sh K H O v (.bool i)):v= .bl i:=by cases h with | dt h=>cases h;rfl
theorem Sh.str{H:Hp}{O:Ex}{v:V}{i:Str}(h:Sh K H O v (.str i)):v= .str i:=by cases h with | dt h=>cases h;rfl
theorem Sh.non{H:Hp}{O:Ex}{v:V}(h:Sh K H O v .none):v= .non:=by cases h with | dt h=>cases h;rfl
def cH:Wr->Bool
 | .none | .bool _ | .int _ | .str _=>true
 | _=>false
end
section
variable {X:Cx} {Yn:List (Wu×Obj)} {σ:St} {H:Hp} {s:Wv}
mutual
theorem nj(I:ag X Yn σ H s){O:Ex}:∀{v:V}{d:Wr}{u:Ws},Dt X.K H O v d->d.canLay0=true->aJ v u->∃as,Reads s.heap u d as
 | _,_,_,.non,_,r=>by cases r;exact⟨_,Reads.none⟩
 | _,_,_,.bl b,_,r=>by cases r;exact⟨_,Reads.bool b⟩
 | _,_,_,.int i,_,r=>by obtain⟨t,rfl⟩:=r;exact⟨_,Reads.int i t⟩
 | _,_,_,.str x,_,r=>by obtain⟨t,rfl⟩:=r;exact⟨_,Reads.str x t⟩
 | _,_,_,.tup h _ hs,c,r=>by
  cases r;obtain⟨its,rv,⟨o,e,c',n,dd⟩,_⟩:=I.tuple (.inl h);obtain⟨as,q⟩:=uG I hs (by simpa [QW] using c) rv;exact⟨as,reads_tuple_at e c' dd (by simpa using q)⟩
 | _,_,_,.tupK h hs,c,r=>by
  cases r;obtain⟨its,rv,⟨o,e,c',n,dd⟩,_⟩:=I.tuple h.of0;obtain⟨as,q⟩:=uG I hs (by simpa [QW] using c) rv;exact⟨as,reads_tuple_at e c' dd (by simpa using q)⟩
 | _,_,_,.lst h _ hs,c,r=>by
  cases r;obtain⟨its,rv,⟨o,n,e,c',_,dd⟩,_⟩:=I.list (.inl h);obtain⟨as,q⟩:=uG I hs (by simpa [QW] using c) rv;exact⟨_,reads_list_at e c' dd (by simpa using q)⟩
 | _,_,_,.pack _ _,c,_=>by simp [QW] at c
 | _,_,_,.purse _ _,c,_=>by simp [QW] at c
 | _,_,_,.dct0 _ _,c,_=>by simp [QW] at c
 | _,_,_,.obj _ _ _ _,c,_=>by simp [QW] at c
 | _,_,_,.dic _ _ _ _ _,c,_=>by simp [QW] at c
 | _,_,_,.scr _ _,c,_=>by simp [QW] at c
theorem uG(I:ag X Yn σ H s){O:Ex}:∀{vs:List V}{ds:List Wr}{us:List Ws},au X.K H O vs ds->Q4 ds=true->aM vs us->∃as,ReadsAll s.heap us ds as
 | _,_,_,.nil,_,r=>by cases r;exact⟨_,ReadsAll.nil⟩
 | _,_,_,.cons h hs,c,r=>by
  rw [Q4,P6] at c;cases r with
  | cons r1 r2=>
   obtain⟨as,q⟩:=nj I h c.1 r1;obtain⟨bs,p⟩:=uG I hs c.2 r2;exact⟨_,ReadsAll.cons q p⟩
end
end
inductive Sl where
 | v (d:Wr)
 | o (ds:List Wr)
 | k (kd:List (bp×Wr))
 | i (l C:Wu) (fd:List (Str×Wr))
 | r (l C g u:Wu) (fd:List (Str×Wr)) (gd ud:List (bp×Wr))
 | b (ds:List Wr)
 | f (kd:List (bp×Wr))
abbrev Dl:=List (Option Sl)
inductive l7 (K:Pq) (H:Hp) (O:Ex):List (bp×V)->List (bp×Wr)->Prop
 | nil:l7 K H O [] []
 | cons {k:bp} {v:V} {d:Wr} {r:List (bp×V)} {s:List (bp×Wr)}:Dt K H O v d->l7 K H O r s->l7 K H O ((k,v)::r) ((k,d)::s)
theorem l7.step{K:Pq}{H H':Hp}{O O':Ex}(S:aT H H' O O'){r:List (bp×V)}{s:List (bp×Wr)}(h:l7 K H O r s):l7 K H' O' r s:=by
 induction h with
 | nil=>exact .nil
 | cons a _ ih=>exact .cons (a.step S) ih
theorem l7.mono{K:Pq}{H H':Hp}{O:Ex}(S:aq H H'){r:List (bp×V)}{s:List (bp×Wr)}(h:l7 K H O r s):l7 K H' O r s:=h.step (.same S)
def x9(K:Pq)(H:Hp)(O:Ex)(fs:List (Str×V))(fd:List (Str×Wr)):Prop:=fs.map (·.1)=fd.map (·.1)/\au K H O (fs.map (·.2)) (fd.map (·.2))
def Sl.own:Sl->Prop
 | .v _=>False
 | .b _=>False
 | .f _=>False
 | _=>True
abbrev Jb:Str:=Pp "gone"
abbrev Jc:Str:=Pp "used"
def Jd(K:Pq)(H:Hp)(O0 O:Ex)(l C g u:Wu)(fd:List (Str×Wr))(gd ud:List (bp×Wr)):Prop:=∃dx fs og ou gv uv,H l=some (.ins C dx (fs++[(Jb,.ref g),(Jc,.ref u)]))/\x9 K H O fs fd/\g≠u/\
 (O g/\¬O0 g/\H g=some (.frz og (.dK gv))/\l7 K H O gv gd)/\(O u/\¬O0 u/\H u=some (.frz ou (.dK uv))/\l7 K H O uv ud)
def oz(K:Pq)(H:Hp)(O0 O:Ex)(x:Option V):Option Sl->Prop
 | none=>True
 | some (.v d)=>∃v,x=some v/\Dt K H O v d
 | some (.o ds)=>∃l vs,x=some (.ref l)/\O l/\¬O0 l/\H l=some (.lst vs)/\au K H O vs ds
 | some (.k kd)=>∃l kv,x=some (.ref l)/\O l/\¬O0 l/\H l=some (.dK kv)/\l7 K H O kv kd
 | some (.i l C fd)=>∃dx fs,x=some (.ref l)/\O l/\¬O0 l/\H l=some (.ins C dx fs)/\x9 K H O fs fd
 | some (.r l C g u fd gd ud)=>x=some (.ref l)/\O l/\¬O0 l/\Jd K H O0 O l C g u fd gd ud
 | some (.b ds)=>∃l vs,x=some (.ref l)/\O0 l/\H l=some (.lst vs)/\au K H O vs ds
 | some (.f kd)=>∃l o kv,x=some (.ref l)/\¬O l/\H l=some (.frz o (.dK kv))/\l7 K H O kv kd
structure Wd (K:Pq) (H0:Hp) (O0:Ex) (H:Hp) (O:Ex) (σ:St) (δ:Dl):Prop where
 same:aq H0 H
 sub:∀l,O0 l->O l
 new:∀l,O l->O0 l\/H0 l=none
 trk:∀l,O l->H l≠none
 len:σ.length=δ.length
 sl:∀(i:Nat) y,δ[i]?=some y->oz K H O0 O ((σ[i]?).join) y
 dis:∀(i j:Nat) y z l,δ[i]?=some (some y)->y.own->δ[j]?=some (some z)->z.own->σ[i]?=some (some (.ref l))->σ[j]?=some (some (.ref l))->i=j
section
variable {K:Pq} {H0 H H':Hp} {O0 O:Ex} {σ:St} {δ:Dl}
theorem oz.mono{x:Option V}{y:Option Sl}(s:aq H H')(h:oz K H O0 O x y):oz K H' O0 O x y:=by
 cases y with
 | none=>exact RK
 | some y=>
  cases y with
  | v d=>
   obtain⟨v,e,r⟩:=h;exact⟨v,e,r.mono s⟩
  | o ds=>
   obtain⟨l,vs,e,a,b,c,r⟩:=h;exact⟨l,vs,e,a,b,s _ _ c,r.mono s⟩
  | k ds=>
   obtain⟨l,vs,e,a,b,c,r⟩:=h;exact⟨l,vs,e,a,b,s _ _ c,r.mono s⟩
  | i l C ds=>
   obtain⟨dx,vs,e,a,b,c,r1,r2⟩:=h;exact⟨dx,vs,e,a,b,s _ _ c,r1,r2.mono s⟩
  | r l C g u fd gd ud=>
   obtain⟨e,a,b,dx,fs,og,ou,gv,uv,c,⟨r1,r2⟩,ne,⟨g1,g2,g3,g4⟩,u1,u2,u3,u4⟩:=h;exact⟨e,a,b,dx,fs,og,ou,gv,uv,s _ _ c,⟨r1,r2.mono s⟩,ne,⟨g1,g2,s _ _ g3,g4.mono s⟩,u1,u2,s _ _ u3,u4.mono s⟩
  | b ds=>
   obtain⟨l,vs,e,a,c,r⟩:=h;exact⟨l,vs,e,a,s _ _ c,r.mono s⟩
  | f kd=>
   obtain⟨l,o,kv,e,a,c,r⟩:=h;exact⟨l,o,kv,e,a,s _ _ c,r.mono s⟩
theorem oz.go{O':Ex}{x:Option V}{y:Option Sl}(h:oz K H O0 O x y)(S:aT H H' O O')(kp:∀l o,y.any (λz=>match z with | .v _=>false | .b _=>false | .f _=>false | _=>true)=true->x=some (.ref l)->O l->¬O0 l->H l=some o->O' l/\H' l=some o)
 (kp2:∀a o u,O a->¬O0 a->H a=some (.frz o u)->O' a/\H' a=some (.frz o u))(kp3:∀a o,O0 a->H a=some o->H' a=some o):oz K H' O0 O' x y:=by
 cases y with
 | none=>exact RK
 | some y=>
  cases y with
  | v d=>
   obtain⟨v,e,r⟩:=h;exact⟨v,e,r.step S⟩
  | o ds=>
   obtain⟨l,vs,e,a,b,c,r⟩:=h;exact⟨l,vs,e,(kp l _ rfl e a b c).1,b,(kp l _ rfl e a b c).2,r.step S⟩
  | k ds=>
   obtain⟨l,vs,e,a,b,c,r⟩:=h;exact⟨l,vs,e,(kp l _ rfl e a b c).1,b,(kp l _ rfl e a b c).2,r.step S⟩
  | i l C ds=>
   obtain⟨dx,vs,e,a,b,c,r1,r2⟩:=h;exact⟨dx,vs,e,(kp l _ rfl e a b c).1,b,(kp l _ rfl e a b c).2,r1,r2.step S⟩
  | r l C g u fd gd ud=>
   obtain⟨e,a,b,dx,fs,og,ou,gv,uv,c,⟨r1,r2⟩,ne,⟨g1,g2,g3,g4⟩,u1,u2,u3,u4⟩:=h;exact⟨e,(kp l _ rfl e a b c).1,b,dx,fs,og,ou,gv,uv,(kp l _ rfl e a b c).2,⟨r1,r2.step S⟩,ne,⟨(kp2 _ _ _ g1 g2 g3).1,g2,(kp2 _ _ _ g1 g2 g3).2,g4.step S⟩,(kp2 _ _ _ u1 u2 u3).1,u2,(kp2 _ _ _ u1 u2 u3).2,u4.step S⟩
  | b ds=>
   obtain⟨l,vs,e,a,c,r⟩:=h;exact⟨l,vs,e,a,kp3 _ _ a c,r.step S⟩
  | f kd=>
   obtain⟨l,o,kv,e,a,c,r⟩:=h;exact⟨l,o,kv,e,S.out _ (by rw [c];exact λz=>nomatch z) a,S.keep _ _ c a,r.step S⟩
theorem Wd.mono(s:aq H H')(w:Wd K H0 O0 H O σ δ):Wd K H0 O0 H' O σ δ:=
 ⟨w.same.trans s,w.sub,w.new,λl h z=>(by
  cases e:H l with
  | none=>exact w.trk l h e
  | some o=>rw [s _ _ e] at z;cases z),w.len,λi y e=>(w.sl i y e).mono s,w.dis⟩
theorem qg{i:Nat}{v:V}(h:(σ[i]?).join=some v):σ[i]?=some (some v):=by
 cases q:σ[i]? with
 | none=>rw [q] at h;cases h
 | some o=>rw [q] at h;rw [show o=some v from h]
theorem Wd.val(w:Wd K H0 O0 H O σ δ){i:Nat}{d:Wr}(e:δ[i]?=some (some (.v d))):∃v,σ[i]?=some (some v)/\Dt K H O v d:=by
 obtain⟨v,h,r⟩:=w.sl i _ e;exact⟨v,qg h,r⟩
theorem Wd.own(w:Wd K H0 O0 H O σ δ){i:Nat}{ds:List Wr}(e:δ[i]?=some (some (.o ds))):∃l vs,σ[i]?=some (some (.ref l))/\O l/\¬O0 l/\H l=some (.lst vs)/\au K H O vs ds:=by
 obtain⟨l,vs,h,r⟩:=w.sl i _ e;exact⟨l,vs,qg h,r⟩
theorem Wd.ownK(w:Wd K H0 O0 H O σ δ){i:Nat}{kd:List (bp×Wr)}(e:δ[i]?=some (some (.k kd))):∃l kv,σ[i]?=some (some (.ref l))/\O l/\¬O0 l/\H l=some (.dK kv)/\l7 K H O kv kd:=by
 obtain⟨l,vs,h,r⟩:=w.sl i _ e;exact⟨l,vs,qg h,r⟩
theorem Wd.ownI(w:Wd K H0 O0 H O σ δ){i:Nat}{l C:Wu}{fd:List (Str×Wr)}(e:δ[i]?=some (some (.i l C fd))):∃dx fs,σ[i]?=some (some (.ref l))/\O l/\¬O0 l/\H l=some (.ins C dx fs)/\x9 K H O fs fd:=by
 obtain⟨dx,vs,h,r⟩:=w.sl i _ e;exact⟨dx,vs,qg h,r⟩
theorem Wd.adr(w:Wd K H0 O0 H O σ δ){i:Nat}{y:Sl}(e:δ[i]?=some (some y))(h:y.own):∃l,σ[i]?=some (some (.ref l))/\O l/\¬O0 l:=by
 match y,h,e with
 | .o ds,_,e=>obtain⟨l,vs,a,b,c,_⟩:=w.own e;exact⟨l,a,b,c⟩
 | .k ds,_,e=>obtain⟨l,vs,a,b,c,_⟩:=w.ownK e;exact⟨l,a,b,c⟩
 | .i l C ds,_,e=>obtain⟨dx,vs,a,b,c,_⟩:=w.ownI e;exact⟨l,a,b,c⟩
 | .r l C g u fd gd ud,_,e=>obtain⟨a,b,c,_⟩:=w.sl i _ e;exact⟨l,qg a,b,c⟩
theorem Wd.nofrz(w:Wd K H0 O0 H O σ δ){i:Nat}{y:Sl}{l:Wu}(e:δ[i]?=some (some y))(h:y.own)(hl:σ[i]?=some (some (.ref l)))(o:Obj)(u:HO):H l≠some (.frz o u):=by
 match y,h,e with
 | .o ds,_,e=>obtain⟨l',vs,a,b,c,d,_⟩:=w.own e;rw [hl] at a;cases a;rw [d];exact λz=>nomatch z
 | .k ds,_,e=>obtain⟨l',vs,a,b,c,d,_⟩:=w.ownK e;rw [hl] at a;cases a;rw [d];exact λz=>nomatch z
 | .i l C ds,_,e=>obtain⟨dx,vs,a,b,c,d,_⟩:=w.ownI e;rw [hl] at a;cases a;rw [d];exact λz=>nomatch z
 | .r l C g u fd gd ud,_,e=>obtain⟨a,b,c,_,_,_,_,_,_,d,_⟩:=w.sl i _ e;have a:=qg a;rw [hl] at a;cases a;rw [d];exact λz=>nomatch z
theorem Wd.set(w:Wd K H0 O0 H O σ δ){i:Nat}{v:V}{d:Wr}(h:Dt K H O v d):Wd K H0 O0 H O (σ.set i (some v)) (δ.set i (some (.v d))):=by
 refine⟨w.same,w.sub,w.new,w.trk,by simp [w.len],λj y e=>?_,λj k y z l e1 y1 e2 z2 e3 e4=>?_⟩
 ·by_cases hj:j=i
  ·subst hj;have hl:j < δ.length:=by
    have:=(Ql.mp e).1;simpa using this
   rw [Rg hl] at e;cases e;rw [Rg (by rw [w.len];exact hl)];exact⟨v,rfl,h⟩
  ·rw [Q3 (Ne.symm hj)] at e⊢;exact w.sl j y e
 ·have ne:∀{j:Nat}{y:Sl},(δ.set i (some (.v d)))[j]?=some (some y)->y.own->j≠i:=λ{j y} e ho z=>by
   subst z;by_cases hl:j < δ.length
   ·rw [Rg hl] at e;cases e;exact ho
   ·rw [Sd (by simpa using hl)] at e;cases e
  have n1:=ne e1 y1;have n2:=ne e2 z2;rw [Q3 (Ne.symm n1)] at e1 e3;rw [Q3 (Ne.symm n2)] at e2 e4;exact w.dis j k y z l e1 y1 e2 z2 e3 e4
theorem Wd.setY(w:Wd K H0 O0 H O σ δ){i:Nat}{p:Wu}{ho:HO}{y0:Sl}(hy:y0.own)(hp:H p=none)(h:∀O',aT H (ao H p ho) O O'->O' p->¬O0 p->oz K (ao H p ho) O0 O' (some (.ref p)) (some y0)):
 Wd K H0 O0 (ao H p ho) (λl=>O l\/l=p) (σ.set i (some (.ref p))) (δ.set i (some y0)):=by
 have sm:aq H (ao H p ho):=aq.new hp;have np:∀l,O l->l≠p:=λl hl z=>w.trk l hl (by rw [z];exact hp);have p0:H0 p=none:=by
  cases e:H0 p with
  | none=>rfl
  | some o=>rw [w.same _ _ e] at hp;cases hp
 have S:aT H (ao H p ho) O (λl=>O l\/l=p):=⟨λb o e _=>sm b o e,λb hb hn z=>z.elim hn λq=>hb (by rw [q];exact hp)⟩;have n0:¬O0 p:=λz=>np p (w.sub p z) rfl;refine⟨w.same.trans sm,λl z=>.inl (w.sub l z),λl z=>z.elim (w.new l) λq=>.inr (by rw [q];exact p0),λl z=>?_,by simp [w.len],λj y e=>?_,λj k y z l e1 y1 e2 z2 e3 e4=>?_⟩
 ·by_cases q:l=p
  ·rw [q,bu];exact λz=>nomatch z
  ·rw [ay q];exact w.trk l (z.resolve_right q)
 ·by_cases hj:j=i
  ·subst hj;have hl:j < δ.length:=by
    have:=(Ql.mp e).1;simpa using this
   rw [Rg hl] at e;cases e;rw [Rg (by rw [w.len];exact hl)];exact h _ S (.inr rfl) n0
  ·rw [Q3 (Ne.symm hj)] at e⊢;exact(w.sl j y e).go S (λl o _ _ a _ c=>⟨.inl a,sm _ _ c⟩) (λa o u a1 _ a3=>⟨.inl a1,sm _ _ a3⟩) λa o _ a3=>sm _ _ a3
 ·by_cases hj:j=i
  ·by_cases hk:k=i
   ·rw [hj,hk]
   ·exfalso;rw [hj] at e1 e3;have hl:i < σ.length:=by
     have:=(Ql.mp e3).1;simpa using this
    rw [Rg hl] at e3;cases e3;rw [Q3 (Ne.symm hk)] at e2 e4;obtain⟨l',x1,x2,_⟩:=w.adr e2 z2;rw [e4] at x1;cases x1;exact np _ x2 rfl
  ·by_cases hk:k=i
   ·exfalso;rw [hk] at e2 e4;have hl:i < σ.length:=by
     have:=(Ql.mp e4).1;simpa using this
    rw [Rg hl] at e4;cases e4;rw [Q3 (Ne.symm hj)] at e1 e3;obtain⟨l',x1,x2,_⟩:=w.adr e1 y1;rw [e3] at x1;cases x1;exact np _ x2 rfl
   ·rw [Q3 (Ne.symm hj)] at e1 e3;rw [Q3 (Ne.symm hk)] at e2 e4;exact w.dis j k _ _ l e1 y1 e2 z2 e3 e4
theorem Wd.setO(w:Wd K H0 O0 H O σ δ){i:Nat}{p:Wu}{vs:List V}{ds:List Wr}(hp:H p=none)(h:au K H O vs ds):
 Wd K H0 O0 (ao H p (.lst vs)) (λl=>O l\/l=p) (σ.set i (some (.ref p))) (δ.set i (some (.o ds))):=
 w.setY trivial hp λO' S a b=>⟨p,vs,rfl,a,b,bu,h.step S⟩
theorem Wd.putY(w:Wd K H0 O0 H O σ δ){i:Nat}{l:Wu}{ho:HO}{y0 y1:Sl}(h0:y0.own)(h1:y1.own)(e:δ[i]?=some (some y0))(hl:σ[i]?=some (some (.ref l)))(h:aT H (ao H l ho) O O->O l->¬O0 l->oz K (ao H l ho) O0 O (some (.ref l)) (some y1)):
 Wd K H0 O0 (ao H l ho) O σ (δ.set i (some y1)):=by
 obtain⟨l',x1,x2,x3⟩:=w.adr e h0;rw [hl] at x1;cases x1;have l0:H0 l=none:=(w.new l x2).resolve_left x3;have S:aT H (ao H l ho) O O:=⟨λb o q n=>by rw [ay (λz=>n (by rw [z];exact x2))];exact q,λ_ _ n=>n⟩;have li:i < δ.length:=(Ql.mp e).1;refine⟨λb o q=>by rw [ay (λz=>by rw [z,l0] at q;cases q)];exact w.same b o q,w.sub,w.new,λb z=>?_,by simp [w.len],λj y q=>?_,λj k y z b e1 y1' e2 z2 e3 e4=>?_⟩
 ·by_cases q:b=l
  ·rw [q,bu];exact λz=>nomatch z
  ·rw [ay q];exact w.trk b z
 ·by_cases hj:j=i
  ·subst hj;rw [Rg li] at q;cases q;rw [hl];exact h S x2 x3
  ·rw [Q3 (Ne.symm hj)] at q;refine(w.sl j y q).go S (λb o ho' e' a1 a2 a3=>⟨a1,?_⟩) (λb o u a1 a2 a3=>⟨a1,by rw [ay (λz=>w.nofrz e h0 hl o u (by rw [<-z];exact a3))];exact a3⟩) λb o a1 a3=>by rw [ay (λz=>x3 (by rw [<-z];exact a1))];exact a3
   have nb:b≠l:=λz=>by
    subst z
    match y,ho',q with
    | some z,ho',q=>exact hj (w.dis j i z y0 b q (by cases z <;> first | trivial | cases ho') e h0 (qg e') hl)
   rw [ay nb];exact a3
 ·have nN:∀{j:Nat}{y:Sl},(δ.set i (some y1))[j]?=some (some y)->y.own->∃y',δ[j]?=some (some y')/\y'.own:=λ{j y} q hq=>by
   by_cases hj:j=i
   ·subst hj;exact⟨_,e,h0⟩
   ·rw [Q3 (Ne.symm hj)] at q;exact⟨_,q,hq⟩
  obtain⟨_,q1,r1⟩:=nN e1 y1';obtain⟨_,q2,r2⟩:=nN e2 z2;exact w.dis j k _ _ b q1 r1 q2 r2 e3 e4
theorem Wd.putO(w:Wd K H0 O0 H O σ δ){i:Nat}{l:Wu}{vs us:List V}{ds es:List Wr}(e:δ[i]?=some (some (.o ds)))(hl:σ[i]?=some (some (.ref l)))(h:au K H O us es):
 Wd K H0 O0 (ao H l (.lst us)) O σ (δ.set i (some (.o es))):=
 w.putY (y0:= .o ds) (y1:= .o es) trivial trivial e hl λS a b=>⟨l,us,rfl,a,b,bu,h.step S⟩
end
abbrev DT:=Dl->(Wr->Prop)->Prop
abbrev DA:=Dl->(List Wr->Prop)->Prop
abbrev DB:=Dl->(Bool->Prop)->Prop
structure qh where
 nx:Dl->Prop
 rt:Wr->Prop
 bk:Dl->Prop:=λ_=>False
 ct:Dl->Prop:=λ_=>False
abbrev DS:=qh->Dl->Prop
section
variable (K:Pq) (H0:Hp) (O0:Ex)
inductive up (t:DT) (σ:St) (H:Hp) (R:VK):Prop
 | mk (O:Ex) (δ:Dl) (Qd:Wr->Prop):Wd K H0 O0 H O σ δ->t δ Qd->(∀d v H',Qd d->aq H H'->Dt K H' O v d->R v H')->up t σ H R
inductive qi (t:DT) (σ:St) (H:Hp) (R:VK):Prop
 | mk (O:Ex) (δ:Dl) (Qd:Wr->Prop):Wd K H0 O0 H O σ δ->t δ Qd->(∀d v H',Qd d->aq H H'->Sh K H' O v d->R v H')->qi t σ H R
inductive mC (t:DA) (σ:St) (H:Hp) (R:List V->Hp->Prop):Prop
 | mk (O:Ex) (δ:Dl) (Qd:List Wr->Prop):Wd K H0 O0 H O σ δ->t δ Qd->(∀ds vs H',Qd ds->aq H H'->au K H' O vs ds->R vs H')->mC t σ H R
inductive cQ (t:DB) (σ:St) (H:Hp) (R:Bool->Hp->Prop):Prop
 | mk (O:Ex) (δ:Dl) (Qd:Bool->Prop):Wd K H0 O0 H O σ δ->t δ Qd->(∀b H',Qd b->aq H H'->R b H')->cQ t σ H R
inductive cg (t:DS) (D:nI) (σ:St) (H:Hp):Prop
 | mk (O:Ex) (δ:Dl) (E:qh):Wd K H0 O0 H O σ δ->t E δ->(∀O' δ' σ' H',E.nx δ'->Wd K H0 O0 H' O' σ' δ'->aT H H' O O'->D.nx σ' H')->(∀d v H',E.rt d->aq H0 H'->Dt K H' O0 v d->D.rt v H')->
 (∀O' δ' σ' H',E.bk δ'->Wd K H0 O0 H' O' σ' δ'->aT H H' O O'->D.bk σ' H')->(∀O' δ' σ' H',E.ct δ'->Wd K H0 O0 H' O' σ' δ'->aT H H' O O'->D.ct σ' H')->cg t D σ H
end
theorem PE.imp{X:Cx}{e:WC}{t u:TE}(h:PE X e t)(i:∀σ H Q,u σ H Q->t σ H Q):PE X e u:=λYn s σ H Q I z=>h Yn s σ H Q I (i σ H Q z)
theorem PT.imp{X:Cx}{e:WC}{t u:TT}(h:PT X e t)(i:∀σ H Q,u σ H Q->t σ H Q):PT X e u:=λYn s σ H Q I z=>h Yn s σ H Q I (i σ H Q z)
theorem PW.imp{X:Cx}{e:WC}{t u:TT}(h:PW X e t)(i:∀σ H Q,u σ H Q->t σ H Q):PW X e u:=λwh Yn s σ H Q I z=>h wh Yn s σ H Q I (i σ H Q z)
theorem PA.imp{X:Cx}{e:List WC}{t u:TA}(h:PA X e t)(i:∀σ H Q,u σ H Q->t σ H Q):PA X e u:=λpos Yn s σ H Q I z=>h pos Yn s σ H Q I (i σ H Q z)
theorem PS.imp{X:Cx}{e:WK}{t u:TS}(h:PS X e t)(i:∀D σ H,u D σ H->t D σ H):PS X e u:=λYn s σ H D I z=>h Yn s σ H D I (i D σ H z)
theorem bG.imp{X:Cx}{e:List WK}{t u:TS}(h:bG X e t)(i:∀D σ H,u D σ H->t D σ H):bG X e u:=λYn s σ H D I z=>h Yn s σ H D I (i D σ H z)
section
variable {X:Cx} {H0:Hp} {O0:Ex}
abbrev DE(X:Cx)(H0:Hp)(O0:Ex)(e:WC)(t:DT):Prop:=PE X e (up X.K H0 O0 t)
abbrev DF(X:Cx)(H0:Hp)(O0:Ex)(e:WC)(t:DT):Prop:=PE X e (qi X.K H0 O0 t)
theorem df{e:WC}{t:DT}(h:DE X H0 O0 e t):DF X H0 O0 e t:=h.imp λσ H Q uu69=>by obtain⟨O,δ,Qd,w,q,k⟩:=uu69;exact⟨O,δ,Qd,w,q,λd v H' a b c=>k d v H' a b (.dt c)⟩
def C6(Q:Wr->Prop):Option (Option Sl)->Prop
 | some (some (.v d))=>Q d
 | _=>False
def kT(i:Nat):DT:=λδ Q=>C6 Q δ[i]?
theorem Je{Q:Wr->Prop}{o:Option (Option Sl)}:C6 Q o↔∃d,o=some (some (.v d))/\Q d:=by
 constructor
 ·intro h
  match o,h with
  | some (some (.v d)),h=>exact⟨d,rfl,h⟩
 ·rintro⟨d,rfl,h⟩;exact h
theorem Jf{i:Nat}{δ:Dl}{Q:Wr->Prop}(h:kT i δ Q):∃d,δ[i]?=some (some (.v d))/\Q d:=Je.mp h
def di(i:Nat):DT:=λδ Q=>∃ds,δ[i]?=some (some (.o ds))/\Q (.list ds)
def dC(d:Wr):DT:=λ_ Q=>Q d
theorem dv(i:Nat){x:Str}{pos:Pos}(hN:X.N[i]?=some x:=by rfl)(hv:sg X.env.scope x:=by first | exact Uq rfl | exact TC (Uq rfl) | exact TC (TC rfl))
 (hd:(x==("__debug__":Str))=false:=by decide)(hcd:(x==("__classdict__":Str))=false:=by decide):DE X H0 O0 (.Name x pos) (kT i):=
 (pU hN hv hd hcd).imp λσ H Q uu70=>by
  obtain⟨O,δ,Qd,w,dq,k⟩:=uu70;obtain⟨d,e,q⟩:=Jf dq;obtain⟨v,h,r⟩:=w.val e;exact⟨v,h,k d v H q (aq.refl _) r⟩
theorem dw(i:Nat){x:Str}{pos:Pos}(hN:X.N[i]?=some x:=by rfl)(hv:sg X.env.scope x:=by first | exact Uq rfl | exact TC (Uq rfl) | exact TC (TC rfl))
 (hd:(x==("__debug__":Str))=false:=by decide)(hcd:(x==("__classdict__":Str))=false:=by decide):DF X H0 O0 (.Name x pos) (di i):=
 (pU hN hv hd hcd).imp λσ H Q uu71=>by
  obtain⟨O,δ,Qd,w,⟨ds,e,q⟩,k⟩:=uu71;obtain⟨l,vs,h,_,_,r,rs⟩:=w.own e;exact⟨_,h,k _ _ H q (aq.refl _) (.own r rs)⟩
theorem dc{e:WC}{v:V}{d:Wr}(h:PE X e (tC v))(r:∀H O,Dt X.K H O v d):DE X H0 O0 e (dC d):=h.imp λσ H Q uu72=>by obtain⟨O,δ,Qd,w,q,k⟩:=uu72;exact k d v H q (aq.refl _) (r H O)
theorem ae{i j pos}:DE X H0 O0 (.Constant (.int i) j pos) (dC (.int i)):=dc cG λ_ _=>.int i
theorem k7{b j pos}:DE X H0 O0 (.Constant (.bool b) j pos) (dC (.bool b)):=dc v9 λ_ _=>.bl b
theorem kh{j pos}:DE X H0 O0 (.Constant .none j pos) (dC .none):=dc pV λ_ _=>.non
theorem aw{x j pos}:DE X H0 O0 (.Constant (.str x) j pos) (dC (.str x)):=dc wj λ_ _=>.str x
def cR:DA:=λ_ Q=>Q []
def cL(t:DT)(u:DA):DA:=λδ Q=>t δ λd=>u δ λds=>Q (d::ds)
theorem ah:PA X [] (mC X.K H0 O0 cR):=bJ.imp λσ H Q uu73=>by obtain⟨O,δ,Qd,w,q,k⟩:=uu73;exact k [] [] H q (aq.refl _) .nil
theorem aa{e:WC}{es:List WC}{t:DT}{u:DA}(h:DE X H0 O0 e t)(hs:PA X es (mC X.K H0 O0 u))(he:WB (e::es) X.env=(false,eval e X.env)::WB es X.env:=by rfl):PA X (e::es) (mC X.K H0 O0 (cL t u)):=
 (aQ h hs he).imp λσ H Q uu74=>by obtain⟨O,δ,Qd,w,q,k⟩:=uu74;exact⟨O,δ,_,w,q,λd v H1 q1 s1 r1=>⟨O,δ,_,w.mono s1,q1,λds vs H2 q2 s2 r2=>k (d::ds) (v::vs) H2 q2 (s1.trans s2) (.cons (r1.mono s2) r2)⟩⟩
def dj(t:DA):DT:=λδ Q=>t δ λds=>ds.length<=WA/\Q (.tuple ds)
def fR(t:DA):DT:=λδ Q=>t δ λds=>ds.length<=WA/\Q (.list ds)
theorem sU{H:Hp}{O:Ex}{σ:St}{δ:Dl}{H1:Hp}{p:Wu}{K:Pq}(w:Wd K H0 O0 H O σ δ)(s:aq H H1)(hp:H1 p=none):¬O p:=λz=>(w.mono s).trk p z hp
theorem bD{es:List WC}{t:DA}{x1}{pos:Pos}(h:PA X es (mC X.K H0 O0 t)):DE X H0 O0 (.Tuple es x1 pos) (dj t):=
 (uz h).imp λσ H Q uu75=>by obtain⟨O,δ,Qd,w,q,k⟩:=uu75;exact⟨O,δ,_,w,q,λds vs H1 q1 s1 r1=>⟨by rw [r1.length];exact q1.1,λp hp=>k _ _ _ q1.2 (s1.trans (aq.new hp)) (.tup (.inl bu) (sU w s1 hp) (r1.mono (aq.new hp)))⟩⟩
end
theorem aT.refl(H:Hp)(O:Ex):aT H H O O:=⟨λ_ _ e _=>e,λ_ _ n=>n⟩
theorem aT.trans{H H1 H2:Hp}{O O1 O2:Ex}(a:aT H H1 O O1)(b:aT H1 H2 O1 O2):aT H H2 O O2:=by
 refine⟨λc o e n=>?_,λc e n=>?_⟩
 ·have h1:=a.keep c o e n;exact b.keep c o h1 (a.out c (by rw [e];exact λz=>nomatch z) n)
 ·cases q:H c with
  | none=>exact absurd q e
  | some o=>exact b.out c (by rw [a.keep c o q n];exact λz=>nomatch z) (a.out c e n)
section
variable {X:Cx} {H0:Hp} {O0:Ex}
def cS(K:Pq)(r:R2)(rd:Wr->Wr->(Wr->Prop)->Prop):Prop:=
 ∀(H:Hp)(O:Ex)(x y:V)(dx dy:Wr)(Qd:Wr->Prop)(R:VK),(∀l,O l->H l≠none)->Sh K H O x dx->Sh K H O y dy->rd dx dy Qd->(∀d v H',Qd d->aq H H'->Dt K H' O v d->R v H')->r x y H R
def bE(rd:Wr->Wr->(Wr->Prop)->Prop)(ta tb:DT):DT:=λδ Q=>ta δ λx=>tb δ λy=>rd x y Q
theorem uH{K:Pq}{r:R2}{rd:Wr->Wr->(Wr->Prop)->Prop}{ta tb:DT}(hd:cS K r rd):∀σ H Q,up K H0 O0 (bE rd ta tb) σ H Q->pY r (qi K H0 O0 ta) (qi K H0 O0 tb) σ H Q:=
 λσ H Q uu76=>by obtain⟨O,δ,Qd,w,q,k⟩:=uu76;exact⟨O,δ,_,w,q,λx v H1 q1 s1 r1=>⟨O,δ,_,w.mono s1,q1,λy u H2 q2 s2 r2=>hd H2 O v u x y Qd _ (w.mono (s1.trans s2)).trk (r1.mono s2) r2 q2 λd z H3 qd s3 r3=>k d z H3 qd (s1.trans (s2.trans s3)) r3⟩⟩
theorem Jg{a b:WC}{ta tb:DT}{op:Operator}{r:R2}{rd:Wr->Wr->(Wr->Prop)->Prop}{pos:Pos}(ho:bC X (W7 op) r)(hd:cS X.K r rd)(ha:DF X H0 O0 a ta)(hb:DF X H0 O0 b tb):DE X H0 O0 (.BinOp a op b pos) (bE rd ta tb):=(bY ho ha hb).imp (uH hd)
theorem fS{a b:WC}{ta tb:DT}{op:CmpOp}{r:R2}{rd:Wr->Wr->(Wr->Prop)->Prop}{pos:Pos}(ho:bC X (WM op) r)(hd:cS X.K r rd)(ha:DF X H0 O0 a ta)(hb:DF X H0 O0 b tb)(hm:W6 op b=false):DE X H0 O0 (.Compare a [op] [b] pos) (bE rd ta tb):=(pZ ho ha hb hm).imp (uH hd)
def bS(t:DT):DB:=λδ Q=>t δ λd=>∃b,d= .bool b/\Q b
theorem Jh{a b:WC}{ta tb:DT}{op:CmpOp}{r:R2}{rd:Wr->Wr->(Wr->Prop)->Prop}{pos:Pos}(ho:bC X (WM op) r)(hd:cS X.K r rd)(ha:DF X H0 O0 a ta)(hb:DF X H0 O0 b tb)(hm:W6 op b=false):PT X (.Compare a [op] [b] pos) (cQ X.K H0 O0 (bS (bE rd ta tb))):=
 (p4 ho ha hb hm).imp λσ H Q uu77=>by obtain⟨O,δ,Qd,w,q,k⟩:=uu77;exact uH hd σ H _ ⟨O,δ,_,w,q,λd v H' uu78 s r=>by obtain⟨b,e,qb⟩:=uu78;subst e;cases r;exact⟨b,rfl,k b H' qb s⟩⟩
theorem bV{e:WC}{t:DT}(h:DE X H0 O0 e t)(he:∀whole,isTrue e X.env whole=(do let v<-whole;standAt e.pos;XZ [v] (truthy v)):=by intro _;rfl):PT X e (cQ X.K H0 O0 (bS t)):=
 (qK h he).imp λσ H Q uu79=>by obtain⟨O,δ,Qd,w,q,k⟩:=uu79;exact⟨O,δ,_,w,q,λd v H' uu80 s r=>by obtain⟨b,e,qb⟩:=uu80;subst e;cases r;exact⟨b,rfl,k b H' qb s⟩⟩
def dm(t u:DB):DB:=λδ Q=>t δ λc=>if c=true then u δ Q else Q false
def dn(t u:DB):DB:=λδ Q=>t δ λc=>if c=true then Q true else u δ Q
def dz(t:DB):DB:=λδ Q=>t δ λc=>Q (!c)
theorem lF{a:WC}{t:DB}{pos:Pos}(h:PT X a (cQ X.K H0 O0 t)):PW X (.BoolOp .And [a] pos) (cQ X.K H0 O0 t):=BX h
theorem kF{a:WC}{t:DB}{pos:Pos}(h:PT X a (cQ X.K H0 O0 t)):PW X (.BoolOp .Or [a] pos) (cQ X.K H0 O0 t):=BY h
theorem kG{a b:WC}{rest:List WC}{t u:DB}{pos:Pos}(h:PT X a (cQ X.K H0 O0 t))(hb:PW X (.BoolOp .And (b::rest) pos) (cQ X.K H0 O0 u)):PW X (.BoolOp .And (a::b::rest) pos) (cQ X.K H0 O0 (dm t u)):=
 (BZ h hb).imp λσ H Q uu81=>by obtain⟨O,δ,Qd,w,q,k⟩:=uu81;exact⟨O,δ,_,w,q,λc H1 q1 s1=>by
  cases c with
  | true=>exact⟨O,δ,_,w.mono s1,q1,λb H2 q2 s2=>k b H2 q2 (s1.trans s2)⟩
  | false=>exact k false H1 q1 s1⟩
theorem kc{a b:WC}{rest:List WC}{t u:DB}{pos:Pos}(h:PT X a (cQ X.K H0 O0 t))(hb:PW X (.BoolOp .Or (b::rest) pos) (cQ X.K H0 O0 u)):PW X (.BoolOp .Or (a::b::rest) pos) (cQ X.K H0 O0 (dn t u)):=
 (wt h hb).imp λσ H Q uu82=>by obtain⟨O,δ,Qd,w,q,k⟩:=uu82;exact⟨O,δ,_,w,q,λc H1 q1 s1=>by
  cases c with
  | false=>exact⟨O,δ,_,w.mono s1,q1,λb H2 q2 s2=>k b H2 q2 (s1.trans s2)⟩
  | true=>exact k true H1 q1 s1⟩
theorem ki{a:WC}{t:DB}{pos:Pos}(h:PT X a (cQ X.K H0 O0 t)):PT X (.UnaryOp .Not a pos) (cQ X.K H0 O0 (dz t)):=
 (wu h).imp λσ H Q uu83=>by obtain⟨O,δ,Qd,w,q,k⟩:=uu83;exact⟨O,δ,_,w,q,λc H1 q1 s1=>k (!c) H1 q1 s1⟩
def dA(t u:DT):DT:=λδ Q=>t δ λd=>∃c,d= .bool c/\if c=true then u δ Q else Q (.bool false)
def fT(t u:DT):DT:=λδ Q=>t δ λd=>∃c,d= .bool c/\if c=true then Q (.bool true) else u δ Q
def dB(t:DT):DT:=λδ Q=>t δ λd=>∃c,d= .bool c/\Q (.bool (!c))
theorem lK{op}{a:WC}{t:DT}{pos:Pos}(h:DE X H0 O0 a t):DE X H0 O0 (.BoolOp op [a] pos) t:=si h
theorem kI{a b:WC}{rest:List WC}{t u:DT}{pos:Pos}(h:DE X H0 O0 a t)(hb:DE X H0 O0 (.BoolOp .And (b::rest) pos) u):DE X H0 O0 (.BoolOp .And (a::b::rest) pos) (dA t u):=
 (sk h hb).imp λσ H Q ⟨O,δ,Qd,w,q,k⟩=>⟨O,δ,_,w,q,λd v H1 uu85 s1 r=>by
  obtain⟨c,e,q1⟩:=uu85;subst e;cases r;refine⟨c,rfl,?_⟩;cases c with
  | true=>exact⟨O,δ,_,w.mono s1,q1,λd v H2 q2 s2 r2=>k d v H2 q2 (s1.trans s2) r2⟩
  | false=>exact k _ _ H1 q1 s1 (.bl false)⟩
theorem Ji{a:WC}{t:DT}{pos:Pos}(h:DE X H0 O0 a t):DE X H0 O0 (.UnaryOp .Not a pos) (dB t):=
 (B0 h).imp λσ H Q uu86=>by obtain⟨O,δ,Qd,w,q,k⟩:=uu86;exact⟨O,δ,_,w,q,λd v H1 uu87 s1 r=>by
  obtain⟨c,e,q1⟩:=uu87;subst e;cases r;exact⟨c,rfl,k _ _ H1 q1 s1 (.bl _)⟩⟩
def dD(c:DB)(t u:DT):DT:=λδ Q=>c δ λb=>if b=true then t δ Q else u δ Q
theorem uI{c a b:WC}{tc:DB}{t u:DT}{pos:Pos}(hc:PT X c (cQ X.K H0 O0 tc))(ha:DE X H0 O0 a t)(hb:DE X H0 O0 b u):DE X H0 O0 (.IfExp c a b pos) (dD tc t u):=
 (G6 hc ha hb).imp λσ H Q uu88=>by obtain⟨O,δ,Qd,w,q,k⟩:=uu88;exact⟨O,δ,_,w,q,λc H1 q1 s1=>by
  cases c with
  | true=>exact⟨O,δ,_,w.mono s1,q1,λd v H2 q2 s2 r2=>k d v H2 q2 (s1.trans s2) r2⟩
  | false=>exact⟨O,δ,_,w.mono s1,q1,λd v H2 q2 s2 r2=>k d v H2 q2 (s1.trans s2) r2⟩⟩
def cM(rd rd':Wr->Wr->(Wr->Prop)->Prop)(ta tb tc:DT):DT:=λδ Q=>ta δ λx=>tb δ λy=>rd x y λz=>∃k,z= .bool k/\if k=true then tc δ λu=>rd' y u Q else Q (.bool false)
theorem C7{K:Pq}{r r':R2}{rd rd':Wr->Wr->(Wr->Prop)->Prop}{ta tb tc:DT}(hd:cS K r rd)(hd':cS K r' rd'):∀σ H Q,up K H0 O0 (cM rd rd' ta tb tc) σ H Q->uw r r' (qi K H0 O0 ta) (qi K H0 O0 tb) (qi K H0 O0 tc) σ H Q:=
 λσ H Q ⟨O,δ,Qd,w,q,k⟩=>⟨O,δ,_,w,q,λx v H1 q1 s1 r1=>⟨O,δ,_,w.mono s1,q1,λy u H2 q2 s2 r2=>hd H2 O v u x y _ _ (w.mono (s1.trans s2)).trk (r1.mono s2) r2 q2 λd z H3 uu90 s3 r3=>by
  obtain⟨c,e,q3⟩:=uu90;subst e;cases r3;refine⟨c,rfl,?_⟩;cases c with
  | true=>exact⟨O,δ,_,w.mono (s1.trans (s2.trans s3)),q3,λu' p H4 q4 s4 r4=>hd' H4 O u p y u' Qd _ (w.mono (s1.trans (s2.trans (s3.trans s4)))).trk (r2.mono (s3.trans s4)) r4 q4 λd z H5 qd s5 r5=>k d z H5 qd (s1.trans (s2.trans (s3.trans (s4.trans s5)))) r5⟩
  | false=>exact k _ _ H3 q3 (s1.trans (s2.trans s3)) (.bl false)⟩⟩
theorem uJ{a b c:WC}{ta tb tc:DT}{op op':CmpOp}{r r':R2}{rd rd':Wr->Wr->(Wr->Prop)->Prop}{pos:Pos}(ho:bC X (WM op) r)(ho':bC X (WM op') r')(hd:cS X.K r rd)(hd':cS X.K r' rd')(ha:DF X H0 O0 a ta)(hb:DF X H0 O0 b tb)(hc:DF X H0 O0 c tc)
 (hm:lastMarks [op,op'] [b,c]=false:=by with_unfolding_all rfl):DE X H0 O0 (.Compare a [op,op'] [b,c] pos) (cM rd rd' ta tb tc):=(Ho ho ho' ha hb hc hm).imp (C7 hd hd')
theorem pw{a b c:WC}{ta tb tc:DT}{op op':CmpOp}{r r':R2}{rd rd':Wr->Wr->(Wr->Prop)->Prop}{pos:Pos}(ho:bC X (WM op) r)(ho':bC X (WM op') r')(hd:cS X.K r rd)(hd':cS X.K r' rd')(ha:DF X H0 O0 a ta)(hb:DF X H0 O0 b tb)(hc:DF X H0 O0 c tc)
 (hm:lastMarks [op,op'] [b,c]=false:=by with_unfolding_all rfl):PT X (.Compare a [op,op'] [b,c] pos) (cQ X.K H0 O0 (bS (cM rd rd' ta tb tc))):=
 (Hq ho ho' ha hb hc hm).imp λσ H Q uu91=>by obtain⟨O,δ,Qd,w,q,k⟩:=uu91;exact C7 hd hd' σ H _ ⟨O,δ,_,w,q,λd v H' uu92 s r=>by obtain⟨b,e,qb⟩:=uu92;subst e;cases r;exact⟨b,rfl,k b H' qb s⟩⟩
inductive bg (K:Pq) (F:List Wr->(Wr->Prop)->Prop) (vs:List V) (H:Hp) (Q:VK) (E:XK):Prop
 | mk (O:Ex) (ds:List Wr) (Qd:Wr->Prop):(∀l,O l->H l≠none)->au K H O vs ds->F ds Qd->(∀d v H',Qd d->aq H H'->Dt K H' O v d->Q v H')->bg K F vs H Q E
def cN(F:List Wr->(Wr->Prop)->Prop)(t:DA):DT:=λδ Q=>t δ λds=>F ds Q
theorem C8{K:Pq}{F:List Wr->(Wr->Prop)->Prop}{t:DA}{E:XK}:∀σ H Q,up K H0 O0 (cN F t) σ H Q->sN (bg K F) [] E (mC K H0 O0 t) σ H Q:=
 λσ H Q uu93=>by obtain⟨O,δ,Qd,w,q,k⟩:=uu93;exact⟨O,δ,_,w,q,λds vs H1 q1 s1 r1=>⟨O,ds,Qd,(w.mono s1).trk,by rw [PX];exact r1,q1,λd v H2 q2 s2 r2=>k d v H2 q2 (s1.trans s2) r2⟩⟩
inductive sV (K:Pq) (H:Hp) (O:Ex):List V->List Wr->Prop
 | nil:sV K H O [] []
 | cons {v:V} {d:Wr} {vs:List V} {ds:List Wr}:Sh K H O v d->sV K H O vs ds->sV K H O (v::vs) (d::ds)
inductive mD (K:Pq) (H0:Hp) (O0:Ex) (t:DA) (σ:St) (H:Hp) (R:List V->Hp->Prop):Prop
 | mk (O:Ex) (δ:Dl) (Qd:List Wr->Prop):Wd K H0 O0 H O σ δ->t δ Qd->(∀ds vs H',Qd ds->aq H H'->sV K H' O vs ds->R vs H')->mD K H0 O0 t σ H R
theorem aB:PA X [] (mD X.K H0 O0 cR):=bJ.imp λσ H Q uu94=>by obtain⟨O,δ,Qd,w,q,k⟩:=uu94;exact k [] [] H q (aq.refl _) .nil
theorem qT{e:WC}{es:List WC}{t:DT}{u:DA}(h:DF X H0 O0 e t)(hs:PA X es (mD X.K H0 O0 u))(he:WB (e::es) X.env=(false,eval e X.env)::WB es X.env:=by rfl):PA X (e::es) (mD X.K H0 O0 (cL t u)):=
 (aQ h hs he).imp λσ H Q uu95=>by obtain⟨O,δ,Qd,w,q,k⟩:=uu95;exact⟨O,δ,_,w,q,λd v H1 q1 s1 r1=>⟨O,δ,_,w.mono s1,q1,λds vs H2 q2 s2 r2=>k (d::ds) (v::vs) H2 q2 (s1.trans s2) (.cons (r1.mono s2) r2)⟩⟩
def fU(F:List Wr->(Wr->Prop)->Prop)(t:DA):DT:=λδ Q=>t δ λds=>F ds λd=>cH d=true/\Q d
def nk(K:Pq)(r:List V->Hp->VK->Prop)(rd:List Wr->(Wr->Prop)->Prop):Prop:=
 ∀(H:Hp)(O:Ex)(xs:List V)(ds:List Wr)(Qd:Wr->Prop)(R:VK),(∀l,O l->H l≠none)->sV K H O xs ds->rd ds Qd->(∀d v H',Qd d->aq H H'->Dt K H' O v d->R v H')->r xs H R
theorem aE{K:Pq}{r:List V->Hp->VK->Prop}{rd:List Wr->(Wr->Prop)->Prop}{t:DA}(hd:nk K r rd):∀σ H Q,up K H0 O0 (cN rd t) σ H Q->sO r (mD K H0 O0 t) σ H Q:=
 λσ H Q uu96=>by obtain⟨O,δ,Qd,w,q,k⟩:=uu96;exact⟨O,δ,_,w,q,λds vs H1 q1 s1 r1=>hd H1 O vs ds Qd _ (w.mono s1).trk r1 q1 λd v H2 q2 s2 r2=>k d v H2 q2 (s1.trans s2) r2⟩
def dE(t u:DS):DS:=λE δ=>t {E with nx:=u E} δ
theorem ai{st:WK}{rest:List WK}{t u:DS}(h:PS X st (cg X.K H0 O0 t))(h2:bG X rest (cg X.K H0 O0 u)):bG X (st::rest) (cg X.K H0 O0 (dE t u)):=
 (kP h h2).imp λD σ H uu0=>by obtain⟨O,δ,E,w,q,k1,k2,k3,k4⟩:=uu0;exact⟨O,δ,_,w,q,λO' δ' σ' H' z w' S=>⟨O',δ',E,w',z,λO2 δ2 σ2 H2 z2 w2 S2=>k1 O2 δ2 σ2 H2 z2 w2 (S.trans S2),k2,λO2 δ2 σ2 H2 z2 w2 S2=>k3 O2 δ2 σ2 H2 z2 w2 (S.trans S2),λO2 δ2 σ2 H2 z2 w2 S2=>k4 O2 δ2 σ2 H2 z2 w2 (S.trans S2)⟩,k2,k3,k4⟩
def dF:DS:=λE δ=>E.nx δ
theorem aG:bG X [] (cg X.K H0 O0 dF):=oX.imp λD σ H uu1=>by obtain⟨O,δ,E,w,q,k1,k2,k3,k4⟩:=uu1;exact k1 O δ σ H q w (aT.refl _ _)
theorem ak{st:WK}{t:DS}(h:PS X st (cg X.K H0 O0 t)):bG X [st] (cg X.K H0 O0 t):=kz h
def cT(i:Nat)(t:DT):DS:=λE δ=>t δ λd=>E.nx (δ.set i (some (.v d)))
theorem aW{i:Nat}{x:Str}{e:WC}{t:DT}{pos pos':Pos}(hN:X.N.Nodup)(hi:X.N[i]?=some x)(hx:nH X.env.scope x)(he:DE X H0 O0 e t)(hs:W2 e (some (.Name x pos')) pos.line X.env=pure false:=by rfl)(hf:X.fn x=true\/X.env.scope.names.lookup x=some .local:=by first | exact .inl rfl | exact .inr rfl | assumption):
 PS X (.Assign [.Name x pos'] e pos) (cg X.K H0 O0 (cT i t)):=
 (mx hN hi hx he hs hf).imp λD σ H uu2=>by obtain⟨O,δ,E,w,q,k1,k2,k3,k4⟩:=uu2;exact⟨O,δ,_,w,q,λd v H1 q1 s1 r1=>k1 O _ _ H1 q1 ((w.mono s1).set r1) (.same s1)⟩
def dG(t:DT):DS:=λE δ=>t δ E.rt
theorem nN{K:Pq}{H:Hp}{O:Ex}{σ:St}{δ:Dl}(w:Wd K H0 O0 H O σ δ):aT H H O O0:=⟨λ_ _ e _=>e,λb _ n z=>n (w.sub b z)⟩
theorem ax{e:WC}{t:DT}{pos:Pos}(he:DE X H0 O0 e t):PS X (.Return (some e) pos) (cg X.K H0 O0 (dG t)):=
 (kQ he).imp λD σ H uu3=>by obtain⟨O,δ,E,w,q,k1,k2,k3,k4⟩:=uu3;exact⟨O,δ,_,w,q,λd v H1 q1 s1 r1=>k2 d v H1 q1 (w.same.trans s1) (r1.step (nN (w.mono s1)))⟩
def fV(i:Nat):DS:=λE δ=>∃ds,δ[i]?=some (some (.o ds))/\E.rt (.list ds)
def dH(c:DB)(t u:DS):DS:=λE δ=>c δ λb=>if b=true then t E δ else u E δ
theorem aH{c:WC}{a b:List WK}{tc:DB}{t u:DS}{pos:Pos}(hc:PT X c (cQ X.K H0 O0 tc))(ha:bG X a (cg X.K H0 O0 t))(hb:bG X b (cg X.K H0 O0 u)):PS X (.If c a b pos) (cg X.K H0 O0 (dH tc t u)):=
 (oY hc ha hb).imp λD σ H uu4=>by obtain⟨O,δ,E,w,q,k1,k2,k3,k4⟩:=uu4;exact⟨O,δ,_,w,q,λc H1 q1 s1=>by
  have g:∀{t':DS},t' E δ->cg X.K H0 O0 t' D σ H1:=λz=>⟨O,δ,E,w.mono s1,z,λO2 δ2 σ2 H2 z2 w2 S2=>k1 O2 δ2 σ2 H2 z2 w2 (aT.trans (.same s1) S2),k2,λO2 δ2 σ2 H2 z2 w2 S2=>k3 O2 δ2 σ2 H2 z2 w2 (aT.trans (.same s1) S2),λO2 δ2 σ2 H2 z2 w2 S2=>k4 O2 δ2 σ2 H2 z2 w2 (aT.trans (.same s1) S2)⟩;cases c with
  | true=>exact g q1
  | false=>exact g q1⟩
def fW(t:DT):DS:=λE δ=>t δ λ_=>E.nx δ
inductive uK (K:Pq) (H0:Hp) (O0:Ex) (t:DA) (σ:St) (H:Hp) (R:VK):Prop
 | mk (O:Ex) (δ:Dl) (Qd:List Wr->Prop):Wd K H0 O0 H O σ δ->t δ Qd->(∀ds vs p H',Qd ds->aq H H'->H' p=none->au K H' O vs ds->R (.ref p) (ao H' p (.lst vs)))->uK K H0 O0 t σ H R
abbrev FE(X:Cx)(H0:Hp)(O0:Ex)(e:WC)(t:DA):Prop:=PE X e (uK X.K H0 O0 t)
def dL(t:DA):DT:=λδ Q=>t δ λds=>Q (.list ds)
theorem fe{e:WC}{t:DA}(h:FE X H0 O0 e t):DE X H0 O0 e (dL t):=
 h.imp λσ H Q uu5=>by obtain⟨O,δ,Qd,w,q,k⟩:=uu5;exact⟨O,δ,_,w,q,λds vs p H1 q1 s1 hp r1=>k _ _ _ q1 (s1.trans (aq.new hp)) (.lst (.inl bu) (sU w s1 hp) (r1.mono (aq.new hp)))⟩
def cU(t:DA):DA:=λδ Q=>t δ λds=>ds.length<=WA/\Q ds
theorem bw{es:List WC}{t:DA}{pos:Pos}(h:PA X es (mC X.K H0 O0 t)):FE X H0 O0 (.List es pos) (cU t):=
 (xN h).imp λσ H Q uu6=>by obtain⟨O,δ,Qd,w,q,k⟩:=uu6;exact⟨O,δ,_,w,q,λds vs H1 q1 s1 r1=>⟨by rw [r1.length];exact q1.1,λp hp=>k _ _ _ _ q1.2 s1 hp r1⟩⟩
def dJ(i:Nat)(t:DA):DS:=λE δ=>t δ λds=>E.nx (δ.set i (some (.o ds)))
theorem nO{i:Nat}{x:Str}{e:WC}{t:DA}{pos pos':Pos}(hN:X.N.Nodup)(hi:X.N[i]?=some x)(hx:nH X.env.scope x)(he:FE X H0 O0 e t)(hs:W2 e (some (.Name x pos')) pos.line X.env=pure false:=by rfl)(hf:X.fn x=true\/X.env.scope.names.lookup x=some .local:=by first | exact .inl rfl | exact .inr rfl | assumption):
 PS X (.Assign [.Name x pos'] e pos) (cg X.K H0 O0 (dJ i t)):=
 (mx hN hi hx he hs hf).imp λD σ H ⟨O,δ,E,w,q,k1,k2,k3,k4⟩=>⟨O,δ,_,w,q,λds vs p H1 q1 s1 hp r1=>k1 _ _ _ _ q1 ((w.mono s1).setO hp r1)
  ⟨λb o e _=>(s1.trans (aq.new hp)) b o e,λb e n z=>z.elim n λy=>by
   cases q:H b with
   | none=>exact e q
   | some o=>have:=s1 _ _ q;rw [y,hp] at this;cases this⟩⟩
def dM(i:Nat)(t:DT):DS:=λE δ=>∃ds,δ[i]?=some (some (.o ds))/\t δ λd=>ds.length < WA/\E.nx (δ.set i (some (.o (ds++[d]))))
theorem sW{i:Nat}{o e:WC}{t:DT}{apos cpos pos:Pos}(ho:PE X o (n9 i))(he:DE X H0 O0 e t)(hbase:Xi o "append" X.env (eval o X.env)=eval o X.env:=by rfl)
 (hfew:((WU cpos (WB [e] X.env)).all (λx=>!x.1) && (X6 cpos (XF [] X.env)).all (λx=>x.1.isSome) && decide ([e].length+([]:List Xv).length+(if ([]:List Xv).isEmpty then 0 else 1) < 30))=true:=by rfl)
 (hline:(apos.endLine==cpos.line)=true:=by rfl)(hst:WB [e] X.env=(false,eval e X.env)::WB [] X.env:=by rfl)(hplain:(WU cpos (WB [] X.env)).any (·.1)=false:=by rfl)
 (hs:W2 (.Call (.Attribute o "append" apos) [e] [] cpos) none pos.line X.env=pure false:=by rfl):PS X (.Expr (.Call (.Attribute o "append" apos) [e] [] cpos) pos) (cg X.K H0 O0 (dM i t)):=
 (G8 (sR PySem.F.plainAttrs_list PySem.F.slot_list_append PySem.F.type_list_append CA ho (aQ he bJ hst) hbase hfew hline hst hplain) hs).imp λD σ H uu8=>by
  obtain⟨O,δ,E,w,⟨ds,e,q⟩,k1,k2,k3,k4⟩:=uu8;obtain⟨l,vs,h,a,b,c,r⟩:=w.own e;refine⟨_,h,.inl ⟨rfl,_,bf.of c⟩,O,δ,_,w,q,λd v H1 q1 s1 r1=>?_⟩;refine⟨l,vs,v,rfl,rfl,s1 _ _ c,by rw [r.length];exact q1.1,?_⟩;exact k1 _ _ _ _ q1.2 ((w.mono s1).putO (vs:=vs) e h ((r.mono s1).append (.cons r1 .nil))) ⟨λb' o' z n=>by rw [ay (λy=>n (by rw [y];exact a))];exact s1 _ _ z,λ_ _ n=>n⟩
end
structure kK (J:It) (P:Hp->Prop) (vs:List V):Prop where
 go:∀i H',P H'->i < vs.length->J.go i H'
 yl:∀i H' x H'',P H'->i < vs.length->J.yld i H' x H''->H''=H'/\vs[i]?=some x
 st:∀i H',P H'->vs.length<=i->J.stop i H'
def uL(H1:Hp)(a:Wu)(H':Hp):Prop:=∀o,H1 a=some o->H' a=some o
theorem bf.keep{K:Pq}{H H':Hp}{a:Wu}{xs:List V}(s:uL H a H')(h:bf K H a xs):bf K H' a xs:=by
 rcases h with(h | ⟨o,h⟩) | h
 ·exact .inl (.inl (s _ h))
 ·exact .inl (.inr ⟨o,s _ h⟩)
 ·exact .inr h
theorem aY.keep{K:Pq}{H H':Hp}{a:Wu}{xs:List V}(s:uL H a H')(h:aY K H a xs):aY K H' a xs:=by
 rcases h with(h | ⟨o,h⟩) | h
 ·exact .inl (.inl (s _ h))
 ·exact .inl (.inr ⟨o,s _ h⟩)
 ·exact .inr h
theorem kK.list{K:Pq}{H:Hp}{a:Wu}{vs:List V}(h:bf K H a vs):kK (sE K a) (uL H a) vs:=
 ⟨λi H' s hi=>⟨vs,vs[i],h.keep s,by simp [hi]⟩,λi H' x H'' s _ y=>⟨y.1,y.2 vs (h.keep s)⟩,λi H' s hi=>⟨vs,h.keep s,hi⟩⟩
theorem kK.tup{K:Pq}{H:Hp}{a:Wu}{vs:List V}(h:aY K H a vs):kK (sF K a) (uL H a) vs:=
 ⟨λi H' s hi=>⟨vs,vs[i],h.keep s,by simp [hi]⟩,λi H' x H'' s _ y=>⟨y.1,y.2 vs (h.keep s)⟩,λi H' s hi=>⟨vs,h.keep s,hi⟩⟩
def lj(lo:Int)(n:Nat):List Wr:=(Rx n).map λ(k:Nat)=>.int (lo+k)
theorem kK.rng{lo:Int}{n:Nat}:kK (nJ lo n) (λ_=>True) ((Rx n).map λ(k:Nat)=>V.int (lo+k)):=by
 refine⟨λi H' s hi=>(by simpa using hi:i < n),λi H' x H'' s hi y=>⟨y.1,?_⟩,λi H' s hi=>(by simpa using hi:n<=i)⟩;obtain⟨_,rfl⟩:=y;have hn:i < n:=by simpa using hi
 simp [hn]
theorem au.rng{K:Pq}{H:Hp}{O:Ex}{lo:Int}:∀(l:List Nat),au K H O (l.map λ(k:Nat)=>V.int (lo+k)) (l.map λ(k:Nat)=>PN (lo+k))
 | []=>.nil
 | n::r=>.cons (.int _) (au.rng r)
abbrev DG:=Wr->Dl->(Dl->Prop)->Prop
def GD(K:Pq)(g:TG)(dg:DG):Prop:=∀(H0:Hp)(O0:Ex)(H:Hp)(O:Ex)(σ:St)(δ:Dl)(v:V)(x:Wr)(R:St->Hp->Prop)(Qd:Dl->Prop),Wd K H0 O0 H O σ δ->Dt K H O v x->dg x δ Qd->(∀δ' σ',Qd δ'->Wd K H0 O0 H O σ' δ'->R σ' H)->g v σ H R
def dN(i:Nat):DG:=λx δ Q=>Q (δ.set i (some (.v x)))
theorem bW{K:Pq}{i:Nat}:GD K (nh i) (dN i):=λH0 O0 H O σ δ v x R Qd w r q k=>k _ _ q (w.set r)
abbrev oA:=List Wr->Dl->(Dl->Prop)->Prop
def sX(K:Pq)(g:mv)(dg:oA):Prop:=∀(H0:Hp)(O0:Ex)(H:Hp)(O:Ex)(σ:St)(δ:Dl)(vs:List V)(xs:List Wr)(R:St->Hp->Prop)(Qd:Dl->Prop),Wd K H0 O0 H O σ δ->au K H O vs xs->dg xs δ Qd->(∀δ' σ',Qd δ'->Wd K H0 O0 H O σ' δ'->R σ' H)->g vs σ H R
def dO:oA:=λxs δ Q=>xs=[]/\Q δ
def dP(t:DG)(u:oA):oA:=λxs δ Q=>∃x r,xs=x::r/\t x δ λδ'=>u r δ' Q
theorem sY{K:Pq}:sX K sr dO:=λH0 O0 H O σ δ vs xs R Qd w r uu9 k=>by obtain⟨e,q⟩:=uu9;subst e;cases r;exact⟨rfl,k _ _ q w⟩
theorem nr{K:Pq}{t:TG}{u:mv}{dt:DG}{du:oA}(h:GD K t dt)(h2:sX K u du):sX K (qL t u) (dP dt du):=λH0 O0 H O σ δ vs xs R Qd w r uu10 k=>by
 obtain⟨x,rr,e,q⟩:=uu10;subst e;cases r with
 | cons r1 r2=>exact⟨_,_,rfl,h H0 O0 H O σ δ _ _ _ _ w r1 q λδ' σ' q' w'=>h2 H0 O0 H O σ' δ' _ _ R Qd w' r2 q' k⟩
def dQ(n:Nat)(t:oA):DG:=λx δ Q=>∃xs,x= .tuple xs/\xs.length=n/\t xs δ Q
theorem uM{K:Pq}{n:Nat}{t:mv}{dt:oA}(h:sX K t dt):GD K (sA K n t) (dQ n dt):=λH0 O0 H O σ δ v x R Qd w r uu11 k=>by
 obtain⟨xs,e,hl,q⟩:=uu11;subst e;obtain⟨a,vs,rfl,hs,rr⟩:=(Sh.dt r).tup;exact⟨a,vs,rfl,hs,by rw [rr.length];exact hl,h H0 O0 H O σ δ _ _ R Qd w rr q k⟩
section
variable {X:Cx} {H0:Hp} {O0:Ex}
def dR(t:DT)(g:DG):DS:=λE δ=>t δ λd=>g d δ E.nx
theorem C9{tg e:WC}{t:DT}{g:TG}{dg:DG}{pos:Pos}(he:DE X H0 O0 e t)(hg:PG X tg g)(gd:GD X.K g dg)(hs:Yg [tg] e pos.line X.env=pure false:=by rfl)(hw:Yh [tg] e X.env=pure none:=by rfl)
 (h1:(Xl [tg] X.env).map (·.2)=[assign tg X.env]:=by rfl):PS X (.Assign [tg] e pos) (cg X.K H0 O0 (dR t dg)):=
 (B2 he hg hs hw h1).imp λD σ H uu12=>by obtain⟨O,δ,E,w,q,k1,k2,k3,k4⟩:=uu12;exact⟨O,δ,_,w,q,λd v H1 q1 s1 r1=>gd H0 O0 H1 O σ δ v d _ _ (w.mono s1) r1 q1 λδ' σ' q' w'=>k1 O δ' σ' H1 q' w' (.same s1)⟩
def dS(i j:Nat)(t:DA):DS:=λE δ=>t δ λds=>∃x y,ds=[x,y]/\E.nx ((δ.set i (some (.v x))).set j (some (.v y)))
theorem Jj{i j:Nat}{x y:Str}{a b:WC}{ta:DA}{px py pt pos:Pos}{kt k2 pt2}(hc:X.calm=true)(hN:X.N.Nodup)(hi:X.N[i]?=some x)(hj:X.N[j]?=some y)(hij:i≠j)
 (hx:X.env.scope.names.lookup x=some .local)(hy:X.env.scope.names.lookup y=some .local)(ha:PA X [a,b] (mC X.K H0 O0 ta))
 (hw:Yh [.Tuple [.Name x px,.Name y py] kt pt] (.Tuple [a,b] k2 pt2) X.env=pure (some [x,y]))
 (hs:Yg [.Tuple [.Name x px,.Name y py] kt pt] (.Tuple [a,b] k2 pt2) pos.line X.env=pure false:=by rfl):
 PS X (.Assign [.Tuple [.Name x px,.Name y py] kt pt] (.Tuple [a,b] k2 pt2) pos) (cg X.K H0 O0 (dS i j ta)):=
 (Ha hc hN hi hj hij hx hy ha hw hs).imp λD σ H uu13=>by obtain⟨O,δ,E,w,q,k1,k2,k3,k4⟩:=uu13;exact⟨O,δ,_,w,q,λds vs H1 uu14 s1 r1=>by
  obtain⟨d1,d2,e,q1⟩:=uu14;subst e;cases r1 with
  | cons r1 r2=>
   cases r2 with
   | cons r2 r3=>
    cases r3;exact⟨_,_,rfl,k1 _ _ _ _ q1 (((w.mono s1).set r1).set r2) (.same s1)⟩⟩
def bT(g:DG)(tb:DS)(E:qh):List Wr->Dl->Prop
 | [],δ=>E.nx δ
 | x::xs,δ=>g x δ λδ2=>tb {E with nx:=bT g tb E xs,ct:=bT g tb E xs,bk:=E.nx} δ2
theorem y4{K:Pq}{J:It}{P:Hp->Prop}{vs:List V}{xs:List Wr}{g:TG}{dg:DG}{tb:DS}{D:nI}{E:qh}{σ:St}{H:Hp}{O:Ex}{δ:Dl}(S:kK J P vs)(gd:GD K g dg)
 (hP:∀H' O',aT H H' O O'->P H')(r:au K H O vs xs)(w:Wd K H0 O0 H O σ δ)(q:bT dg tb E xs δ)
 (k1:∀O' δ' σ' H',E.nx δ'->Wd K H0 O0 H' O' σ' δ'->aT H H' O O'->D.nx σ' H')(k2:∀d v H',E.rt d->aq H0 H'->Dt K H' O0 v d->D.rt v H'):FR J g (cg K H0 O0 tb) D σ H:=by
 refine⟨λi m σ' H'=>∃O' δ',m=vs.length - i/\i<=vs.length/\Wd K H0 O0 H' O' σ' δ'/\aT H H' O O'/\bT dg tb E (xs.drop i) δ',⟨vs.length,O,δ,Wq,Rt _,w,aT.refl _ _,by simpa using q⟩,?_⟩;rintro i m σ1 H1 ⟨O1,δ1,rfl,hi,w1,S1,q1⟩;by_cases hlt:i < vs.length
 ·refine .inr ⟨S.go i H1 (hP _ _ S1) hlt,λσ' H'=>∃O' δ',Wd K H0 O0 H' O' σ' δ'/\aT H H' O O'/\bT dg tb E (xs.drop (i+1)) δ',λσ' H' uu15=>by obtain⟨O',δ',w',S',q'⟩:=uu15;exact⟨vs.length - (i+1),Ce,O',δ',rfl,hlt,w',S',q'⟩,λx H' y=>?_⟩;have yy:=S.yl i H1 x H' (hP _ _ S1) hlt y;clear y;obtain⟨e,y⟩:=yy;subst e;obtain⟨d,ed,rd⟩:=r.get y;have hd:xs.drop i=d::xs.drop (i+1):=by
   rw [Sz (h:=(Ql.mp ed).1),(Ql.mp ed).2]
  rw [hd] at q1;refine gd H0 O0 _ O1 σ1 δ1 x d _ _ w1 (rd.step S1) q1 λδ2 σ2 q2 w2=>?_;refine⟨O1,δ2,_,w2,q2,λO' δ' σ' H' z w' S'=>⟨O',δ',w',S1.trans S',z⟩,k2,λO' δ' σ' H' z w' S'=>k1 O' δ' σ' H' z w' (S1.trans S'),λO' δ' σ' H' z w' S'=>⟨O',δ',w',S1.trans S',z⟩⟩
 ·have e:i=vs.length:=Ce
  subst e;refine .inl ⟨S.st _ H1 (hP _ _ S1) (PL _),?_⟩;rw [r.length,RI (PL _)] at q1;exact k1 O1 δ1 σ1 H1 q1 w1 S1
def pz(g:DG)(tb:DS)(E:qh)(xs:List Wr)(δ:Dl):Prop:=∃I:Nat->Dl->Prop,I 0 δ/\(∀i x δ,xs[i]?=some x->I i δ->g x δ λδ2=>tb {E with nx:=I (i+1),ct:=I (i+1),bk:=E.nx} δ2)/\∀δ,I xs.length δ->E.nx δ
theorem Dc{K:Pq}{J:It}{P:Hp->Prop}{vs:List V}{xs:List Wr}{g:TG}{dg:DG}{tb:DS}{D:nI}{E:qh}{σ:St}{H:Hp}{O:Ex}{δ:Dl}(S:kK J P vs)(gd:GD K g dg)
 (hP:∀H' O',aT H H' O O'->P H')(r:au K H O vs xs)(w:Wd K H0 O0 H O σ δ)(q:pz dg tb E xs δ)
 (k1:∀O' δ' σ' H',E.nx δ'->Wd K H0 O0 H' O' σ' δ'->aT H H' O O'->D.nx σ' H')(k2:∀d v H',E.rt d->aq H0 H'->Dt K H' O0 v d->D.rt v H'):FR J g (cg K H0 O0 tb) D σ H:=by
 obtain⟨Iv,q0,qs,qe⟩:=q;refine⟨λi m σ' H'=>∃O' δ',m=vs.length - i/\i<=vs.length/\Wd K H0 O0 H' O' σ' δ'/\aT H H' O O'/\Iv i δ',⟨vs.length,O,δ,Wq,Rt _,w,aT.refl _ _,q0⟩,?_⟩;rintro i m σ1 H1 ⟨O1,δ1,rfl,hi,w1,S1,q1⟩;by_cases hlt:i < vs.length
 ·refine .inr ⟨S.go i H1 (hP _ _ S1) hlt,λσ' H'=>∃O' δ',Wd K H0 O0 H' O' σ' δ'/\aT H H' O O'/\Iv (i+1) δ',λσ' H' uu16=>by obtain⟨O',δ',w',S',q'⟩:=uu16;exact⟨vs.length - (i+1),Ce,O',δ',rfl,hlt,w',S',q'⟩,λx H' y=>?_⟩;have yy:=S.yl i H1 x H' (hP _ _ S1) hlt y;clear y;obtain⟨e,y⟩:=yy;subst e;obtain⟨d,ed,rd⟩:=r.get y;refine gd H0 O0 _ O1 σ1 δ1 x d _ _ w1 (rd.step S1) (qs i d δ1 ed q1) λδ2 σ2 q2 w2=>?_;refine⟨O1,δ2,_,w2,q2,λO' δ' σ' H' z w' S'=>⟨O',δ',w',S1.trans S',z⟩,k2,λO' δ' σ' H' z w' S'=>k1 O' δ' σ' H' z w' (S1.trans S'),λO' δ' σ' H' z w' S'=>⟨O',δ',w',S1.trans S',z⟩⟩
 ·have e:i=vs.length:=Ce
  subst e;refine .inl ⟨S.st _ H1 (hP _ _ S1) (PL _),?_⟩;rw [r.length] at q1;exact k1 O1 δ1 σ1 H1 (qe δ1 q1) w1 S1
def dU(t:DT)(g:DG)(tb:DS):DS:=λE δ=>t δ λd=>∃xs,d= .list xs/\bT g tb E xs δ
def dW(t:DT)(g:DG)(tb:DS):DS:=λE δ=>t δ λd=>∃xs,d= .tuple xs/\bT g tb E xs δ
def fX(t:DA)(g:DG)(tb:DS):DS:=λE δ=>t δ λds=>∃j:Int,ds=[.int j]/\-(2 ^ 62)<=j/\j < 2 ^ 62/\bT g tb E (lj 0 j.toNat) δ
def fY(t:DA)(g:DG)(tb:DS):DS:=λE δ=>t δ λds=>∃i j:Int,ds=[.int i,.int j]/\(-(2 ^ 62)<=i/\i < 2 ^ 62/\-(2 ^ 62)<=j/\j < 2 ^ 62)/\bT g tb E (lj i (j - i).toNat) δ
section
variable {tg iter:WC} {body:List WK} {t:DT} {ta:DA} {g:TG} {dg:DG} {tb:DS} {pos p ps:Pos}
theorem Jk(hp:XH (Wy X.prog X.w) X.A X.env X.xe)(hc:X.calm=true)(hi:DE X H0 O0 iter t)(hg:PG X tg g)(gd:GD X.K g dg)(hb:bG X body (cg X.K H0 O0 tb))(hs:∀x,WN iter X.env x=pure x:=by intro _;rfl):
 PS X (.For tg iter body [] pos) (cg X.K H0 O0 (dU t dg tb)):=
 (sI hp hc (uk hi) hg hb hs).imp λD σ H uu17=>by obtain⟨O,δ,E,w,q,k1,k2,k3,k4⟩:=uu17;exact⟨O,δ,_,w,q,λd v H1 uu18 s1 r1=>by
  obtain⟨xs,e,q1⟩:=uu18;subst e;cases r1 with
  | lst h n r=>
   refine⟨_,rfl,⟨_,.inl h⟩,y4 (kK.list (.inl h)) gd (λH' O' S o e=>S.keep _ _ e n) r (w.mono s1) q1 (λO' δ' σ' H' z w' S=>k1 O' δ' σ' H' z w' (aT.trans (.same s1) S)) k2⟩⟩
theorem Dd(hp:XH (Wy X.prog X.w) X.A X.env X.xe)(hc:X.calm=true)(hi:DE X H0 O0 iter t)(hg:PG X tg g)(gd:GD X.K g dg)(hb:bG X body (cg X.K H0 O0 tb))(hs:∀x,WN iter X.env x=pure x:=by intro _;rfl):
 PS X (.For tg iter body [] pos) (cg X.K H0 O0 (dW t dg tb)):=
 (sI hp hc (B5 hi) hg hb hs).imp λD σ H uu19=>by obtain⟨O,δ,E,w,q,k1,k2,k3,k4⟩:=uu19;exact⟨O,δ,_,w,q,λd v H1 uu20 s1 r1=>by
  obtain⟨xs,e,q1⟩:=uu20;subst e;cases r1 with
  | tup h n r=>
   refine⟨_,rfl,⟨_,.inl h⟩,y4 (kK.tup (.inl h)) gd (λH' O' S o e=>S.keep _ _ e n) r (w.mono s1) q1 (λO' δ' σ' H' z w' S=>k1 O' δ' σ' H' z w' (aT.trans (.same s1) S)) k2⟩
  | tupK h r=>
   refine⟨_,rfl,⟨_,h.of0⟩,y4 (P:=λ_=>True) ⟨λi H' _ hi=>⟨_,_,h.of0,by simp [hi];rfl⟩,λi H' x H'' _ _ y=>⟨y.1,y.2 _ h.of0⟩,λi H' _ hi=>⟨_,h.of0,hi⟩⟩ gd (λ_ _ _=>trivial) r (w.mono s1) q1 (λO' δ' σ' H' z w' S=>k1 O' δ' σ' H' z w' (aT.trans (.same s1) S)) k2⟩⟩
end
def dX(t:DT)(g:DG)(tb:DS):DS:=λE δ=>t δ λd=>∃xs,d= .list xs/\pz g tb E xs δ
def fZ(t:DT)(g:DG)(tb:DS):DS:=λE δ=>t δ λd=>∃xs,d= .tuple xs/\pz g tb E xs δ
def dY(t:DA)(g:DG)(tb:DS):DS:=λE δ=>t δ λds=>∃j:Int,ds=[.int j]/\-(2 ^ 62)<=j/\j < 2 ^ 62/\pz g tb E (lj 0 j.toNat) δ
def gb(t:DA)(g:DG)(tb:DS):DS:=λE δ=>t δ λds=>∃i j:Int,ds=[.int i,.int j]/\(-(2 ^ 62)<=i/\i < 2 ^ 62/\-(2 ^ 62)<=j/\j < 2 ^ 62)/\pz g tb E (lj i (j - i).toNat) δ
section
variable {tg iter:WC} {body:List WK} {t:DT} {ta:DA} {g:TG} {dg:DG} {tb:DS} {pos p ps:Pos}
theorem Jl(hp:XH (Wy X.prog X.w) X.A X.env X.xe)(hc:X.calm=true)(hi:DE X H0 O0 iter t)(hg:PG X tg g)(gd:GD X.K g dg)(hb:bG X body (cg X.K H0 O0 tb))(hs:∀x,WN iter X.env x=pure x:=by intro _;rfl):
 PS X (.For tg iter body [] pos) (cg X.K H0 O0 (dX t dg tb)):=
 (sI hp hc (uk hi) hg hb hs).imp λD σ H uu21=>by obtain⟨O,δ,E,w,q,k1,k2,k3,k4⟩:=uu21;exact⟨O,δ,_,w,q,λd v H1 uu22 s1 r1=>by
  obtain⟨xs,e,q1⟩:=uu22;subst e;cases r1 with
  | lst h n r=>
   refine⟨_,rfl,⟨_,.inl h⟩,Dc (kK.list (.inl h)) gd (λH' O' S o e=>S.keep _ _ e n) r (w.mono s1) q1 (λO' δ' σ' H' z w' S=>k1 O' δ' σ' H' z w' (aT.trans (.same s1) S)) k2⟩⟩
theorem De(hp:XH (Wy X.prog X.w) X.A X.env X.xe)(hc:X.calm=true){a:WC}(hgl:Gl X "range")(hm:X.mg "range"=none)(ha:PA X [a] (mC X.K H0 O0 ta))(hg:PG X tg g)(gd:GD X.K g dg)(hb:bG X body (cg X.K H0 O0 tb))
 (hst:WB [a] X.env=[(false,eval a X.env)]:=by rfl)(hs:∀x,WN (.Call (.Name "range" p) [a] [] ps) X.env x=pure x:=by intro _;rfl):
 PS X (.For tg (.Call (.Name "range" p) [a] [] ps) body [] pos) (cg X.K H0 O0 (dY ta dg tb)):=
 (sI hp hc (B7 hgl hm ha hst) hg hb hs).imp λD σ H uu23=>by obtain⟨O,δ,E,w,q,k1,k2,k3,k4⟩:=uu23;exact⟨O,δ,_,w,q,λds vs H1 uu24 s1 r1=>by
  obtain⟨j,e,b1,b2,q1⟩:=uu24;subst e;cases r1 with
  | cons r1 r2=>
   cases r2;cases r1;exact⟨j,rfl,b1,b2,Dc kK.rng gd (λ_ _ _=>trivial) (au.rng _) (w.mono s1) q1 (λO' δ' σ' H' z w' S=>k1 O' δ' σ' H' z w' (aT.trans (.same s1) S)) k2⟩⟩
end
def gc(i:Nat)(t:DS):DS:=λE δ=>∃ds,δ[i]?=some (some (.o ds))/\t E (δ.set i (some (.v (.list ds))))
def bx(k:Nat)(fr:List Nat)(δ:Dl):Dl:=PH k none++fr.map λj=>(δ[j]?).join
def qj(g:DG)(tc:DB)(te:DT)(δ0:Dl):List Wr->List Wr->(List Wr->Prop)->Prop
 | [],acc,Q=>Q acc
 | x::xs,acc,Q=>g x δ0 λδ2=>tc δ2 λok=>if ok=true then te δ2 λy=>qj g tc te δ0 xs (acc++[y]) Q else qj g tc te δ0 xs acc Q
theorem Wd.comp{K:Pq}{H:Hp}{O:Ex}{σ:St}{δ:Dl}(w:Wd K H0 O0 H O σ δ){k:Nat}{fr:List Nat}(hf:fr.Nodup):Wd K H0 O0 H O (bF k fr σ) (bx k fr δ):=by
 have at1:∀{α:Type}(l:List (Option α))(i:Nat),(PH k none++fr.map λj=>(l[j]?).join)[i]?=if i < k then some none else(fr[i - k]?).map λj=>(l[j]?).join:=by
  intro α l i;by_cases h:i < k
  ·rw [Wn h,Se (by simpa using h),SM,Wn h]
  ·rw [Wm h,Sx (by simpa using Up h),Ru];simp
 have un:∀{α:Type}(l:List (Option α))(i:Nat)(x:α),(PH k none++fr.map λj=>(l[j]?).join)[i]?=some (some x)->∃j,fr[i - k]?=some j/\k<=i/\l[j]?=some (some x):=by
  intro α l i x h;rw [at1] at h;split at h
  ·cases h
  ·cases e:fr[i - k]? with
   | none=>rw [e] at h;cases h
   | some j=>
    rw [e] at h;refine⟨j,rfl,Ce,?_⟩;have h':(l[j]?).join=some x:=Ri h;cases q:l[j]? with
    | none=>rw [q] at h';cases h'
    | some o=>rw [q] at h';rw [show o=some x from h']
 refine⟨w.same,w.sub,w.new,w.trk,by simp [bF,bx],λi y e=>?_,λi j y z l e1 y1 e2 z2 e3 e4=>?_⟩
 ·match y,e with
  | none,_=>exact RK
  | some x,e=>
   obtain⟨j,hj,hk,ej⟩:=un δ i x e;have q:=w.sl j _ ej;have e2:((bF k fr σ)[i]?).join=(σ[j]?).join:=by
    unfold bF;rw [at1,Wm Ce,hj];rfl
   rw [e2];exact q
 ·obtain⟨a,ha,ka,ea⟩:=un δ i _ e1;obtain⟨b,hb,kb,eb⟩:=un δ j _ e2;obtain⟨a',ha',_,ea'⟩:=un σ i _ e3;obtain⟨b',hb',_,eb'⟩:=un σ j _ e4;rw [ha] at ha';cases ha';rw [hb] at hb';cases hb';have:=w.dis a b y z l ea y1 eb z2 ea' eb';subst this;have e5:=(Vq (l:=fr) (i:=i - k) (j:=j - k) (Ql.mp ha).1 hf).mp (by rw [ha,hb]);omega
theorem Po{K:Pq}{J:It}{P:Hp->Prop}{vs:List V}{xs:List Wr}{g:TG}{dg:DG}{tc:TT}{dc:DB}{te:TE}{de:DT}{k:Nat}{fr:List Nat}{σ:St}{H:Hp}{O:Ex}{δ:Dl}{Qd:List Wr->Prop}{Q:VK}(S:kK J P vs)(gd:GD K g dg)(hf:fr.Nodup)
 (hk:∀v:V,∀σ':St,∀H':Hp,∀R:St->Hp->Prop,g v (bF k fr σ) H' R->g v (bF k fr σ) H' λσ2 H2=>pf (bF k fr σ) σ2/\R σ2 H2)
 (hc:∀σ H Q,cQ K H0 O0 dc σ H Q->tc σ H Q)(he:∀σ H Q,up K H0 O0 de σ H Q->te σ H Q)
 (hP:∀D H',H D=none->nM D H H'->P H')(r:au K H O vs xs)(w:Wd K H0 O0 H O σ δ)(hz:vs.length<=WA)(q:qj dg dc de (bx k fr δ) xs [] Qd)
 (k1:∀ds us p H',Qd ds->aq H H'->H' p=none->au K H' O us ds->Q (.ref p) (ao H' p (.lst us))):pj J g tc te k fr σ H Q:=by
 intro D hD;have w0:Wd K H0 O0 H O (bF k fr σ) (bx k fr δ):=w.comp hf;have nD:¬O D:=λz=>w.trk D z hD;have D0:H0 D=none:=by
  cases e:H0 D with
  | none=>rfl
  | some o=>rw [w.same _ _ e] at hD;cases hD
 have ex:∀H',nM D H H'->H' D≠none->Wd K H0 O0 H' (λa=>O a\/a=D) (bF k fr σ) (bx k fr δ):=λH' s' hd=>by
  have S':aT H H' O (λa=>O a\/a=D):=⟨λb o e _=>s' b o e (ky e hD),λb hb hn z=>z.elim hn λq=>hb (by rw [q];exact hD)⟩;refine⟨λb o e=>s' b o (w.same b o e) (λz=>by rw [z,D0] at e;cases e),λl z=>.inl (w.sub l z),λl z=>z.elim (w.new l) λq=>.inr (by rw [q];exact D0),λl z=>?_,w0.len,λj y e=>?_,w0.dis⟩
  ·by_cases ql:l=D
   ·rw [ql];exact hd
   ·have hl:=w.trk l (z.resolve_right ql);cases e:H l with
    | none=>exact absurd e hl
    | some o=>rw [s' l o e ql];exact λz=>nomatch z
  ·exact(w0.sl j y e).go S' (λl o _ _ a1 _ a3=>⟨.inl a1,s' _ _ a3 (λz=>nD (by rw [<-z];exact a1))⟩) (λa o u a1 _ a3=>⟨.inl a1,s' _ _ a3 (λz=>nD (by rw [<-z];exact a1))⟩) λa o a1 a3=>s' _ _ a3 (λz=>nD (by rw [<-z];exact w.sub _ a1))
 refine⟨λi m H'=>∃acc ys,m=vs.length - i/\i<=vs.length/\nM D H H'/\H' D=some (.lst ys)/\ys.length<=i/\au K H' (λa=>O a\/a=D) ys acc/\qj dg dc de (bx k fr δ) (xs.drop i) acc Qd,⟨vs.length,[],[],Wq,Rt _,λb o e n=>by rw [ay n];exact e,bu,Rt _,.nil,by simpa using q⟩,?_⟩;rintro i m H1 ⟨acc,ys,rfl,hi,s1,e1,hy,ra,q1⟩;by_cases hlt:i < vs.length
 ·refine .inr ⟨S.go i H1 (hP D H1 hD s1) hlt,λx H' y=>?_⟩;have yy:=S.yl i H1 x H' (hP D H1 hD s1) hlt y;clear y;obtain⟨e,y⟩:=yy;subst e;obtain⟨d,ed,rd⟩:=r.get y;have hd:xs.drop i=d::xs.drop (i+1):=by
   rw [Sz (h:=(Ql.mp ed).1),(Ql.mp ed).2]
  rw [hd] at q1;have w1:=ex _ s1 (by rw [e1];exact λz=>nomatch z);have S':aT H H' O (λa=>O a\/a=D):=⟨λb o e _=>s1 b o e (ky e hD),λb hb hn z=>z.elim hn λq=>hb (by rw [q];exact hD)⟩;refine hk x σ _ _ (gd H0 O0 _ _ _ _ x d _ _ w1 (rd.step S') q1 λδ2 σ2 q2 w2=>?_);refine hc σ2 _ _ ⟨_,δ2,_,w2,q2,λok H3 q3 s3=>?_⟩;cases ok with
  | true=>
   rw [Wn rfl];refine he σ2 H3 _ ⟨_,δ2,_,w2.mono s3,q3,λd' v H4 q4 s4 r4=>?_⟩;have e4:=s4 _ _ (s3 _ _ e1);have sD:aT H4 (ao H4 D (.lst (ys++[v]))) (λa=>O a\/a=D) (λa=>O a\/a=D):=⟨λb o e n=>by rw [ay (λz=>n (.inr z))];exact e,λ_ _ n=>n⟩;refine⟨ys,e4,Ce,vs.length - (i+1),Ce,acc++[d'],ys++[v],rfl,hlt,λb o e n=>by rw [ay n];exact s4 _ _ (s3 _ _ (s1 b o e n)),bu,by simpa using hy,?_,q4⟩;exact((ra.mono (s3.trans s4)).append (.cons r4 .nil)).step sD
  | false=>
   rw [Wm tx];exact⟨vs.length - (i+1),Ce,acc,ys,rfl,hlt,λb o e n=>s3 _ _ (s1 b o e n),s3 _ _ e1,Ce,ra.mono s3,q3⟩
 ·have e:i=vs.length:=Ce
  subst e;refine .inl ⟨S.st _ H1 (hP D H1 hD s1) (PL _),?_⟩;rw [r.length,RI (PL _)] at q1;have hrest:∃H2:Hp,H2 D=none/\aq H H2/\H1=ao H2 D (.lst ys):=by
   refine⟨λb=>if b=D then none else H1 b,Wq,λb o e=>?_,?_⟩
   ·have n:=ky e hD;show(if b=D then none else H1 b)=some o;rw [Wm n];exact s1 b o e n
   ·funext b;by_cases z:b=D
    ·rw [z,bu];exact e1
    ·rw [ay z];show H1 b=if b=D then none else H1 b;rw [Wm z]
  obtain⟨H2,h2,s2,rfl⟩:=hrest;refine k1 acc ys D H2 q1 s2 h2 (ra.step ⟨λb o e n=>?_,λb _ n z=>n (.inl z)⟩);rw [ay (λz=>n (.inr z))] at e;exact e
def mQ(g:DG)(tc:DB)(te:DT)(δ0:Dl)(xs:List Wr)(Q:List Wr->Prop):Prop:=∃I:Nat->List Wr->Prop,I 0 []/\(∀i x acc,xs[i]?=some x->I i acc->g x δ0 λδ2=>tc δ2 λok=>if ok=true then te δ2 λy=>I (i+1) (acc++[y]) else I (i+1) acc)/\∀acc,I xs.length acc->Q acc
theorem qU{K:Pq}{J:It}{P:Hp->Prop}{vs:List V}{xs:List Wr}{g:TG}{dg:DG}{tc:TT}{dc:DB}{te:TE}{de:DT}{k:Nat}{fr:List Nat}{σ:St}{H:Hp}{O:Ex}{δ:Dl}{Qd:List Wr->Prop}{Q:VK}(S:kK J P vs)(gd:GD K g dg)(hf:fr.Nodup)
 (hk:∀v:V,∀σ':St,∀H':Hp,∀R:St->Hp->Prop,g v (bF k fr σ) H' R->g v (bF k fr σ) H' λσ2 H2=>pf (bF k fr σ) σ2/\R σ2 H2)
 (hc:∀σ H Q,cQ K H0 O0 dc σ H Q->tc σ H Q)(he:∀σ H Q,up K H0 O0 de σ H Q->te σ H Q)
 (hP:∀D H',H D=none->nM D H H'->P H')(r:au K H O vs xs)(w:Wd K H0 O0 H O σ δ)(hz:vs.length<=WA)(q:mQ dg dc de (bx k fr δ) xs Qd)
 (k1:∀ds us p H',Qd ds->aq H H'->H' p=none->au K H' O us ds->Q (.ref p) (ao H' p (.lst us))):pj J g tc te k fr σ H Q:=by
 obtain⟨Iv,q0,qs,qe⟩:=q;intro D hD;have w0:Wd K H0 O0 H O (bF k fr σ) (bx k fr δ):=w.comp hf;have nD:¬O D:=λz=>w.trk D z hD;have D0:H0 D=none:=by
  cases e:H0 D with
  | none=>rfl
  | some o=>rw [w.same _ _ e] at hD;cases hD
 have ex:∀H',nM D H H'->H' D≠none->Wd K H0 O0 H' (λa=>O a\/a=D) (bF k fr σ) (bx k fr δ):=λH' s' hd=>by
  have S':aT H H' O (λa=>O a\/a=D):=⟨λb o e _=>s' b o e (ky e hD),λb hb hn z=>z.elim hn λq=>hb (by rw [q];exact hD)⟩;refine⟨λb o e=>s' b o (w.same b o e) (λz=>by rw [z,D0] at e;cases e),λl z=>.inl (w.sub l z),λl z=>z.elim (w.new l) λq=>.inr (by rw [q];exact D0),λl z=>?_,w0.len,λj y e=>?_,w0.dis⟩
  ·by_cases ql:l=D
   ·rw [ql];exact hd
   ·have hl:=w.trk l (z.resolve_right ql);cases e:H l with
    | none=>exact absurd e hl
    | some o=>rw [s' l o e ql];exact λz=>nomatch z
  ·exact(w0.sl j y e).go S' (λl o _ _ a1 _ a3=>⟨.inl a1,s' _ _ a3 (λz=>nD (by rw [<-z];exact a1))⟩) (λa o u a1 _ a3=>⟨.inl a1,s' _ _ a3 (λz=>nD (by rw [<-z];exact a1))⟩) λa o a1 a3=>s' _ _ a3 (λz=>nD (by rw [<-z];exact w.sub _ a1))
 refine⟨λi m H'=>∃acc ys,m=vs.length - i/\i<=vs.length/\nM D H H'/\H' D=some (.lst ys)/\ys.length<=i/\au K H' (λa=>O a\/a=D) ys acc/\Iv i acc,⟨vs.length,[],[],Wq,Rt _,λb o e n=>by rw [ay n];exact e,bu,Rt _,.nil,q0⟩,?_⟩;rintro i m H1 ⟨acc,ys,rfl,hi,s1,e1,hy,ra,q1⟩;by_cases hlt:i < vs.length
 ·refine .inr ⟨S.go i H1 (hP D H1 hD s1) hlt,λx H' y=>?_⟩;have yy:=S.yl i H1 x H' (hP D H1 hD s1) hlt y;clear y;obtain⟨e,y⟩:=yy;subst e;obtain⟨d,ed,rd⟩:=r.get y;have w1:=ex _ s1 (by rw [e1];exact λz=>nomatch z);have S':aT H H' O (λa=>O a\/a=D):=⟨λb o e _=>s1 b o e (ky e hD),λb hb hn z=>z.elim hn λq=>hb (by rw [q];exact hD)⟩;refine hk x σ _ _ (gd H0 O0 _ _ _ _ x d _ _ w1 (rd.step S') (qs i d acc ed q1) λδ2 σ2 q2 w2=>?_);refine hc σ2 _ _ ⟨_,δ2,_,w2,q2,λok H3 q3 s3=>?_⟩;cases ok with
  | true=>
   rw [Wn rfl];refine he σ2 H3 _ ⟨_,δ2,_,w2.mono s3,q3,λd' v H4 q4 s4 r4=>?_⟩;have e4:=s4 _ _ (s3 _ _ e1);have sD:aT H4 (ao H4 D (.lst (ys++[v]))) (λa=>O a\/a=D) (λa=>O a\/a=D):=⟨λb o e n=>by rw [ay (λz=>n (.inr z))];exact e,λ_ _ n=>n⟩;refine⟨ys,e4,Ce,vs.length - (i+1),Ce,acc++[d'],ys++[v],rfl,hlt,λb o e n=>by rw [ay n];exact s4 _ _ (s3 _ _ (s1 b o e n)),bu,by simpa using hy,?_,q4⟩;exact((ra.mono (s3.trans s4)).append (.cons r4 .nil)).step sD
  | false=>
   rw [Wm tx];exact⟨vs.length - (i+1),Ce,acc,ys,rfl,hlt,λb o e n=>s3 _ _ (s1 b o e n),s3 _ _ e1,Ce,ra.mono s3,q3⟩
 ·have e:i=vs.length:=Ce
  subst e;refine .inl ⟨S.st _ H1 (hP D H1 hD s1) (PL _),?_⟩;rw [r.length] at q1;have hrest:∃H2:Hp,H2 D=none/\aq H H2/\H1=ao H2 D (.lst ys):=by
   refine⟨λb=>if b=D then none else H1 b,Wq,λb o e=>?_,?_⟩
   ·have n:=ky e hD;show(if b=D then none else H1 b)=some o;rw [Wm n];exact s1 b o e n
   ·funext b;by_cases z:b=D
    ·rw [z,bu];exact e1
    ·rw [ay z];show H1 b=if b=D then none else H1 b;rw [Wm z]
  obtain⟨H2,h2,s2,rfl⟩:=hrest;refine k1 acc ys D H2 (qe acc q1) s2 h2 (ra.step ⟨λb o e n=>?_,λb _ n z=>n (.inl z)⟩);rw [ay (λz=>n (.inr z))] at e;exact e
def gf(t:DT)(g:DG)(tc:DB)(te:DT)(k:Nat)(fr:List Nat):DA:=λδ Q=>t δ λd=>∃xs,d= .list xs/\xs.length<=WA/\qj g tc te (bx k fr δ) xs [] Q
def gh(t:DT)(g:DG)(tc:DB)(te:DT)(k:Nat)(fr:List Nat):DA:=λδ Q=>t δ λd=>∃xs,d= .tuple xs/\xs.length<=WA/\qj g tc te (bx k fr δ) xs [] Q
def gi(ta:DA)(g:DG)(tc:DB)(te:DT)(k:Nat)(fr:List Nat):DA:=λδ Q=>ta δ λds=>∃j:Int,ds=[.int j]/\-(2 ^ 62)<=j/\j < WA/\qj g tc te (bx k fr δ) (lj 0 j.toNat) [] Q
def cj:DB:=λ_ Q=>Q true
def oB(g:TG)(k:Nat):Prop:=∀(fr:List Nat)(σ:St)(v:V)(H':Hp)(R:St->Hp->Prop),g v (bF k fr σ) H' R->g v (bF k fr σ) H' λσ2 H2=>pf (bF k fr σ) σ2/\R σ2 H2
theorem kU:oB (nh 0) 1:=λfr σ v H' R h=>⟨CT,h⟩
def cO(t:DT)(g:DG)(tc:DB)(te:DT)(k:Nat)(fr:List Nat):DA:=λδ Q=>t δ λd=>∃xs,d= .list xs/\xs.length<=WA/\mQ g tc te (bx k fr δ) xs Q
def cV(t:DT)(g:DG)(tc:DB)(te:DT)(k:Nat)(fr:List Nat):DA:=λδ Q=>t δ λd=>∃xs,d= .tuple xs/\xs.length<=WA/\mQ g tc te (bx k fr δ) xs Q
def dZ(ta:DA)(g:DG)(tc:DB)(te:DT)(k:Nat)(fr:List Nat):DA:=λδ Q=>ta δ λds=>∃j:Int,ds=[.int j]/\-(2 ^ 62)<=j/\j < WA/\mQ g tc te (bx k fr δ) (lj 0 j.toNat) Q
section
variable {tg iter elt:WC} {ifs:List WC} {scope:WZ} {N':List Str} {k:Nat} {fr:List Nat} {g:TG} {dg:DG} {t:DT} {ta:DA} {tc:DB} {te:DT} {pos p ps:Pos}
theorem oC(hc:X.calm=true)(S:bO X.env.scope X.N N' k fr scope)(hi:DF X H0 O0 iter t)(gd:GD X.K g dg)(hk:oB g k)(hfr:fr.Nodup)
 (hg:∀fp C s H,PG (bR X scope N' fp C s H) tg g)(hf:∀fp C s H,l6 (bR X scope N' fp C s H) ifs (cQ X.K H0 O0 tc))(he:∀fp C s H,PE (bR X scope N' fp C s H) elt (up X.K H0 O0 te))
 (hs:∀x,WN iter X.env x=pure x:=by intro _;rfl):FE X H0 O0 (.ListComp elt [⟨tg,iter,ifs,0⟩] scope pos) (cO t dg tc te k fr):=
 (qc hc S (uk hi) hg hf he hs).imp λσ H Q uu25=>by obtain⟨O,δ,Qd,w,q,kk⟩:=uu25;exact⟨O,δ,_,w,q,λd v H1 uu26 s1 r1=>by
  obtain⟨xs,e,hz,q1⟩:=uu26;subst e;obtain⟨a,vs,rfl,hq,rr⟩:=r1.lst;refine⟨a,rfl,⟨_,hq⟩,λD hD=>qU (kK.list hq) gd hfr (λv _ H' R h=>hk fr σ v H' R h) (λ_ _ _ z=>z) (λ_ _ _ z=>z) (λD H' hD s' o e=>s' _ _ e (ky e hD)) rr (w.mono s1) (by rw [rr.length];exact hz) q1 (λds us p H' z s' hp r'=>kk ds us p H' z (s1.trans s') hp r') D hD⟩⟩
theorem Df(hc:X.calm=true)(S:bO X.env.scope X.N N' k fr scope)(hi:DF X H0 O0 iter t)(gd:GD X.K g dg)(hk:oB g k)(hfr:fr.Nodup)
 (hg:∀fp C s H,PG (bR X scope N' fp C s H) tg g)(hf:∀fp C s H,l6 (bR X scope N' fp C s H) ifs (cQ X.K H0 O0 tc))(he:∀fp C s H,PE (bR X scope N' fp C s H) elt (up X.K H0 O0 te))
 (hs:∀x,WN iter X.env x=pure x:=by intro _;rfl):FE X H0 O0 (.ListComp elt [⟨tg,iter,ifs,0⟩] scope pos) (cV t dg tc te k fr):=
 (qc hc S (B5 hi) hg hf he hs).imp λσ H Q uu27=>by obtain⟨O,δ,Qd,w,q,kk⟩:=uu27;exact⟨O,δ,_,w,q,λd v H1 uu28 s1 r1=>by
  obtain⟨xs,e,hz,q1⟩:=uu28;subst e;obtain⟨a,vs,rfl,hq,rr⟩:=r1.tup;refine⟨a,rfl,⟨_,hq⟩,λD hD=>qU (kK.tup hq) gd hfr (λv _ H' R h=>hk fr σ v H' R h) (λ_ _ _ z=>z) (λ_ _ _ z=>z) (λD H' hD s' o e=>s' _ _ e (ky e hD)) rr (w.mono s1) (by rw [rr.length];exact hz) q1 (λds us p H' z s' hp r'=>kk ds us p H' z (s1.trans s') hp r') D hD⟩⟩
theorem Dg(hc:X.calm=true){a:WC}(S:bO X.env.scope X.N N' k fr scope)(hgl:Gl X "range")(hm:X.mg "range"=none)(ha:PA X [a] (mD X.K H0 O0 ta))(gd:GD X.K g dg)(hk:oB g k)(hfr:fr.Nodup)
 (hg:∀fp C s H,PG (bR X scope N' fp C s H) tg g)(hf:∀fp C s H,l6 (bR X scope N' fp C s H) ifs (cQ X.K H0 O0 tc))(he:∀fp C s H,PE (bR X scope N' fp C s H) elt (up X.K H0 O0 te))
 (hst:WB [a] X.env=[(false,eval a X.env)]:=by rfl)(hs:∀x,WN (.Call (.Name "range" p) [a] [] ps) X.env x=pure x:=by intro _;rfl):
 FE X H0 O0 (.ListComp elt [⟨tg,(.Call (.Name "range" p) [a] [] ps),ifs,0⟩] scope pos) (dZ ta dg tc te k fr):=
 (qc hc S (B7 hgl hm ha hst) hg hf he hs).imp λσ H Q uu29=>by obtain⟨O,δ,Qd,w,q,kk⟩:=uu29;exact⟨O,δ,_,w,q,λds vs H1 uu30 s1 r1=>by
  obtain⟨j,e,b1,b2,q1⟩:=uu30;subst e;cases r1 with
  | cons r1 r2=>
   cases r2;cases r1.int;have hb:(WA:Int) < 2 ^ 62:=tx
   exact⟨j,rfl,b1,Ce,λD hD=>qU (P:=λ_=>True) kK.rng gd hfr (λv _ H' R h=>hk fr σ v H' R h) (λ_ _ _ z=>z) (λ_ _ _ z=>z) (λ_ _ _ _=>trivial) (au.rng _) (w.mono s1) (by rw [PB,SW];omega) q1 (λds us p H' z s' hp r'=>kk ds us p H' z (s1.trans s') hp r') D hD⟩⟩
end
end
section
variable {K:Pq}
def dI(g:Int->Int->Wr):Wr->Wr->(Wr->Prop)->Prop:=λx y Q=>∃i j,x= .int i/\y= .int j/\Q (g i j)
def d3(C:Int->Int->Prop)(g:Int->Int->Wr):Wr->Wr->(Wr->Prop)->Prop:=λx y Q=>∃i j,x= .int i/\y= .int j/\C i j/\Q (g i j)
theorem cx{g:Int->Int->Int}:cS K (mO λi j=>.int (g i j)) (dI λi j=>.int (g i j)):=λH O x y dx dy Qd R _ hx hy uu31 k=>by
 obtain⟨i,j,e1,e2,q⟩:=uu31;subst e1 e2;cases hx.int;cases hy.int;exact⟨i,j,rfl,rfl,k _ _ H q (aq.refl _) (.int _)⟩
theorem bX{g:Int->Int->Bool}:cS K (mO λi j=>.bl (g i j)) (dI λi j=>.bool (g i j)):=λH O x y dx dy Qd R _ hx hy uu32 k=>by
 obtain⟨i,j,e1,e2,q⟩:=uu32;subst e1 e2;cases hx.int;cases hy.int;exact⟨i,j,rfl,rfl,k _ _ H q (aq.refl _) (.bl _)⟩
theorem mR{C:Int->Int->Prop}{g:Int->Int->Int}:cS K (rI C λi j=>.int (g i j)) (d3 C λi j=>.int (g i j)):=λH O x y dx dy Qd R _ hx hy uu33 k=>by
 obtain⟨i,j,e1,e2,c,q⟩:=uu33;subst e1 e2;cases hx.int;cases hy.int;exact⟨i,j,rfl,rfl,c,k _ _ H q (aq.refl _) (.int _)⟩
def Dh(K:Pq):R2:=λx y H Q=>∃O dx dy,Sh K H O x dx/\Sh K H O y dy/\aV dx/\aV dy/\Q (.bl (PJ dx dy)) H
def Di(K:Pq):R2:=λx y H Q=>∃O dx dy,Sh K H O x dx/\Sh K H O y dy/\aV dx/\aV dy/\Q (.bl (!PJ dx dy)) H
theorem ck{X:Cx}(hu:X.A.units+64 < cLine):bC X (WM .Eq) (Dh X.K):=by
 intro Yn s σ H x y v u Q I rx ry h;obtain⟨O,dx,dy,hx,hy,sx,sy,q⟩:=h;obtain⟨as,ra⟩:=nj I hx.all (Rm sx) rx;obtain⟨bs,rb⟩:=nj I hy.all (Rm sy) ry;exact SeqAt.compareEq_shaped ra rb sx sy hu (bH I q rfl)
theorem mE{X:Cx}(hu:X.A.units+64 < cLine):bC X (WM .NotEq) (Di X.K):=by
 intro Yn s σ H x y v u Q I rx ry h;obtain⟨O,dx,dy,hx,hy,sx,sy,q⟩:=h;obtain⟨as,ra⟩:=nj I hx.all (Rm sx) rx;obtain⟨bs,rb⟩:=nj I hy.all (Rm sy) ry;exact SeqAt.compareNe_shaped ra rb sx sy hu (bH I q rfl)
def d6:Wr->Wr->(Wr->Prop)->Prop:=λx y Q=>aV x/\aV y/\Q (.bool (PJ x y))
def d7:Wr->Wr->(Wr->Prop)->Prop:=λx y Q=>aV x/\aV y/\Q (.bool (!PJ x y))
theorem cn:cS K (Dh K) d6:=λH O x y dx dy Qd R _ hx hy uu34 k=>by obtain⟨a,b,q⟩:=uu34;exact⟨O,dx,dy,hx,hy,a,b,k _ _ H q (aq.refl _) (.bl _)⟩
theorem mF:cS K (Di K) d7:=λH O x y dx dy Qd R _ hx hy uu35 k=>by obtain⟨a,b,q⟩:=uu35;exact⟨O,dx,dy,hx,hy,a,b,k _ _ H q (aq.refl _) (.bl _)⟩
def d8:Wr->Wr->(Wr->Prop)->Prop:=λx y Q=>∃ds i d,x= .list ds/\y= .int i/\atI ds i=some d/\Q d
def cy:Wr->Wr->(Wr->Prop)->Prop:=λx y Q=>∃ds i d,x= .tuple ds/\y= .int i/\atI ds i=some d/\Q d
theorem au.atI{H:Hp}{O:Ex}{vs:List V}{ds:List Wr}{i:Int}{d:Wr}(r:au K H O vs ds)(e:L2.atI ds i=some d):∃v,L2.atI vs i=some v/\Dt K H O v d:=by
 unfold L2.atI at e⊢;rw [r.length];cases q:oo ds.length i with
 | none=>rw [q] at e;cases e
 | some j=>rw [q] at e;exact r.getD e
theorem aP:cS K (xR K) d8:=λH O x y dx dy Qd R _ hx hy uu36 k=>by
 obtain⟨ds,i,d,e1,e2,e3,q⟩:=uu36;subst e1 e2;obtain⟨a,vs,rfl,hs,r⟩:=hx.lst;cases hy.int;obtain⟨v,hv,rv⟩:=r.atI e3;exact⟨a,vs,i,v,rfl,rfl,hs,hv,k d v H q (aq.refl _) rv⟩
theorem aK:cS K (uA K) cy:=λH O x y dx dy Qd R _ hx hy uu37 k=>by
 obtain⟨ds,i,d,e1,e2,e3,q⟩:=uu37;subst e1 e2;obtain⟨a,vs,rfl,hs,r⟩:=hx.tup;cases hy.int;obtain⟨v,hv,rv⟩:=r.atI e3;exact⟨a,vs,i,v,rfl,rfl,hs,hv,k d v H q (aq.refl _) rv⟩
end
section
variable {X:Cx} {H0:Hp} {O0:Ex}
def Jm:R2:=λx y H Q=>∃l b xs zs,x= .ref l/\y= .ref b/\Rd H l (.lst xs)/\Rd H b (.lst zs)/\xs.length+zs.length<=WA/\∀p,H p=none->Q (.ref p) (ao H p (.lst (xs++zs)))
theorem Jn:bC X (W7 .Add) Jm:=by
 intro Yn s σ H x y v u Q I rx ry h;obtain⟨l,b,xs,zs,rfl,rfl,hH,hB,hz,q⟩:=h;cases rx;cases ry;obtain⟨z,its,n,r,e⟩:=hH.ok I.hok;obtain⟨z2,its2,n2,r2,e2⟩:=hB.ok I.hok;have l1:=r.length;have l2:=r2.length;refine PySem.P.add_list e e2 ?_ (by rw [Qk,Qk];omega);have ea:its.toArray++its2.toArray=(its++its2).toArray:=Wq
 rw [ea];exact⟨.ref _,_,I.lnew (t':=s.toks) (r.append r2) (by rw [Ra];omega),rfl,q _ I.fresh⟩
def d9(ta tb:DT):DA:=λδ Q=>ta δ λx=>tb δ λy=>∃xs ys,x= .list xs/\y= .list ys/\xs.length+ys.length<=WA/\Q (xs++ys)
theorem lq{a b:WC}{ta tb:DT}{pos:Pos}(ha:DF X H0 O0 a ta)(hb:DF X H0 O0 b tb):FE X H0 O0 (.BinOp a .Add b pos) (d9 ta tb):=
 (bY Jn ha hb).imp λσ H Q uu38=>by obtain⟨O,δ,Qd,w,q,k⟩:=uu38;exact⟨O,δ,_,w,q,λx v H1 q1 s1 r1=>⟨O,δ,_,w.mono s1,q1,λy u H2 uu39 s2 r2=>by
  obtain⟨xs,ys,e1,e2,hz,q2⟩:=uu39;subst e1 e2;obtain⟨a,vs,rfl,h1,d1⟩:=(r1.mono s2).lstR;obtain⟨b,us,rfl,h2,d2⟩:=r2.lstR;exact⟨a,b,vs,us,rfl,rfl,h1,h2,by rw [d1.length,d2.length];exact hz,λp hp=>k _ _ _ _ q2 (s1.trans s2) hp (d1.append d2)⟩⟩⟩
def eg:Wr->Wr->(Wr->Prop)->Prop:=λx y Q=>∃xs ys,x= .tuple xs/\y= .tuple ys/\xs≠[]/\xs.length+ys.length<=WA/\Q (.tuple (xs++ys))
theorem Jo{K:Pq}:cS K (xP K) eg:=λH O x y dx dy Qd R tr hx hy uu40 k=>by
 obtain⟨xs,ys,e1,e2,hn,hz,q⟩:=uu40;subst e1 e2;have hx0:=hx;obtain⟨a,vs,rfl,h1,d1⟩:=hx.tup;obtain⟨b,us,rfl,h2,d2⟩:=hy.tup;refine⟨a,b,vs,us,rfl,rfl,h1,h2,λz=>?_,by rw [d1.length,d2.length];exact hz,λz=>?_,λ_ p hp=>?_⟩
 ·subst z;cases d1;exact hn rfl
 ·subst z;cases d2;rw [PX] at q;cases hx0 with
  | dt hx0=>exact k _ _ H q (aq.refl _) hx0
 ·exact k _ _ _ q (aq.new hp) (.tup (.inl bu) (λz=>tr p z hp) ((d1.append d2).mono (aq.new hp)))
def bz(xs:List Wr)(lo hi:Option Int):List Wr:=(xs.drop (HT.sIx xs.length 0 lo)).take (HT.sIx xs.length xs.length hi - HT.sIx xs.length 0 lo)
theorem au.cut{K:Pq}{H:Hp}{O:Ex}{vs:List V}{ds:List Wr}(r:au K H O vs ds)(lo hi:Option Int):au K H O (om vs lo hi) (bz ds lo hi):=by
 unfold om bz;rw [r.length];exact(r.drop _).take _
abbrev DO:=Dl->(Option Int->Prop)->Prop
inductive oE (K:Pq) (H0:Hp) (O0:Ex) (t:DO) (σ:St) (H:Hp) (R:Option Int->Hp->Prop):Prop
 | mk (O:Ex) (δ:Dl) (Qd:Option Int->Prop):Wd K H0 O0 H O σ δ->t δ Qd->(∀d H',Qd d->aq H H'->R d H')->oE K H0 O0 t σ H R
def ei:DO:=λ_ Q=>Q none
def eD(t:DT):DO:=λδ Q=>t δ λd=>∃i,d= .int i/\Q (some i)
theorem PO.imp{X:Cx}{e:Option WC}{t u:TO}(h:PO X e t)(i:∀σ H Q,u σ H Q->t σ H Q):PO X e u:=λYn s σ H Q I z=>h Yn s σ H Q I (i σ H Q z)
theorem kj:PO X none (oE X.K H0 O0 ei):=HM.imp λσ H Q uu41=>by obtain⟨O,δ,Qd,w,q,k⟩:=uu41;exact k none H q (aq.refl _)
theorem bP{e:WC}{t:DT}(h:DE X H0 O0 e t):PO X (some e) (oE X.K H0 O0 (eD t)):=(HN h).imp λσ H Q uu42=>by obtain⟨O,δ,Qd,w,q,k⟩:=uu42;exact⟨O,δ,_,w,q,λd v H1 uu43 s1 r1=>by obtain⟨i,e,q1⟩:=uu43;subst e;cases r1;exact⟨i,rfl,k _ H1 q1 s1⟩⟩
def eF(t:DT)(tl th:DO):DA:=λδ Q=>t δ λd=>tl δ λl=>th δ λu=>∃xs,d= .list xs/\Q (bz xs l u)
def gj(t:DT)(tl th:DO):DT:=λδ Q=>t δ λd=>tl δ λl=>th δ λu=>∃xs,d= .tuple xs/\¬(HT.sIx xs.length 0 l=0/\HT.sIx xs.length xs.length u=xs.length)/\Q (.tuple (bz xs l u))
theorem kB{e:WC}{lo hi:Option WC}{t:DT}{tl th:DO}{pos p2:Pos}(h:DF X H0 O0 e t)(hl:PO X lo (oE X.K H0 O0 tl))(hu:PO X hi (oE X.K H0 O0 th)):FE X H0 O0 (.Subscript e (.Slice lo hi none p2) pos) (eF t tl th):=
 (xO Ib h hl hu).imp λσ H Q uu44=>by obtain⟨O,δ,Qd,w,q,k⟩:=uu44;exact⟨O,δ,_,w,q,λd v H1 q1 s1 r1=>⟨O,δ,_,w.mono s1,q1,λl H2 q2 s2=>⟨O,δ,_,w.mono (s1.trans s2),q2,λu H3 uu45 s3=>by
  obtain⟨xs,e,q3⟩:=uu45;subst e;obtain⟨a,vs,rfl,h1,d1⟩:=(r1.mono (s2.trans s3)).lst;exact⟨a,vs,rfl,h1,λp hp=>k _ _ _ _ q3 (s1.trans (s2.trans s3)) hp (d1.cut l u)⟩⟩⟩⟩
theorem pA{a b:WC}{ta tb:DT}{r:R2}{rd:Wr->Wr->(Wr->Prop)->Prop}{pos:Pos}(ho:qS X r)(hd:cS X.K r rd)(ha:DF X H0 O0 a ta)(hb:DF X H0 O0 b tb)(hs:∀v u,subscripted b false v u=operate [v,u] (X0 v u):=by intro _ _;rfl):DE X H0 O0 (.Subscript a b pos) (bE rd ta tb):=(p9 ho ha hb hs).imp (uH hd)
def eG:List Wr->(Wr->Prop)->Prop:=λds Q=>∃xs,(ds=[.list xs]\/ds=[.tuple xs])/\Q (.int xs.length)
def eJ:List Wr->(Wr->Prop)->Prop:=λds Q=>∃xs,ds=[mB xs]/\Q (.int xs.length)
theorem ko{K:Pq}:nk K (λxs H Q=>∃p ys,xs=[.ref p]/\(bf K H p ys\/aY K H p ys)/\Q (.int ys.length) H) eG:=λH O xs ds Qd R _ hs uu46 k=>by
 obtain⟨ys,e,q⟩:=uu46;rcases e with e | e <;> subst e
 ·cases hs with
  | cons h r=>
   cases r;obtain⟨a,vs,rfl,h1,d1⟩:=h.lst;exact⟨a,vs,rfl,.inl h1,by rw [d1.length];exact k _ _ H q (aq.refl _) (.int _)⟩
 ·cases hs with
  | cons h r=>
   cases r;obtain⟨a,vs,rfl,h1,d1⟩:=h.tup;exact⟨a,vs,rfl,.inr h1,by rw [d1.length];exact k _ _ H q (aq.refl _) (.int _)⟩
theorem Jp{K:Pq}:nk K (λxs H Q=>∃p ys,xs=[.ref p]/\(bf K H p ys\/aY K H p ys)/\Q (.int ys.length) H) eJ:=λH O xs ds Qd R _ hs uu47 k=>by
 obtain⟨ys,e,q⟩:=uu47;subst e;cases hs with
 | cons h r=>
  cases r;obtain⟨a,vs,rfl,h1,d1⟩:=h.scr;exact⟨a,vs,rfl,.inl h1,by rw [d1.length];exact k _ _ H q (aq.refl _) (.int _)⟩
def eL:List Wr->(Wr->Prop)->Prop:=λds Q=>∃xs,ds=[.list xs]/\Q (.tuple xs)
theorem l8{K:Pq}:nk K (λxs H Q=>∃p ys,xs=[.ref p]/\((bf K H p ys/\∀l,H l=none->Q (.ref l) (ao H l (.tup ys)))\/(aY K H p ys/\Q (.ref p) H))) eL:=λH O xs ds Qd R tr hs uu48 k=>by
 obtain⟨ys,e,q⟩:=uu48;subst e;cases hs with
 | cons h r=>
  cases r;obtain⟨a,vs,rfl,h1,d1⟩:=h.lst;exact⟨a,vs,rfl,.inl ⟨h1,λl hl=>k _ _ _ q (aq.new hl) (.tup (.inl bu) (λz=>tr l z hl) (d1.mono (aq.new hl)))⟩⟩
theorem au.bools{K:Pq}{H:Hp}{O:Ex}:∀{bs:List Bool}{vs:List V},au K H O vs (bs.map TF)->vs=bs.map V.bl
 | [],_,r=>by rw [Qc] at r;cases r;rfl
 | b::bs,_,r=>by
  rw [Pw] at r;cases r with
  | cons h r=>cases h;rw [Pw,au.bools r]
def eM(g:List Bool->Bool):List Wr->(Wr->Prop)->Prop:=λds Q=>∃bs:List Bool,ds=[.list (bs.map .bool)]/\Q (.bool (g bs))
theorem nu{K:Pq}{g:List Bool->Bool}:nk K (λxs H Q=>∃(a:Wu)(bs:List Bool),xs=[.ref a]/\bf K H a (bs.map V.bl)/\Q (.bl (g bs)) H) (eM g):=λH O xs ds Qd R tr hs uu49 k=>by
 obtain⟨bs,e,q⟩:=uu49;subst e;cases hs with
 | cons h r=>
  cases r;obtain⟨a,vs,rfl,h1,d1⟩:=h.lst;cases d1.bools;exact⟨a,bs,rfl,h1,k _ _ H q (aq.refl _) (.bl _)⟩
def eN(g:Int->Int->Int):List Wr->(Wr->Prop)->Prop:=λds Q=>∃i j,ds=[.int i,.int j]/\Q (.int (g i j))
theorem y6{K:Pq}{g:Int->Int->Int}:nk K (λxs H Q=>∃i j,xs=[.int i,.int j]/\Q (.int (g i j)) H) (eN g):=λH O xs ds Qd R tr hs uu50 k=>by
 obtain⟨i,j,e,q⟩:=uu50;subst e;cases hs with
 | cons h r=>
  cases r with
  | cons h2 r=>
   cases r;cases h.int;cases h2.int;exact⟨i,j,rfl,k _ _ H q (aq.refl _) (.int _)⟩
def qV:Wr->String
 | .none=> "NoneType" | .bool _=> "bool" | .int _=> "int" | .str _=> "str" | .list _=> "list" | .tuple _=> "tuple" | .dict _=> "dict"
def gk(neg:Bool):Wr->Wr->(Wr->Prop)->Prop:=λx y Q=>∃ds,(y= .list ds\/y= .tuple ds)/\cH x=true/\ds.all cH=true/\Q (.bool (if neg then !(ds.any λd=>PJ d x) else ds.any λd=>PJ d x))
end
section
variable {P:WH} {w:WJ} {K:Pq} {mg:Str->Option Ws} {base:WG}
def bZ(N:List Str)(ds:List Wr):Dl:=ds.map (λd=>some (.v d))++PH (N.length - ds.length) none
theorem Dj{H:Hp}{O:Ex}{N:List Str}{vs:List V}{ds:List Wr}(tr:∀l,O l->H l≠none)(r:au K H O vs ds):Wd K H O H O (start N vs) (bZ N ds):=by
 have hl:=r.length;have at1:∀(i:Nat) y,(bZ N ds)[i]?=some y->(∃d,ds[i]?=some d/\y=some (.v d))\/y=none:=λi y e=>by
  unfold bZ at e;by_cases h:i < ds.length
  ·rw [Se (by simpa using h),Ru] at e;cases q:ds[i]? with
   | none=>rw [q] at e;cases e
   | some d=>rw [q] at e;exact .inl ⟨d,rfl,(Ri e).symm⟩
  ·rw [Sx (by simpa using Up h),SM] at e;split at e
   ·exact .inr (Ri e).symm
   ·cases e
 refine⟨aq.refl _,λ_ z=>z,λ_ z=>.inl z,tr,by simp [start,bZ,hl],λi y e=>?_,λi j ds' es l e1=>?_⟩
 ·rcases at1 i y e with⟨d,hd,rfl⟩ | rfl
  ·obtain⟨v,hv,rv⟩:=r.getD hd;refine⟨v,?_,rv⟩;unfold start;rw [Se (by simpa using(Ql.mp hv).1),Ru,hv];rfl
  ·exact RK
 ·rcases at1 i _ e1 with⟨d,_,z⟩ | z
  ·cases z;intro h;exact h.elim
  ·cases z
theorem lJ.okD{x qual:Str}{st:WK}{f:Wu}{fd:WD}{N ps:List Str}{k:Nat}{F:List Wr->(Wr->Prop)->Prop}(Fu:lJ K x qual st f fd)(S:aN N ps (az st))(len:∀ds Q,F ds Q->ds.length=ps.length)
 (hbody:∀(cdv:Ws) (A:WL) (outer:List Env) (s:Wv) (H:Hp) (O:Ex) (ds:List Wr) (Q:Wr->Prop) (E:XK),bN k (A.deeper (XC qual (az st) s.heap.objs.size f cdv))->F ds Q->
  ∃t,bG (j9 CX0 P w K mg base N qual (az st) f cdv A outer s H E).nox (l3 st) (cg K H O t)/\t {nx:=λ_=>Q .none,rt:=Q} (bZ N ds)):aF P w K mg base CX0 (k+1) f fd ps (bg K F):=by
 refine Fu.ok S (λvs H Q E h=>?_) (λcdv A outer s H vs Q E hr h=>?_)
 ·obtain⟨O,ds,Qd,_,r,q,_⟩:=h;rw [r.length];exact len _ _ q
 ·obtain⟨O,ds,Qd,tr,r,q,k⟩:=h;obtain⟨t,ht,q'⟩:=hbody cdv A outer s H O ds Qd E hr q;refine⟨_,ht,O,_,_,Dj tr r,q',λO' δ' σ' H' z w' S'=>?_,λd v H' z s' r'=>k d v H' z s' r',λ_ _ _ _ z=>z.elim,λ_ _ _ _ z=>z.elim⟩;exact k _ _ _ z w'.same .non
end
section
variable {X:Cx} {H0:Hp} {O0:Ex}
theorem kW:l6 X [] (cQ X.K H0 O0 cj):=λYn s σ H Q I h=>by
 obtain⟨O,δ,Qd,w,q,k⟩:=h;exact CI Yn s σ H Q I (k true H q (aq.refl _))
theorem Jq:kA X (.builtin "isinstance") (λxs H Q=>∃O d T b x,xs=[x,.ty T]/\Dt X.K H O x d/\(∀x,d≠ .dict [(.none,x)])/\kitOne X.K (.type (qV d)) (.type T)=some b/\Q (.bl b) H):=by
 intro Yn s σ H xs us Q I r h;obtain⟨O,d,T,b,x,rfl,hd,hp,hk,q⟩:=h;obtain⟨u,w',rfl,rx,rt⟩:=p5 r;cases (show w'=S7 T from rt);have fin:∀tk,EP X Yn σ Q (.bool b) {s with toks:=tk}:=λtk=>⟨.bl b,H,I.tok tk,rfl,q⟩;cases hd with
 | non=>cases (show u=RW from rx);exact XY kitx_none I.kIn RK hk (λz=>nomatch z) fin
 | bl y=>cases (show u=So y from rx);exact XY kitx_bool I.kIn RK hk (λz=>nomatch z) fin
 | int i=>obtain⟨t,e⟩:=(show ∃t,u=TL i t from rx);cases e;exact XY kitx_int I.kIn RK hk (λz=>nomatch z) fin
 | str y=>obtain⟨t,e⟩:=(show ∃t,u=S5 y t from rx);cases e;exact XY kitx_str I.kIn RK hk (λz=>nomatch z) fin
 | @tup a xs ds h n rr=>
  cases (show u=Qy a from rx);obtain⟨its,rv,⟨o,e,c,_⟩,_⟩:=I.tuple (.inl h);exact XY kitx_tuple I.kIn ⟨o,e,c⟩ hk (λz=>nomatch z) fin
 | @tupK a xs ds h rr=>
  cases (show u=Qy a from rx);obtain⟨its,rv,⟨o,e,c,_⟩,_⟩:=I.tuple h.of0;exact XY kitx_tuple I.kIn ⟨o,e,c⟩ hk (λz=>nomatch z) fin
 | @lst a xs ds h n rr=>
  cases (show u=Qy a from rx);obtain⟨its,rv,⟨o,_,e,c,_⟩,_⟩:=I.list (.inl h);exact XY kitx_list I.kIn ⟨o,e,c⟩ hk (λz=>nomatch z) fin
 | pack h n=>exact absurd rfl (hp _)
 | purse h n=>exact absurd rfl (hp _)
 | scr h r=>exact absurd rfl (hp _)
 | obj h e n r=>exact absurd rfl (hp _)
 | @dct0 a h n=>
  cases (show u=Qy a from rx);obtain⟨_,_,_,_,o,_,_,e,c,_⟩:=(show bI X.prog X.w H s.heap a (.dK []) from I.hok a _ h);exact XY kitx_dict I.kIn ⟨o,e,c.1⟩ hk (λz=>nomatch z) fin
 | @dic a ob kv ks kp ds h e1 e2 n rr=>
  cases (show u=Qy a from rx);obtain⟨_,_,_,_,o,_,_,e,c,_⟩:=(show bI X.prog X.w H s.heap a (.dK kv) from(I.hok a _ h).2);exact XY kitx_dict I.kIn ⟨o,e,c.1⟩ hk (λz=>nomatch z) fin
def cW(K:Pq)(T:String)(t:DT):DT:=λδ Q=>t δ λd=>∃b,kitOne K (.type (qV d)) (.type T)=some b/\(∀x,d≠ .dict [(.none,x)])/\Q (.bool b)
theorem Jr{T:String}{a c:WC}{t:DT}{np p:Pos}(hg:Gl X "isinstance")(hm:X.mg "isinstance"=none)(hv:WO "isinstance"=some (.builtin "isinstance"))(ha:DF X H0 O0 a t)(hc:PE X c (tC (.ty T)))
 (hs:WB [a,c] X.env=(false,eval a X.env)::WB [c] X.env:=by rfl)(hs2:WB [c] X.env=[(false,eval c X.env)]:=by rfl)(hb:(WU p (WB [c] X.env)).any (·.1)=false:=by rfl):DE X H0 O0 (.Call (.Name "isinstance" np) [a,c] [] p) (cW X.K T t):=
 (aR Jq hg hm hv (aQ ha (aQ hc bJ hs2) hs) (he:=hs) (hpl:=hb)).imp λσ H Q uu51=>by obtain⟨O,δ,Qd,w,q,k⟩:=uu51;exact⟨O,δ,_,w,q,λd v H1 uu52 s1 r1=>by obtain⟨b,e,hp,q1⟩:=uu52;exact⟨λ_=>False,d,T,b,v,rfl,r1.all,hp,e,k _ _ H1 q1 s1 (.bl b)⟩⟩
def eO:Wr->Wr->(Wr->Prop)->Prop:=λx y Q=>∃i j,x= .str i/\y= .str j/\i.length+j.length<=WA/\Q (.str (i++j))
theorem sZ{K:Pq}:cS K (λx y H Q=>∃i j,x= .str i/\y= .str j/\i.length+j.length<=WA/\Q (.str (i++j)) H) eO:=λH O x y dx dy Qd R tr hx hy uu53 k=>by
 obtain⟨i,j,e1,e2,hz,q⟩:=uu53;subst e1 e2;cases hx.str;cases hy.str;exact⟨i,j,rfl,rfl,hz,k _ _ H q (aq.refl _) (.str _)⟩
def eQ:Wr->Wr->(Wr->Prop)->Prop:=λx y Q=>∃z i c,x= .str z/\y= .int i/\z.length<=WA/\atI z.cps.toList i=some c/\Q (.str ⟨#[c]⟩)
theorem y8{K:Pq}:cS K Cw eQ:=λH O x y dx dy Qd R tr hx hy uu54 k=>by
 obtain⟨z,i,c,e1,e2,hz,e3,q⟩:=uu54;subst e1 e2;cases hx.str;cases hy.int;exact⟨z,i,c,rfl,rfl,hz,e3,k _ _ H q (aq.refl _) (.str _)⟩
def Js:V->Option Int->Option Int->Hp->VK->Prop:=λx lo hi H Q=>∃z,x= .str z/\z.length<=WA/\Q (.str (Txt.slice z lo hi)) H
theorem Jt:sP X Js:=by
 intro Yn s σ H x v vl vu lo hi sl Q I rx hs pl pu h;obtain⟨z,rfl,hz,q⟩:=h;obtain⟨t,rfl⟩:=rx;have e1:∃l:Option (Int×Tok),vl=partValue l/\l.map (·.1)=lo:=by
  cases pl with
  | none=>exact⟨none,rfl,rfl⟩
  | int i t=>exact⟨some (i,t),rfl,rfl⟩
 have e2:∃l:Option (Int×Tok),vu=partValue l/\l.map (·.1)=hi:=by
  cases pu with
  | none=>exact⟨none,rfl,rfl⟩
  | int i t=>exact⟨some (i,t),rfl,rfl⟩
 obtain⟨l,rfl,rfl⟩:=e1;obtain⟨u,rfl,rfl⟩:=e2;refine⟨"str",_,F.slot_str_getitem.lookup,Xm _ _ _,wpAny_getItem_str_slice (l:=l) (u:=u) (st:=none) hs rfl ?_⟩;exact post_val_or_str ⟨Qt (Txt.slice_le z _ _) hz,λt' k=>⟨.str (Txt.slice z (l.map (·.1)) (u.map (·.1))),H,I.tok _,⟨_,rfl⟩,q⟩⟩
def eR(t:DT)(tl th:DO):DT:=λδ Q=>t δ λd=>tl δ λl=>th δ λu=>∃z,d= .str z/\z.length<=WA/\Q (.str (Txt.slice z l u))
theorem uN{e:WC}{lo hi:Option WC}{t:DT}{tl th:DO}{pos p2:Pos}(h:DF X H0 O0 e t)(hl:PO X lo (oE X.K H0 O0 tl))(hu:PO X hi (oE X.K H0 O0 th)):DE X H0 O0 (.Subscript e (.Slice lo hi none p2) pos) (eR t tl th):=
 (xO Jt h hl hu).imp λσ H Q uu55=>by obtain⟨O,δ,Qd,w,q,k⟩:=uu55;exact⟨O,δ,_,w,q,λd v H1 q1 s1 r1=>⟨O,δ,_,w.mono s1,q1,λl H2 q2 s2=>⟨O,δ,_,w.mono (s1.trans s2),q2,λu H3 uu56 s3=>by
  obtain⟨z,e,hz,q3⟩:=uu56;subst e;cases r1.str;exact⟨z,rfl,hz,k _ _ H3 q3 (s1.trans (s2.trans s3)) (.str _)⟩⟩⟩⟩
theorem Dk{K:Pq}{H:Hp}{O:Ex}:∀{ys:List Str}{vs:List V}{us:List Ws},au K H O vs (ys.map Pr)->aM vs us->W0 us ys:=by
 intro ys
 induction ys with
 | nil=>intro vs us r rv;rw [Qc] at r;cases r;cases rv;exact .nil
 | cons y ys ih=>
  intro vs us r rv;rw [Pw] at r;cases r with
  | cons h r=>
   cases h;cases rv with
   | cons r1 r2=>
    obtain⟨t,rfl⟩:=r1;exact .cons y t (ih r r2)
theorem Ju:sQ X "str.join" (λx xs H Q=>∃(O:Ex)(z:Str)(a:V)(ys:List Str),x= .str z/\xs=[a]/\Sh X.K H O a (.list (ys.map .str))/\(ys.map (·.length)).sum+ys.length*z.length<=16777216/\Q (.str (Txt.join z ys)) H):=by
 intro Yn s σ H x xs v us Q I rx rs h;obtain⟨O,z,a,ys,rfl,rfl,ha,hz,q⟩:=h;obtain⟨t,rfl⟩:=rx;obtain⟨u,rfl,ru⟩:=lh rs;obtain⟨l,vs,rfl,hl,dl⟩:=ha.lst;cases ru;obtain⟨its,rv,pl,_⟩:=I.list hl;exact join_list pl.isList (by simpa using Dk dl rv) hz λt' k=>⟨.str _,H,I.tok _,⟨_,rfl⟩,q⟩
def eT(to:DT)(t:DT):DT:=λδ Q=>to δ λx=>∃z:Str,x= .str z/\t δ λy=>∃(ys:List Str),y= .list (ys.map .str)/\(ys.map (·.length)).sum+ys.length*z.length<=16777216/\Q (.str (Txt.join z ys))
theorem mG{o e:WC}{to t:DT}{apos cpos:Pos}(ho:DE X H0 O0 o to)(ha:DF X H0 O0 e t)(hbase:Xi o "join" X.env (eval o X.env)=eval o X.env:=by rfl)
 (hfew:((WU cpos (WB [e] X.env)).all (λx=>!x.1) && (X6 cpos (XF [] X.env)).all (λx=>x.1.isSome) && decide ([e].length+([]:List Xv).length+(if ([]:List Xv).isEmpty then 0 else 1) < 30))=true:=by rfl)
 (hline:(apos.endLine==cpos.line)=true:=by rfl)(hst:WB [e] X.env=(false,eval e X.env)::WB [] X.env:=by rfl)(hplain:(WU cpos (WB [] X.env)).any (·.1)=false:=by rfl):
 DE X H0 O0 (.Call (.Attribute o "join" apos) [e] [] cpos) (eT to t):=
 (sR SS UJ UK Ju ho (aQ ha bJ hst) hbase hfew hline hst hplain).imp λσ H Q uu57=>by obtain⟨O,δ,Qd,w,q,k⟩:=uu57;exact⟨O,δ,_,w,q,λx v H1 uu58 s1 r1=>by
  obtain⟨z,e,q1⟩:=uu58;subst e;cases r1;exact⟨rfl,O,δ,_,w.mono s1,q1,λy u H2 uu59 s2 r2=>by obtain⟨ys,e,hz,q2⟩:=uu59;subst e;exact⟨O,z,u,ys,rfl,rfl,r2,hz,k _ _ H2 q2 (s1.trans s2) (.str _)⟩⟩⟩
def eV:List Wr->(Wr->Prop)->Prop:=λds Q=>(∃i,ds=[.int i]/\Q (.int i))\/∃b,ds=[.bool b]/\Q (.int (if b then 1 else 0))
theorem uO{K:Pq}:nk K (λxs H Q=>(∃i,xs=[.int i]/\Q (.int i) H)\/∃k,xs=[.bl k]/\Q (.int (if k then 1 else 0)) H) eV:=λH O xs ds Qd R tr hs h k=>by
 rcases h with⟨i,e,q⟩ | ⟨b,e,q⟩ <;> subst e
 ·cases hs with
  | cons h r=>cases r;cases h.int;exact .inl ⟨i,rfl,k _ _ H q (aq.refl _) (.int _)⟩
 ·cases hs with
  | cons h r=>cases r;cases h.bl;exact .inr ⟨b,rfl,k _ _ H q (aq.refl _) (.int _)⟩
def eX(t:DA):DA:=λδ Q=>t δ λds=>∃xs,(ds=[.list xs]\/ds=[.tuple xs])/\Q xs
theorem qk{a:WC}{t:DA}{np p:Pos}(hg:Gl X "list")(hm:X.mg "list"=none)(hv:WO "list"=some (.type "list"))(ha:PA X [a] (mD X.K H0 O0 t))(he:WB [a] X.env=(false,eval a X.env)::WB [] X.env:=by rfl)(hpl:(WU p (WB [] X.env)).any (·.1)=false:=by rfl):FE X H0 O0 (.Call (.Name "list" np) [a] [] p) (eX t):=
 (cf Ic hg hm hv ha (he:=he) (hpl:=hpl)).imp λσ H Q uu60=>by obtain⟨O,δ,Qd,w,q,k⟩:=uu60;exact⟨O,δ,_,w,q,λds vs H1 uu61 s1 r1=>by
  obtain⟨xs,e,q1⟩:=uu61;rcases e with e | e <;> subst e
  ·cases r1 with
   | cons h r=>
    cases r;obtain⟨a,us,rfl,h1,d1⟩:=h.lst;exact⟨a,us,rfl,.inl h1,λl hl=>k _ _ _ _ q1 s1 hl d1⟩
  ·cases r1 with
   | cons h r=>
    cases r;obtain⟨a,us,rfl,h1,d1⟩:=h.tup;exact⟨a,us,rfl,.inr h1,λl hl=>k _ _ _ _ q1 s1 hl d1⟩⟩
def gm(t:DT):DA:=λδ Q=>t δ λd=>∃xs,d= .list xs/\Q xs.reverse
end
section
variable {X:Cx} {Yn:List (Wu×Obj)} {σ:St} {H:Hp} {s:Wv}
theorem ag.swap{p:Wu}{o':HO}(I:ag X Yn σ H s)(mu:rZ (H p))(new:bI X.prog X.w (ao H p o') s.heap p o'):ag X Yn σ (ao H p o') s:=by
 have hp:∃o,H p=some o:=by
  cases e:H p with
  | none=>rw [e] at mu;exact mu.elim
  | some o=>exact⟨o,rfl⟩
 obtain⟨o,ho⟩:=hp;have nn:∀{b:Wu},H b=none->b≠p:=λhb z=>by rw [z,ho] at hb;cases hb
 have nt:∀{b:Wu}{xs:List V},H b=some (.tup xs)->b≠p:=λhb z=>by rw [z] at hb;rw [hb] at mu;exact mu
 have nw:∀{b y:Wu},H b=some (.own y)->b≠p:=λhb z=>by rw [z] at hb;rw [hb] at mu;exact mu
 have nf:∀{b:Wu}{ob:Obj}{u:HO},H b=some (.frz ob u)->b≠p:=λhb z=>by rw [z] at hb;rw [hb] at mu;exact mu
 have nc:∀{b:Wu}{q:Str},H b=some (.cod q)->b≠p:=λhb z=>by rw [z] at hb;rw [hb] at mu;exact mu
 have nb:∀{b:Wu}{ps:Array Ws},H b=some (.tbl ps)->b≠p:=λhb z=>by rw [z] at hb;rw [hb] at mu;exact mu
 have ub:=I.base;refine⟨I.ok,I.os,I.bare,⟨ub.keep,ub.slot,λb ob e n hx=>?_,ub.there,λb xs z=>?_,λb ob u z=>?_,λb ps z=>?_⟩,I.loc,I.cell,?_,λx c e=>?_,λq hq=>?_,λb u e=>?_,I.len⟩
 ·have:=ub.free b ob e n hx;rw [ay (nn this)];exact this
 ·have:=ub.tups b xs z;rw [ay (nt this)];exact this
 ·have:=ub.frzs b ob u z;rw [ay (nf this)];exact this
 ·obtain⟨m,this⟩:=ub.tbls b ps z;exact⟨m,by rw [ay (nb this)];exact this⟩
 ·rw [ay (nn I.free)];exact I.free
 ·have:=I.freeC x c e;rw [ay (nn this)];exact this
 ·obtain⟨a,b,c⟩:=I.pin q hq;exact⟨a,by rw [ay (nn b)];exact b,c⟩
 ·by_cases hb:b=p
  ·subst hb;rw [bu] at e;cases e;exact new
  ·rw [ay hb] at e;exact(I.hok b u e).stay (λ_ _ _ q=>q) (λc z=>by rw [ay (nw z)];exact z) (λc xs z=>by rw [ay (nt z)];exact z) λc xs z=>by rw [ay (nc z)];exact z
theorem ag.open{p:Wu}(I:ag X Yn σ H s)(e:H p=some (oy p)):∃n,ag X Yn σ (ao H p (.lst [.int n])) s:=by
 obtain⟨⟨n,t,k,h⟩,_,_⟩:=(show bI X.prog X.w H s.heap p (oy p) from I.hok p _ e);exact⟨n,I.swap (by rw [e];exact RK) ⟨(show 1<=WA by decide),[.int n t],k,.cons ⟨t,rfl⟩ .nil,h⟩⟩
theorem ag.shut{p:Wu}{n:Int}(I:ag X Yn σ H s)(e:H p=some (.lst [.int n])):ag X Yn σ (ao H p (oy p)) s:=by
 obtain⟨_,its,k,r,h⟩:=(show bI X.prog X.w H s.heap p (.lst [.int n]) from I.hok p _ e);cases r with
 | cons r1 r2=>
  cases r2;obtain⟨t,rfl⟩:=r1;refine I.swap (by rw [e];exact RK) ⟨⟨n,t,k,h⟩,⟨_,h⟩,λh1 h2 uu62 kk=>by obtain⟨n,t,k,z⟩:=uu62;exact⟨n,t,k,kk _ z⟩⟩
theorem bG.pack{st:List WK}{t:TS}(h:bG X st t):bG X st (λD σ H=>∃p,H p=some (oy p)/\∀n,t {nx:=λσ' H'=>∃n',H' p=some (.lst [.int n'])/\D.nx σ' (ao H' p (oy p)),rt:=λv H'=>∃n',H' p=some (.lst [.int n'])/\D.rt v (ao H' p (oy p))} σ (ao H p (.lst [.int n]))):=by
 intro Yn s σ H D I ⟨p,e,q⟩;obtain⟨n,I1⟩:=I.open e;refine aC (h Yn s σ _ _ I1 (q n)) λf s1 z=>?_;cases f with
 | next=>obtain⟨σ',H',J,n',e',q'⟩:=z;exact⟨σ',_,J.shut e',q'⟩
 | ret u=>obtain⟨v,σ',H',J,r,n',e',q'⟩:=z;exact⟨v,σ',_,J.shut e',r,q'⟩
 | brk=>obtain⟨_,_,_,z⟩:=z;exact z.elim
 | cont=>obtain⟨_,_,_,z⟩:=z;exact z.elim
theorem bG.newPack{st:List WK}{t:TS}(h:bG X st t):bG X st (λD σ H=>t {nx:=λ_ _=>False,rt:=λv H'=>∃p n,v= .ref p/\H' p=some (.lst [.int n])/\D.rt v (ao H' p (oy p))} σ H):=by
 intro Yn s σ H D I q;refine aC (h Yn s σ _ _ I q) λf s1 z=>?_;cases f with
 | next=>obtain⟨_,_,_,z⟩:=z;exact z.elim
 | ret u=>obtain⟨v,σ',H',J,r,p,n',e,e',q'⟩:=z;subst e;exact⟨_,σ',_,J.shut e',r,q'⟩
 | brk=>obtain⟨_,_,_,z⟩:=z;exact z.elim
 | cont=>obtain⟨_,_,_,z⟩:=z;exact z.elim
end
def y9:List Wr->(Wr->Prop)->Prop:=λds Q=>∃z:Int,ds=[mi,.int z]/\0 < z/\z<=1000000/\∀i:Int,0<=i->i < z->Q (.int i)
def Jv:List Wr->(Wr->Prop)->Prop:=λds Q=>∃(ns:List Int)(i:Int),ds=[mB (ns.map .int),.int i]/\(∀z∈ns,Rl z<=1048576)/\0<=i/\i<=64/\Q mi
theorem aX{α:Type}{a:α}{l:List α}:atI (a::l) 0=some a:=nK (j:=0) rfl
theorem bA{α:Type}{a b:α}{l:List α}:atI (a::b::l) 1=some b:=nK (j:=1) rfl
theorem b0{α:Type}{a b c:α}{l:List α}:atI (a::b::c::l) 2=some c:=nK (j:=2) rfl
theorem cX{α:Type}{a b c d:α}{l:List α}:atI (a::b::c::d::l) 3=some d:=nK (j:=3) rfl
theorem eY{α:Type}{a b c d e:α}{l:List α}:atI (a::b::c::d::e::l) 4=some e:=nK (j:=4) rfl
theorem eZ{i:Int}:aV (.int i):=rfl
theorem ff{i:Bool}:aV (.bool i):=rfl
theorem gn:aV .none:=rfl
theorem bj{x y:Str}:PJ (.str x) (.str y)=(x==y):=by simp [PJ]
theorem cP{x y:Int}:PJ (.int x) (.int y)=(x==y):=by simp [PJ]
theorem fg{x y:Bool}:PJ (.bool x) (.bool y)=(x==y):=by simp [PJ]
theorem mH{x:Str}:aV (.str x)↔QM x=true:=by
 unfold aV PD;simp [QW,Si]
theorem pB{ds:List Wr}(h:aV (.tuple ds)):∀d∈ds,aV d:=by
 have h1:=Rm h;have h2:=UL h;have k:∀(ds:List Wr)(d:Wr),d∈ds->(Q4 ds=true->d.canLay0=true)/\d.depth<=Rv ds:=by
  intro ds
  induction ds with
  | nil=>intro d hd;simp at hd
  | cons e r ih=>
   intro d hd;rcases Pz.mp hd with z | z
   ·subst z;refine⟨λq=>?_,?_⟩
    ·rw [Q4,P6] at q;exact q.1
    ·rw [Rv];exact Nat.le_max_left _ _
   ·obtain⟨a,b⟩:=ih d z;refine⟨λq=>?_,?_⟩
    ·rw [Q4,P6] at q;exact a q.2
    ·rw [Rv];exact Qt b (Nat.le_max_right _ _)
 intro d hd;obtain⟨a,b⟩:=k ds d hd;unfold aV PD;rw [P6];refine⟨a (by simpa [QW] using h1),decide_eq_true ?_⟩;rw [Si] at h2;omega
theorem p7{n d:Nat}:HT.sIx n d none=d:=rfl
theorem oF{n d:Nat}{i:Int}(h0:0<=i)(h1:i<=n):HT.sIx n d (some i)=i.toNat:=by
 obtain⟨j,rfl⟩:=Q0 h0;rw [HT.sIx_nat,Q7];omega
theorem qm{xs:List Wr}{i:Int}(h0:0<=i)(h1:i<=xs.length):bz xs none (some i)=xs.take i.toNat:=by
 unfold bz;rw [p7,oF h0 h1];simp
theorem qo{xs:List Wr}{i:Int}(h0:0<=i)(h1:i<=xs.length):bz xs (some i) none=xs.drop i.toNat:=by
 unfold bz;rw [p7,oF h0 h1,RH (by rw [RU];exact PL _)]
theorem z9{lo:Int}{n i:Nat}{x:Wr}(h:(lj lo n)[i]?=some x):i < n/\x= .int (lo+i):=by
 unfold lj at h;rw [Ru] at h;by_cases hi:i < n
 ·rw [List.getElem?_range hi] at h;exact⟨hi,(Ri h).symm⟩
 ·rw [Sd (by simpa using hi)] at h;cases h
theorem Aa{lo:Int}{n:Nat}:(lj lo n).length=n:=by unfold lj;simp
section
variable {X:Cx} {Yn:List (Wu×Obj)} {σ:St} {H:Hp} {s:Wv} {a:Wu} {y v:V} {u r:Ws} {o:Option V} {A:WL} {E:Ws->Wv->Prop}
theorem ag.big(I:ag X Yn σ H s):sysModules < s.heap.objs.size:=by
 have h:WE < s.heap.objs.size:=(I.mod.glob.keeps I.bk).lt;exact Vh tx h
end
theorem Jw{P:WH}{w:WJ}{H:Hp}(h:WG)(hb:sysModules < h.objs.size):bI P w H (h.push {cls:= .type "dict",data:= .dict #[]}) h.objs.size (.dK []):=
 ⟨Rt _,beq_eq_false_iff_ne.mpr (Ne.symm (QF hb)),[],.nil,Heap.DictOf.new h⟩
def Jx:TE:=λ_ H Q=>∀p,H p=none->Q (.ref p) (ao H p (.dK []))
section
variable {X:Cx} {pos:Pos}
theorem Jy:PE X (.Dict [] [] pos) Jx:=λYn s σ H Q I h=>
 wpAny_Dict_empty ⟨.ref s.heap.objs.size,_,I.laid (a:=s.heap.objs.size) (o:= .dK []) (t':=s.toks) (λ_ _ q=>Py _ q) (PL _) (Jw s.heap I.big),rfl,h _ (I.hok.fresh (PL _))⟩
end
section
variable {X:Cx} {H0:Hp} {O0:Ex}
def gp(a b c d:Str)(t:DT):DT:=λδ Q=>t δ λy=>(y= .str a/\Q (.str c))\/(y= .str b/\Q (.str d))
def litsOf:List WC->Option (List Wr)
 | []=>some []
 | .Constant (.int i) _ _::r=>(litsOf r).map (.int i::·)
 | .Constant (.str x) _ _::r=>(litsOf r).map (.str x::·)
 | _::_=>none
def cY(ds:List Wr):DA:=λ_ Q=>Q ds
theorem ny:∀{es:List WC}{ds:List Wr},litsOf es=some ds->PA X es (mC X.K H0 O0 (cY ds))
 | [],ds,h=>by cases h;exact ah
 | e::r,ds,h=>by
  cases e with
  | Constant c j p=>
   cases c with
   | int i=>
    have h':(litsOf r).map (.int i::·)=some ds:=h;cases q:litsOf r with
    | none=>rw [q] at h';cases h'
    | some ms=>rw [q] at h';cases h';exact aa ae (ny q)
   | str x=>
    have h':(litsOf r).map (.str x::·)=some ds:=h;cases q:litsOf r with
    | none=>rw [q] at h';cases h'
    | some ms=>rw [q] at h';cases h';exact aa aw (ny q)
   | _=>cases h
  | _=>cases h
def litsE:WC->Option (List Wr)
 | .List es _=>litsOf es
 | _=>none
theorem qp{e:WC}{ds:List Wr}(h:litsE e=some ds):FE X H0 O0 e (cU (cY ds)):=by
 cases e with
 | List es p=>exact bw (ny h)
 | _=>cases h
theorem Dm{e:WC}{ds:List Wr}{x:Option WC}{n:Nat}{env:Env}(h:litsE e=some ds):W2 e x n env=pure false:=by
 cases e with
 | List es p=>rfl
 | _=>cases h
end
theorem nP{x:Str}:QM x=true↔∀c∈x.cps.toList,c < 0x110000:=by
 unfold QM;rw [<-Array.all_toList,Rh];simp
theorem tf(x y:Str):(x++y).cps=x.cps++y.cps:=rfl
theorem pC(x y:Str):(x++y).length=x.length+y.length:=by
 show(x.cps++y.cps).size=_;rw [Uj];rfl
theorem Jz{a b:Str}{c d:Nat}(h:a++⟨#[c]⟩++b=a++⟨#[d]⟩++b):c=d:=by
 have h1:=congrArg (λs:Str=>s.cps.toList) h;simp only [tf,Sj] at h1;have h2:=List.append_cancel_right h1;have h3:=List.append_cancel_left h2;simpa using h3
def lr:Str:="abcdefghijklmnopqrstuvwxyz"
theorem JA:lr.cps.toList.length=26:=td
theorem JB:lr.cps.toList.Nodup:=td
theorem tj:∀c∈lr.cps.toList,c < 0x110000:=td
theorem tm{j:Int}(h0:0<=j)(h1:j < 26):∃c,atI lr.cps.toList j=some c/\lr.cps.toList[j.toNat]?=some c/\c < 0x110000:=by
 obtain⟨k,rfl⟩:=Q0 h0;have hk:k < lr.cps.toList.length:=by rw [JA];omega
 refine⟨lr.cps.toList[k],nK (by simp [hk]),by simp [hk],tj _ (R9 hk)⟩
def l9(j:Int):Nat:=(lr.cps.toList[j.toNat]?).getD 0
theorem JC{j:Int}(h0:0<=j)(h1:j < 26):atI lr.cps.toList j=some (l9 j)/\l9 j < 0x110000:=by
 obtain⟨c,e1,e2,e3⟩:=tm h0 h1;have:l9 j=c:=by unfold l9;rw [e2];rfl
 rw [this];exact⟨e1,e3⟩
theorem JD{i j:Int}(h0:0<=i)(h1:i < 26)(g0:0<=j)(g1:j < 26)(e:l9 i=l9 j):i=j:=by
 obtain⟨c,_,e2,_⟩:=tm h0 h1;obtain⟨d,_,e4,_⟩:=tm g0 g1;have a:l9 i=c:=by unfold l9;rw [e2];rfl
 have b:l9 j=d:=by unfold l9;rw [e4];rfl
 have cd:c=d:=by rw [<-a,<-b,e]
 subst cd;have hi:i.toNat < lr.cps.toList.length:=(Ql.mp e2).1;have:=(Vq (l:=lr.cps.toList) (i:=i.toNat) (j:=j.toNat) hi JB).mp (by rw [e2,e4]);omega
structure kL (n:Nat) (d:Wr):Prop where
 can:d.canLay0=true
 dep:d.depth<=n
theorem kL.shp{n:Nat}{d:Wr}(h:kL n d)(hn:n<=64):PD d=true:=by
 unfold PD;rw [h.can,decide_eq_true (Qt h.dep hn)];rfl
theorem kL.mono{n m:Nat}{d:Wr}(h:kL n d)(hn:n<=m):kL m d:=⟨h.can,Qt h.dep hn⟩
theorem Dn{x:Str}(h:QM x=true):kL 1 (.str x):=⟨by simpa [QW] using h,by simp [Si]⟩
theorem JE{i:Int}:kL 1 (.int i):=⟨by simp [QW],by simp [Si]⟩
theorem JF{i:Bool}:kL 1 (.bool i):=⟨by simp [QW],by simp [Si]⟩
theorem Dp{n:Nat}:∀{ds:List Wr},(∀d∈ds,kL n d)->Q4 ds=true/\Rv ds<=n
 | [],_=>⟨by simp [Q4],by simp [Rv]⟩
 | d::r,h=>by
  obtain⟨a,b⟩:=Dp (ds:=r) λe he=>h e (by simp [he]);have c:=h d Wq;refine⟨by rw [Q4,c.can,a];rfl,?_⟩;rw [Rv];exact Nat.max_le.mpr ⟨c.dep,b⟩
theorem mS{n:Nat}{ds:List Wr}(h:∀d∈ds,kL n d):kL (n+1) (.tuple ds):=by
 obtain⟨a,b⟩:=Dp h;refine⟨by simpa [QW] using a,?_⟩;rw [Si];omega
section
variable {X:Cx} {pos:Pos}
def Dq(K:Pq)(n:Nat)(t:mv):TG:=λv σ H Q=>∃a xs,v= .ref a/\bf K H a xs/\xs.length=n/\t xs σ H Q
theorem JG{es:List WC}{k:Nat}{t:mv}{n:Nat}(hc:X.calm=true)(h:so X es t)
 (hn:(Xl es X.env).length=n:=by rfl)(hst:(Xl es X.env).findIdx? (·.1)=none:=by rfl):PG X (.Tuple es k pos) (Dq X.K n t):=by
 intro Yn s σ H v u Q I r hw;obtain⟨a,xs,e1,hq,hl,hw⟩:=hw;subst e1;cases r;obtain⟨its,rv,⟨o,n',ho,hcls,hd,hdata⟩,hz⟩:=I.list hq;have hlst:s.heap.IsList a its.toArray:=⟨o,ho,hcls,n',hdata⟩;rw [assign_Tuple];refine Wt (Xu ?_);unfold unpack;have hn':(Xl es X.env).length=its.toArray.size:=by simp [hn,<-hl,rv.length]
 rw [hn',hst];refine Wt (WX (PySem.W.kun_itemsOf (I.ok.hd hc) hlst λh' hx=>?_));have I1:ag X Yn σ H {s with heap:=h'}:=I.kept (t':=s.toks) λb o e=>hx b o (QF (PQ e)) e;exact h Yn _ σ H xs _ Q I1 (by simpa using rv) hw
def Dr(n:Nat)(t:oA):DG:=λx δ Q=>∃xs,x= .list xs/\xs.length=n/\t xs δ Q
theorem JH{K:Pq}{n:Nat}{t:mv}{dt:oA}(h:sX K t dt):GD K (Dq K n t) (Dr n dt):=λH0 O0 H O σ δ v x R Qd w r uu63 k=>by
 obtain⟨xs,e,hl,q⟩:=uu63;subst e;obtain⟨a,vs,rfl,hs,rr⟩:=(Sh.dt r).lst;exact⟨a,vs,rfl,hs,by rw [rr.length];exact hl,h H0 O0 H O σ δ _ _ R Qd w rr q k⟩
end
def PU(X:Cx)(e:WC)(te:TE):Prop:=∀(i:Nat)(x:Str)(pos' spos:Pos)(hN:X.N.Nodup)(hxi:X.N[i]?=some x)(hx:nH X.env.scope x)(hsw:W2 e (some (.Name x pos')) spos.line X.env=pure true)
 (hfn:X.fn x=true\/X.env.scope.names.lookup x=some .local),PS X (.Assign [.Name x pos'] e spos) (qN te (nh i))
theorem PU.imp{X:Cx}{e:WC}{t u:TE}(h:PU X e t)(i:∀σ H Q,u σ H Q->t σ H Q):PU X e u:=λi' x p1 p2 hN hxi hx hsw hfn=>(h i' x p1 p2 hN hxi hx hsw hfn).imp λD σ H z=>i σ H _ z
section
variable {X:Cx} {H0:Hp} {O0:Ex}
section
variable {tg iter elt:WC} {ifs:List WC} {scope:WZ} {N':List Str} {k:Nat} {fr:List Nat} {g:TG} {dg:DG} {t:DT} {ta:DA} {tc:DB} {te:DT} {pos p ps:Pos}
theorem JI{wi:TI}{tc:TT}{te:TE}(hc:X.calm=true)(S:bO X.env.scope X.N N' k fr scope)(hi:PI X tg iter wi)
 (hg:∀fp C s H,PG (bR X scope N' fp C s H) tg g)(hf:∀fp C s H,l6 (bR X scope N' fp C s H) ifs tc)(he:∀fp C s H,PE (bR X scope N' fp C s H) elt te)
 (hs:∀x,WN iter X.env x=pure x:=by intro _;rfl):PU X (.ListComp elt [⟨tg,iter,ifs,0⟩] scope pos) (ph wi g tc te k fr):=
 λ_ _ _ _ hN hxi hx hsw hfn=>ID hN hxi hx hc S hi hg hf he hsw hs hfn
theorem JJ(hc:X.calm=true)(S:bO X.env.scope X.N N' k fr scope)(hi:DF X H0 O0 iter t)(gd:GD X.K g dg)(hk:oB g k)(hfr:fr.Nodup)
 (hg:∀fp C s H,PG (bR X scope N' fp C s H) tg g)(hf:∀fp C s H,l6 (bR X scope N' fp C s H) ifs (cQ X.K H0 O0 tc))(he:∀fp C s H,PE (bR X scope N' fp C s H) elt (up X.K H0 O0 te))
 (hs:∀x,WN iter X.env x=pure x:=by intro _;rfl):PU X (.ListComp elt [⟨tg,iter,ifs,0⟩] scope pos) (uK X.K H0 O0 (cO t dg tc te k fr)):=
 (JI hc S (uk hi) hg hf he hs).imp λσ H Q uu64=>by obtain⟨O,δ,Qd,w,q,kk⟩:=uu64;exact⟨O,δ,_,w,q,λd v H1 uu65 s1 r1=>by
  obtain⟨xs,e,hz,q1⟩:=uu65;subst e;obtain⟨a,vs,rfl,hq,rr⟩:=r1.lst;refine⟨a,rfl,⟨_,hq⟩,λD hD=>qU (kK.list hq) gd hfr (λv _ H' R h=>hk fr σ v H' R h) (λ_ _ _ z=>z) (λ_ _ _ z=>z) (λD H' hD s' o e=>s' _ _ e (ky e hD)) rr (w.mono s1) (by rw [rr.length];exact hz) q1 (λds us p H' z s' hp r'=>kk ds us p H' z (s1.trans s') hp r') D hD⟩⟩
end
theorem JK{i:Nat}{x:Str}{e:WC}{t:DA}{pos pos':Pos}(hN:X.N.Nodup)(hi:X.N[i]?=some x)(hx:nH X.env.scope x)(he:PU X e (uK X.K H0 O0 t))(hs:W2 e (some (.Name x pos')) pos.line X.env=pure true:=by rfl)(hf:X.fn x=true\/X.env.scope.names.lookup x=some .local:=by first | exact .inl rfl | exact .inr rfl | assumption):
 PS X (.Assign [.Name x pos'] e pos) (cg X.K H0 O0 (cT i (dL t))):=
 (he _ _ _ _ hN hi hx hs hf).imp λD σ H ⟨O,δ,E,w,q,k1,k2,k3,k4⟩=>⟨O,δ,_,w,q,λds vs p H1 q1 s1 hp r1=>
  k1 O _ _ _ q1 ((w.mono (s1.trans (aq.new hp))).set (.lst (.inl bu) (sU w s1 hp) (r1.mono (aq.new hp)))) (.same (s1.trans (aq.new hp)))⟩
end
mutual
theorem Ds:∀d e:Wr,PJ d e=PJ e d
 | .list xs,.list ys=>by rw [PJ,PJ];exact uP xs ys
 | .tuple xs,.tuple ys=>by rw [PJ,PJ];exact uP xs ys
 | .bool _,.bool _ | .int _,.int _ | .str _,.str _=>by simp only [PJ];exact TX
 | .bool a,.int j | .int j,.bool a=>by simp only [PJ];exact TX
 | .none,.none=>rfl
 | .dict _,.dict _=>by simp only [PJ]
 | .none,.bool _ | .none,.int _ | .none,.str _ | .none,.list _ | .none,.tuple _ | .none,.dict _=>by simp only [PJ]
 | .bool _,.none | .bool _,.str _ | .bool _,.list _ | .bool _,.tuple _ | .bool _,.dict _=>by simp only [PJ]
 | .int _,.none | .int _,.str _ | .int _,.list _ | .int _,.tuple _ | .int _,.dict _=>by simp only [PJ]
 | .str _,.none | .str _,.bool _ | .str _,.int _ | .str _,.list _ | .str _,.tuple _ | .str _,.dict _=>by simp only [PJ]
 | .list _,.none | .list _,.bool _ | .list _,.int _ | .list _,.str _ | .list _,.tuple _ | .list _,.dict _=>by simp only [PJ]
 | .tuple _,.none | .tuple _,.bool _ | .tuple _,.int _ | .tuple _,.str _ | .tuple _,.list _ | .tuple _,.dict _=>by simp only [PJ]
 | .dict _,.none | .dict _,.bool _ | .dict _,.int _ | .dict _,.str _ | .dict _,.list _ | .dict _,.tuple _=>by simp only [PJ]
theorem uP:∀xs ys:List Wr,Rc xs ys=Rc ys xs
 | [],[]=>rfl
 | x::xs,y::ys=>by rw [Rc,Rc,Ds x y,uP xs ys]
 | [],_::_=>by rw [Rc,Rc]
 | _::_,[]=>by rw [Rc,Rc]
end
def Ab(z:Str):It:=⟨λi _=>i < z.cps.size,λi H x H'=>H'=H/\∃c,z.cps[i]?=some c/\x= .str ⟨#[c]⟩,λi _=>z.cps.size<=i⟩
theorem JL(z:Str):["enumerate","zip","dict_itemiterator","dict_reverseitemiterator","odict_iterator","itertools.zip_longest","itertools.pairwise"].contains (XQ z)=false:=by
 unfold XQ;split <;> decide
theorem Du{P:WH}{w:WJ}{A:WL}(hh:A.handled=none)(I:Wu)(z:Str)(t:Tok):Walks P w A I [I] [I] z.cps.size (SignAt z) (λi h=>h.IsStrIter I (XQ z) z t i):=by
 unfold XQ;split
 ·exact Walks.strAscii hh I z t
 ·exact Walks.strWide hh I z t
theorem JM{P:WH}{w:WJ}{K:Pq}{tg:WC}(it:Wu)(z:Str)(t:Tok):pX P w K tg (Ab z) [it] it (λi h=>h.IsStrIter it (XQ z) z t i/\i<=z.cps.size) where
 mem:=Wq
 obj:=λi h st b hb=>by
  have e:b=it:=by simpa using hb
  subst e;obtain⟨⟨o,e,c,d⟩,_⟩:=st;exact⟨o,e,λv z=>by rw [d] at z;cases z⟩
 keep:=λi h h' st k=>by
  obtain⟨⟨o,e,c,d⟩,l⟩:=st;exact⟨⟨o,k it Wq o e,c,d⟩,l⟩
 item:=by
  intro X hP hw hK hc i Yn s σ H E I hf st hg;subst hP hw hK;obtain⟨f0,f1,f2,f3,f4,f5⟩:=hf it Wq;have W:=Du (P:=X.prog) (w:=X.w) (I.ok.hd hc) it z t;refine W.item i s _ _ hg st.1 λv h' tk hv st' kk=>?_;obtain⟨c,u,hc',rfl⟩:=hv;have I1:ag X Yn σ H {s with heap:=h',toks:=tk}:=I.turned (λb o hb e=>kk b o (by simpa using hb) e) f0 f1 f3 f4 f5;obtain⟨o,e,cc,d⟩:=id st';exact⟨_,rfl,uj (s:={s with heap:=h',toks:=tk}) e cc d (JL z) ⟨.str ⟨#[c]⟩,H,I1,⟨u,rfl⟩,⟨rfl,c,hc',rfl⟩,⟨st',hg⟩,λb hb=>(hf b hb).1⟩⟩
 done:=by
  intro X hP hw hK hc i Yn s σ H E I hf st hg;subst hP hw hK;obtain⟨f0,f1,f2,f3,f4,f5⟩:=hf it Wq;have W:=Du (P:=X.prog) (w:=X.w) (I.ok.hd hc) it z t;have e:i=z.cps.size:=Nat.le_antisymm st.2 hg;subst e;exact W.done s _ _ st.1 λh' tk eb=>⟨rfl,I.turned (λb o hb e=>eb b o (by simpa using hb) e) f0 f1 f3 f4 f5⟩
 self:=λA i s Q E st h=>by
  obtain⟨st,_⟩:=st
  revert st
  unfold XQ;split
  ·exact λst=>wpAny_pyIter_striter_ascii st h
  ·exact λst=>wpAny_pyIter_striter_wide st h
def JN(tl:TE):TI:=λσ H R=>tl σ H λx H1=>∃z,x= .str z/\R (Ab z) H1
theorem JO{X:Cx}{tg l:WC}{tl:TE}(hl:PE X l tl):PI X tg l (JN tl):=by
 intro Yn s σ H R I h;refine aC (hl Yn s σ H _ I h) λv s1 ⟨x,H1,I1,r1,q1⟩=>?_;obtain⟨z,e,q⟩:=q1;subst e;obtain⟨t,rfl⟩:=r1;refine wpAny_pyIter_strU ?_;refine⟨s1.heap.objs.size,[s1.heap.objs.size],_,_,H1,rfl,I1.kept (t':=s1.toks) λb o e=>Py _ e,JM _ z t,⟨⟨_,Qa _ rfl,rfl,rfl⟩,Rt _⟩,λb hb=>?_,q⟩;have e:b=s1.heap.objs.size:=by simpa using hb
 subst e;exact I1.fpOk (PL _) (I1.hok.fresh (PL _))
def qW(z:Str):List Wr:=z.cps.toList.map λc=>.str ⟨#[c]⟩
theorem kK.str{z:Str}:kK (Ab z) (λ_=>True) (z.cps.toList.map λc=>V.str ⟨#[c]⟩):=by
 refine⟨λi H' s hi=>(by simpa using hi:i < z.cps.size),λi H' x H'' s hi y=>⟨y.1,?_⟩,λi H' s hi=>(by simpa using hi:z.cps.size<=i)⟩;obtain⟨_,c,hc,rfl⟩:=y;simp [hc]
theorem au.signs{K:Pq}{H:Hp}{O:Ex}:∀(l:List Nat),au K H O (l.map λc=>V.str ⟨#[c]⟩) (l.map λc=>Pr ⟨#[c]⟩)
 | []=>.nil
 | n::r=>.cons (.str _) (au.signs r)
section
variable {X:Cx} {H0:Hp} {O0:Ex}
def fh(t:DT)(g:DG)(tc:DB)(te:DT)(k:Nat)(fr:List Nat):DA:=λδ Q=>t δ λd=>∃z,d= .str z/\z.length<=WA/\mQ g tc te (bx k fr δ) (qW z) Q
def fj(ta:DA)(g:DG)(tc:DB)(te:DT)(k:Nat)(fr:List Nat):DA:=λδ Q=>ta δ λds=>∃i j:Int,ds=[.int i,.int j]/\-(2 ^ 62)<=i/\j - i < WA/\i < 2 ^ 62/\-(2 ^ 62)<=j/\j < 2 ^ 62/\mQ g tc te (bx k fr δ) (lj i (j - i).toNat) Q
section
variable {tg iter elt:WC} {ifs:List WC} {scope:WZ} {N':List Str} {k:Nat} {fr:List Nat} {g:TG} {dg:DG} {t:DT} {ta:DA} {tc:DB} {te:DT} {pos p ps:Pos}
theorem uQ(hc:X.calm=true)(S:bO X.env.scope X.N N' k fr scope)(hi:DF X H0 O0 iter t)(gd:GD X.K g dg)(hk:oB g k)(hfr:fr.Nodup)
 (hg:∀fp C s H,PG (bR X scope N' fp C s H) tg g)(hf:∀fp C s H,l6 (bR X scope N' fp C s H) ifs (cQ X.K H0 O0 tc))(he:∀fp C s H,PE (bR X scope N' fp C s H) elt (up X.K H0 O0 te))
 (hs:∀x,WN iter X.env x=pure x:=by intro _;rfl):FE X H0 O0 (.ListComp elt [⟨tg,iter,ifs,0⟩] scope pos) (fh t dg tc te k fr):=
 (qc hc S (JO hi) hg hf he hs).imp λσ H Q uu68=>by obtain⟨O,δ,Qd,w,q,kk⟩:=uu68;exact⟨O,δ,_,w,q,λd v H1 uu69 s1 r1=>by
  obtain⟨z,e,hz,q1⟩:=uu69;subst e;cases r1.str;have hz':(z.cps.toList.map λc=>V.str ⟨#[c]⟩).length<=WA:=by rw [PB,PY];exact hz
  exact⟨z,rfl,λD hD=>qU (P:=λ_=>True) kK.str gd hfr (λv _ H' R h=>hk fr σ v H' R h) (λ_ _ _ z=>z) (λ_ _ _ z=>z) (λ_ _ _ _=>trivial) (au.signs _) (w.mono s1) hz' q1 (λds us p H' z s' hp r'=>kk ds us p H' z (s1.trans s') hp r') D hD⟩⟩
theorem Ac(hc:X.calm=true){a b:WC}(S:bO X.env.scope X.N N' k fr scope)(hgl:Gl X "range")(hm:X.mg "range"=none)(ha:PA X [a,b] (mD X.K H0 O0 ta))(gd:GD X.K g dg)(hk:oB g k)(hfr:fr.Nodup)
 (hg:∀fp C s H,PG (bR X scope N' fp C s H) tg g)(hf:∀fp C s H,l6 (bR X scope N' fp C s H) ifs (cQ X.K H0 O0 tc))(he:∀fp C s H,PE (bR X scope N' fp C s H) elt (up X.K H0 O0 te))
 (hst:WB [a,b] X.env=[(false,eval a X.env),(false,eval b X.env)]:=by rfl)(hst2:WB [b] X.env=[(false,eval b X.env)]:=by rfl)(hs:∀x,WN (.Call (.Name "range" p) [a,b] [] ps) X.env x=pure x:=by intro _;rfl):
 FE X H0 O0 (.ListComp elt [⟨tg,(.Call (.Name "range" p) [a,b] [] ps),ifs,0⟩] scope pos) (fj ta dg tc te k fr):=
 (qc hc S (B8 hgl hm ha hst hst2) hg hf he hs).imp λσ H Q uu70=>by obtain⟨O,δ,Qd,w,q,kk⟩:=uu70;exact⟨O,δ,_,w,q,λds vs H1 uu71 s1 r1=>by
  obtain⟨i,j,e,b1,b2,b3,b4,b5,q1⟩:=uu71;subst e;cases r1 with
  | cons r1 r2=>
   cases r2 with
   | cons r2 r3=>
    cases r3;cases r1.int;cases r2.int;exact⟨i,j,rfl,⟨b1,b3,b4,b5⟩,λD hD=>qU (P:=λ_=>True) kK.rng gd hfr (λv _ H' R h=>hk fr σ v H' R h) (λ_ _ _ z=>z) (λ_ _ _ z=>z) (λ_ _ _ _=>trivial) (au.rng _) (w.mono s1) (by rw [PB,SW];omega) q1 (λds us p H' z s' hp r'=>kk ds us p H' z (s1.trans s') hp r') D hD⟩⟩
end
def Ad(K:Pq)(neg:Bool):R2:=λx y H Q=>∃O dx ds dy,Sh K H O x dx/\Sh K H O y dy/\(dy= .list ds\/dy= .tuple ds)/\aV dx/\Q4 ds=true/\Q (.bl (if neg then !(ds.any λd=>PJ d dx) else ds.any λd=>PJ d dx)) H
theorem uR{A:WL}{k:Nat}{xs:List Wr}{d:Wr}(hd:aV d)(hr:bN k A):A.units+1+min (Rv xs) d.depth < cLine:=by
 have:=UL hd;have h1:min (Rv xs) d.depth<=d.depth:=Vz _ _;have:=hr.un;omega
theorem oG{k:Nat}(hr:bN k X.A):bC X (WM .In) (Ad X.K false):=by
 intro Yn s σ H x y v u Q I rx ry h;obtain⟨O,dx,ds,dy,hx,hy,e,sx,sy,q⟩:=h;obtain⟨as,ra⟩:=nj I hx.all (Rm sx) rx;rcases e with e | e <;> subst e
 ·obtain⟨bs,rb⟩:=nj I hy.all (by simpa [QW] using sy) ry;exact SeqAt.in_list_reads rb ra sy (Rm sx) (uR sx hr) (bH I q rfl)
 ·obtain⟨bs,rb⟩:=nj I hy.all (by simpa [QW] using sy) ry;exact SeqAt.in_tuple_reads rb ra sy (Rm sx) (uR sx hr) (bH I q rfl)
theorem Ae{k:Nat}(hr:bN k X.A):bC X (WM .NotIn) (Ad X.K true):=by
 intro Yn s σ H x y v u Q I rx ry h;obtain⟨O,dx,ds,dy,hx,hy,e,sx,sy,q⟩:=h;obtain⟨as,ra⟩:=nj I hx.all (Rm sx) rx;rcases e with e | e <;> subst e
 ·obtain⟨bs,rb⟩:=nj I hy.all (by simpa [QW] using sy) ry;exact SeqAt.notIn_list_reads rb ra sy (Rm sx) (uR sx hr) (bH I q rfl)
 ·obtain⟨bs,rb⟩:=nj I hy.all (by simpa [QW] using sy) ry;exact SeqAt.notIn_tuple_reads rb ra sy (Rm sx) (uR sx hr) (bH I q rfl)
def fk(neg:Bool):Wr->Wr->(Wr->Prop)->Prop:=λx y Q=>∃ds,(y= .list ds\/y= .tuple ds)/\aV x/\Q4 ds=true/\Q (.bool (if neg then !(ds.any λd=>PJ d x) else ds.any λd=>PJ d x))
theorem mT{K:Pq}{neg:Bool}:cS K (Ad K neg) (fk neg):=λH O x y dx dy Qd R _ hx hy uu72 k=>by obtain⟨ds,e,a,b,q⟩:=uu72;exact⟨O,dx,ds,dy,hx,hy,e,a,b,k _ _ H q (aq.refl _) (.bl _)⟩
def fq:List Wr->(Wr->Prop)->Prop:=λds Q=>∃z:Str,ds=[.str z]/\z.length<=WA/\Q (.int z.length)
theorem oH{K:Pq}:nk K (λxs H Q=>∃z,xs=[.str z]/\z.length<=WA/\Q (.int z.length) H) fq:=λH O xs ds Qd R _ hs uu73 k=>by
 obtain⟨z,e,hz,q⟩:=uu73;subst e;cases hs with
 | cons h r=>cases r;cases h.str;exact⟨z,rfl,hz,k _ _ H q (aq.refl _) (.int _)⟩
def ft:Wr->Wr->(Wr->Prop)->Prop:=λx y Q=>∃i j:Str,x= .str i/\y= .str j/\Q (.bool (decide (i.cps.toList < j.cps.toList)))
theorem JP{K:Pq}:cS K (λx y H Q=>∃i j,x= .str i/\y= .str j/\Q (.bl (decide (i.cps.toList < j.cps.toList))) H) ft:=λH O x y dx dy Qd R _ hx hy uu74 k=>by
 obtain⟨i,j,e1,e2,q⟩:=uu74;subst e1 e2;cases hx.str;cases hy.str;exact⟨i,j,rfl,rfl,k _ _ H q (aq.refl _) (.bl _)⟩
def fu:Wr->Wr->(Wr->Prop)->Prop:=λx y Q=>∃i j:Str,x= .str i/\y= .str j/\Q (.bool (!(R0 j i 0 j.length 1).isEmpty))
theorem uS{K:Pq}:cS K (λx y H Q=>∃i j,x= .str i/\y= .str j/\Q (.bl (!(R0 j i 0 j.length 1).isEmpty)) H) fu:=λH O x y dx dy Qd R _ hx hy uu75 k=>by
 obtain⟨i,j,e1,e2,q⟩:=uu75;subst e1 e2;cases hx.str;cases hy.str;exact⟨i,j,rfl,rfl,k _ _ H q (aq.refl _) (.bl _)⟩
theorem JQ{prog:WH}{w:WJ}{A:WL}{E:Ws->Wv->Prop}{s:Wv}{t sl:Wu}{items:Array Ws}{vl vu:Ws}{lo hi:Option Int}{Q:Ws->Wv->Prop}(ht:IsTup s.heap t items)(hs:s.heap.IsSliceOf sl vl vu .none)(pl:IsPart vl lo)(pu:IsPart vu hi)
 (hw:HT.sIx items.size 0 lo=0/\HT.sIx items.size items.size hi=items.size)(h:Q (.ref t) s):Wx (Wy prog w) A (X0 (.ref t) (.ref sl)) Q E s:=by
 obtain⟨os,hos,hcs,hds⟩:=id hs;have hTs:s.TypeIs (.ref sl) "slice":=⟨os,hos,hcs⟩;unfold X0
 try with_reducible refine WX ?_
 first | refine Wt (Ww ?_) | skip
 refine Wt (wpAny_sequenceKey ht.typeIs tx ?_);refine Wt (WS (name:=Pp "__getitem__") ht.typeIs Sf
  (WV Sf ht.typeIs PyProof.Rows.entry_tuple_getitem ?_ (PyProof.Rows.args_tuple_getitem _ _)))
 show Wx _ _ (T9 (.ref t) >>=_) _ _ s;refine Wt (tupleItemsOf_ ht ?_);refine Wt (X4 hTs ?_);rw [Wn tx];refine Wt (HT.sliceApplied_gen hs pl pu ?_);show Wx _ _ (if (((HT.sIx items.size 0 lo:Nat):Int)==0 && (1:Int)==1 && (HT.sIx items.size items.size hi - HT.sIx items.size 0 lo)==items.size)=true then _ else _) _ _ s;rw [Wn (by rw [hw.1,hw.2];simp)];unfold Builtin.Tuple.tupleIsExact;refine Wt (Wt (X4 ht.typeIs (Ww ?_)));rw [Wn tx];exact Wt (XA (Ww ⟨_,rfl,Ww h⟩))
def JR(K:Pq):V->Option Int->Option Int->Hp->VK->Prop:=λx lo hi H Q=>∃a xs,x= .ref a/\aY K H a xs/\
 ((HT.sIx xs.length 0 lo=0/\HT.sIx xs.length xs.length hi=xs.length)->Q x H)/\(¬(HT.sIx xs.length 0 lo=0/\HT.sIx xs.length xs.length hi=xs.length)->∀p,H p=none->Q (.ref p) (ao H p (.tup (om xs lo hi))))
theorem JS:sP X (JR X.K):=by
 intro Yn s σ H x v vl vu lo hi sl Q I rx hs pl pu h;obtain⟨a,xs,rfl,hx,q1,q2⟩:=h;by_cases hw:HT.sIx xs.length 0 lo=0/\HT.sIx xs.length xs.length hi=xs.length
 ·cases rx;obtain⟨its,r,ht,hz⟩:=I.tuple hx;have hlen:its.toArray.size=xs.length:=by rw [Qk];exact r.length.symm
  refine⟨"tuple",_,Sf.lookup,ht.typeIs,?_⟩;exact JQ ht hs pl pu (by rw [hlen];exact hw) ⟨.ref a,H,I,rfl,q1 hw⟩
 ·exact HR Yn s σ H _ v vl vu lo hi sl Q I rx hs pl pu ⟨a,xs,rfl,hx,hw,q2 hw⟩
theorem JT{xs:List Wr}{l u:Option Int}(h:HT.sIx xs.length 0 l=0/\HT.sIx xs.length xs.length u=xs.length):bz xs l u=xs:=by
 unfold bz;rw [h.1,h.2];simp
def fv(t:DT)(tl th:DO):DT:=λδ Q=>t δ λd=>tl δ λl=>th δ λu=>∃xs,d= .tuple xs/\Q (.tuple (bz xs l u))
theorem tq{e:WC}{lo hi:Option WC}{t:DT}{tl th:DO}{pos p2:Pos}(h:DF X H0 O0 e t)(hl:PO X lo (oE X.K H0 O0 tl))(hu:PO X hi (oE X.K H0 O0 th)):DE X H0 O0 (.Subscript e (.Slice lo hi none p2) pos) (fv t tl th):=
 (xO JS h hl hu).imp λσ H Q ⟨O,δ,Qd,w,q,k⟩=>⟨O,δ,_,w,q,λd v H1 q1 s1 r1=>⟨O,δ,_,w.mono s1,q1,λl H2 q2 s2=>⟨O,δ,_,w.mono (s1.trans s2),q2,λu H3 uu77 s3=>by
  obtain⟨xs,e,q3⟩:=uu77;subst e;have r3:=r1.mono (s2.trans s3);have r4:=r3;obtain⟨a,vs,rfl,h1,d1⟩:=r4.tup;refine⟨a,vs,rfl,h1,λhw=>?_,λ_ p hp=>k _ _ _ q3 (s1.trans (s2.trans (s3.trans (aq.new hp)))) (.tup (.inl bu) (sU w (s1.trans (s2.trans s3)) hp) ((d1.cut l u).mono (aq.new hp)))⟩;rw [d1.length] at hw;rw [JT hw] at q3;cases r3 with
  | dt r3=>exact k _ _ _ q3 (s1.trans (s2.trans s3)) r3⟩⟩⟩
def lQ(a b:Str):Bool:=decide (a.cps.toList<=b.cps.toList)
def kX(l:List Str):List Str:=l.mergeSort lQ
theorem Dv(a b c:Str)(h:lQ a b=true)(h':lQ b c=true):lQ a c=true:=
 decide_eq_true (List.le_trans (of_decide_eq_true h) (of_decide_eq_true h'))
theorem JU(a b:Str):(lQ a b || lQ b a)=true:=by
 rcases List.le_total a.cps.toList b.cps.toList with h | h
 ·unfold lQ;rw [decide_eq_true h];rfl
 ·unfold lQ;rw [decide_eq_true h,Ur]
theorem JV{a b:Str}(h:a.cps.toList=b.cps.toList):a=b:=by
 cases a;cases b;congr 1;exact VL h
theorem Dw{a b:Str}(h:lQ a b=true)(h':lQ b a=true):a=b:=JV (List.le_antisymm (of_decide_eq_true h) (of_decide_eq_true h'))
theorem uT(l:List Str):(kX l).Perm l:=List.mergeSort_perm l lQ
theorem Dx(l:List Str):(kX l).Pairwise λa b=>lQ a b=true:=List.pairwise_mergeSort Dv JU l
theorem Af{l m:List Str}(h:m.Perm l)(p:m.Pairwise λa b=>lQ a b=true):m=kX l:=
 List.Perm.eq_of_pairwise (λa b _ _ x y=>Dw x y) p (Dx l) (h.trans (uT l).symm)
theorem Dy:∀(p:Str)(l:List Str),risingS p l=true->(p::l).Pairwise λa b=>lQ a b=true
 | p,[],_=>by simp
 | p,x::r,h=>by
  rw [risingS,P6,P5,ltCps_eq,decide_eq_false_iff_not] at h;have h1:lQ p x=true:=decide_eq_true (We.mp h.1);have h2:=Dy x r h.2;rw [SR];refine⟨λy hy=>?_,h2⟩;rcases Pz.mp hy with z | z
  ·rw [z];exact h1
  ·exact Dv p x y h1 ((SR.mp h2).1 y z)
theorem Dz:∀(l:List Str),sortedS l=true->l.Pairwise λa b=>lQ a b=true
 | [],_=>.nil
 | x::r,h=>Dy x r h
theorem Ag:∀{ys:List Str}{us:List Ws},aM (ys.map V.str) us->W0 us ys:=by
 intro ys
 induction ys with
 | nil=>intro us rv;cases rv;exact .nil
 | cons y ys ih=>
  intro us rv;rw [Pw] at rv;cases rv with
  | cons r1 r2=>obtain⟨t,rfl⟩:=r1;exact .cons y t (ih r2)
theorem Ah:∀{ys:List Str}{us:List Ws},W0 us ys->aM (ys.map V.str) us
 | _,_,.nil=>.nil
 | _,_,.cons y t r=>.cons ⟨t,rfl⟩ (Ah r)
theorem JW:kA X (.builtin "sorted") (λxs H Q=>∃p ss,xs=[.ref p]/\bf X.K H p (ss.map V.str)/\ss.length < 64/\∀l,H l=none->Q (.ref l) (ao H l (.lst ((kX ss).map V.str)))):=by
 intro Yn s σ H xs us Q I r h;obtain⟨p,ss,rfl,hq,h64,q⟩:=h;obtain⟨u,rfl,rx⟩:=lh r;cases rx;obtain⟨its,rv,pl,hz⟩:=I.list hq;have hlen:=rv.length;rw [PB] at hlen;refine sorted_strs pl.isList (Ag rv) Ce λout ss' a1 a2 a3=>?_;obtain⟨e,he⟩:=sortedAll_at s.heap its out;have es:ss'=kX ss:=Af a2 (Dz _ a3);subst es;have hl2:(kX ss).length=ss.length:=a2.length_eq;refine⟨.ref _,_,I.laid (t':=s.toks) (o:= .lst ((kX ss).map V.str)) (λb ob q=>sortedAll_old q) (SD _) ?_,rfl,q _ (I.hok.fresh (SD _))⟩;refine⟨by rw [PB,hl2];exact Qt (SX h64) tx,out.toList,e,Ah a1,?_⟩;rw [he]
theorem au.strs{K:Pq}{H:Hp}{O:Ex}:∀{ss:List Str}{vs:List V},au K H O vs (ss.map Pr)->vs=ss.map V.str
 | [],_,r=>by rw [Qc] at r;cases r;rfl
 | b::bs,_,r=>by
  rw [Pw] at r;cases r with
  | cons h r=>cases h;rw [Pw,au.strs r]
theorem au.ofStrs{K:Pq}{H:Hp}{O:Ex}:∀(ss:List Str),au K H O (ss.map V.str) (ss.map Pr)
 | []=>.nil
 | s::r=>.cons (.str s) (au.ofStrs r)
def fw(t:DA):DA:=λδ Q=>t δ λds=>∃ss:List Str,ds=[.list (ss.map .str)]/\ss.length < 64/\Q ((kX ss).map .str)
theorem JX{a:WC}{t:DA}{np p:Pos}(hg:Gl X "sorted")(hm:X.mg "sorted"=none)(hv:WO "sorted"=some (.builtin "sorted"))(ha:PA X [a] (mD X.K H0 O0 t))(he:WB [a] X.env=(false,eval a X.env)::WB [] X.env:=by rfl)(hpl:(WU p (WB [] X.env)).any (·.1)=false:=by rfl):FE X H0 O0 (.Call (.Name "sorted" np) [a] [] p) (fw t):=
 (aR JW hg hm hv ha (he:=he) (hpl:=hpl)).imp λσ H Q uu78=>by obtain⟨O,δ,Qd,w,q,k⟩:=uu78;exact⟨O,δ,_,w,q,λds vs H1 uu79 s1 r1=>by
  obtain⟨ss,e,h64,q1⟩:=uu79;subst e;cases r1 with
  | cons h r=>
   cases r;obtain⟨a,us,rfl,h1,d1⟩:=h.lst;cases d1.strs;exact⟨a,ss,rfl,h1,h64,λl hl=>k _ _ _ _ q1 s1 hl (au.ofStrs _)⟩⟩
end
end L2
namespace PySem.SeqAt
open AutoSeq1 (wpAny_loadPart')
open MeetsSeq
theorem DC(l:Wu)(es:Array Yd)(n:Nat)(dd:Option Wu)(sl:Array (Option Ws))(b:Str)(u:Tok):
 Meets (Builtin.«dict.__eq__» ⟨[.ref l,.str b u],[]⟩) (λ_ R s=>s.heap.get? l=some {cls:= .type "dict",dict:=dd,data:= .dict es n,slots:=sl}/\R (.ok (.ret .notImplemented)) s):=
 .of_wp λprog w A R s h=>by obtain⟨hp,g,d,tk,os⟩:=s;obtain⟨hl,h⟩:=h;have f1:=F.sub_str_dict;wp_walk using Xa hl;exact⟨_,rfl,h⟩
theorem DD(b:Str)(u:Tok)(l:Wu)(c:Ws)(es:Array Yd)(n:Nat)(dd:Option Wu)(sl:Array (Option Ws)):
 Meets (Builtin.«str.__eq__» ⟨[.str b u,.ref l],[]⟩) (λ_ R s=>s.heap.get? l=some {cls:=c,dict:=dd,data:= .dict es n,slots:=sl}/\R (.ok (.ret .notImplemented)) s):=
 .of_wp λprog w A R s h=>by obtain⟨hp,g,d,tk,os⟩:=s;obtain⟨hl,h⟩:=h;wp_walk using Xa hl,wpAny_load hl;exact⟨_,rfl,h⟩
section
variable {A:WL} {s:Wv}
theorem RcAt.dict_str{l:Wu}{es:Array Yd}{n:Nat}{o:Obj}(b:Str)(u:Tok)(ho:s.heap.get? l=some o)(hc:o.cls= .type "dict")(hd:o.data= .dict es n)(hu:A.units < cLine):RcAt A s (.ref l) (.str b u) false:=λprog w E Q h=>by
 obtain⟨cls,dd,data,sl⟩:=o;simp only at hc hd;subst hc hd;exact rc_eq_decline_or (k:=false) ⟨_,ho,rfl⟩ (Xm s b u) tx F.sub_str_dict F.slot_dict_eq F.slot_str_eq_refl
  (λ_ hq=>Xn F.slot_dict_eq ⟨_,ho,rfl⟩ F.entry_dict_eq (F.args_dict_eq_2 _ _) (DC l es n dd sl b u) ⟨ho,hq⟩)
  (λ_ hq=>Xn F.slot_str_eq_refl (Xm s b u) F.entry_str_eq (F.args_str_eq_2 _ _) (DD b u l (.type "dict") es n dd sl) ⟨ho,hq⟩)
  (λ_ hq=>XR (rfl:isSame (.ref l) (.str b u)=pure false) hq) (.inr hu) h
theorem RcAt.str_dict{l:Wu}{es:Array Yd}{n:Nat}{o:Obj}(b:Str)(u:Tok)(ho:s.heap.get? l=some o)(hc:o.cls= .type "dict")(hd:o.data= .dict es n)(hu:A.units < cLine):RcAt A s (.str b u) (.ref l) false:=λprog w E Q h=>by
 obtain⟨cls,dd,data,sl⟩:=o;simp only at hc hd;subst hc hd;exact rc_eq_decline_or (k:=false) (Xm s b u) ⟨_,ho,rfl⟩ tx F.sub_dict_str F.slot_str_eq F.slot_dict_eq_refl
  (λ_ hq=>Xn F.slot_str_eq (Xm s b u) F.entry_str_eq (F.args_str_eq_2 _ _) (DD b u l (.type "dict") es n dd sl) ⟨ho,hq⟩)
  (λ_ hq=>Xn F.slot_dict_eq_refl ⟨_,ho,rfl⟩ F.entry_dict_eq (F.args_dict_eq_2 _ _) (DC l es n dd sl b u) ⟨ho,hq⟩)
  (λ_ hq=>XR (rfl:isSame (.str b u) (.ref l)=pure false) hq) (.inr hu) h
theorem EqAt.str_dict{l:Wu}{es:Array Yd}{n:Nat}{o:Obj}(b:Str)(u:Tok)(ho:s.heap.get? l=some o)(hc:o.cls= .type "dict")(hd:o.data= .dict es n)(hu:A.units < cLine):EqAt A s (.str b u) (.ref l) false:=λprog w E Q h=>by
 unfold eqBool;refine WX ?_;refine X5 (λhab=>absurd (eq_of_beq hab) nofun) (λ_=>?_);exact Wt (RcAt.str_dict b u ho hc hd hu prog w E _ (WT h))
end
end PySem.SeqAt
namespace L2
open PySem PySem.Spec PyProof.Rows PySem.W
section
variable {X:Cx} {Yn:List (Wu×Obj)} {σ:St} {H:Hp} {s:Wv}
def kJ:Wr->Bool
 | .dict [(.none,_)]=>false
 | _=>true
theorem JY(I:ag X Yn σ H s){O:Ex}{v:V}{d:Wr}{u:Ws}(h:Dt X.K H O v d)(ht:kJ d=true)(r:aJ v u)(y:Str)(t:Tok)(hu:X.A.units < cLine):SeqAt.RcAt X.A s u (.str y t) (PJ d (.str y)):=by
 cases h with
 | non=>cases (show u=RW from r);simpa [PJ] using SeqAt.RcAt.none_str y t
 | bl b=>cases (show u=So b from r);simpa [PJ] using SeqAt.RcAt.bool_str b y t
 | int i=>obtain⟨k,e⟩:=(show ∃t,u=TL i t from r);cases e;simpa [PJ] using SeqAt.RcAt.int_str i k y t
 | str x=>obtain⟨k,e⟩:=(show ∃t,u=S5 x t from r);cases e;simpa [PJ] using SeqAt.RcAt.str_str x k y t
 | @tup a xs ds h n rr=>
  cases (show u=Qy a from r);obtain⟨its,rv,p,_⟩:=I.tuple (.inl h);simpa [PJ] using UW y t (show s.heap.IsTuple a its.toArray from p) hu
 | @tupK a xs ds h rr=>
  cases (show u=Qy a from r);obtain⟨its,rv,p,_⟩:=I.tuple h.of0;simpa [PJ] using UW y t (show s.heap.IsTuple a its.toArray from p) hu
 | @lst a xs ds h n rr=>
  cases (show u=Qy a from r);obtain⟨its,rv,p,_⟩:=I.list (.inl h);simpa [PJ] using SeqAt.RcAt.list_str y t p.isList hu
 | pack h n=>exact absurd ht (by simp [kJ])
 | purse h n=>exact absurd ht (by simp [kJ])
 | scr h r=>exact absurd ht (by simp [kJ])
 | obj h e n r=>exact absurd ht (by simp [kJ])
 | @dct0 a h n=>
  cases (show u=Qy a from r);obtain⟨_,_,_,_,o,es,ep,e,c,dd,_⟩:=(show bI X.prog X.w H s.heap a (.dK []) from I.hok a _ h);simpa [PJ] using SeqAt.RcAt.dict_str y t e c.1 dd hu
 | @dic a ob kv ks kp ds h e1 e2 n rr=>
  cases (show u=Qy a from r);obtain⟨_,_,_,_,o,es,ep,e,c,dd,_⟩:=(show bI X.prog X.w H s.heap a (.dK kv) from(I.hok a _ h).2);simpa [PJ] using SeqAt.RcAt.dict_str y t e c.1 dd hu
theorem JZ(I:ag X Yn σ H s){A:WL}{O:Ex}{v:V}{d:Wr}{u:Ws}(h:Dt X.K H O v d)(ht:kJ d=true)(r:aJ v u)(y:Str)(t:Tok)(hu:A.units < cLine):SeqAt.EqAt A s (.str y t) u (PJ (.str y) d):=by
 cases h with
 | non=>cases (show u=RW from r);simpa [PJ] using SeqAt.EqAt.str_none y t
 | bl b=>cases (show u=So b from r);simpa [PJ] using SeqAt.EqAt.str_bool y t b
 | int i=>obtain⟨k,e⟩:=(show ∃t,u=TL i t from r);cases e;simpa [PJ] using Vb y t i k
 | str x=>obtain⟨k,e⟩:=(show ∃t,u=S5 x t from r);cases e;simpa [PJ] using SeqAt.EqAt.str_str y t x k
 | @tup a xs ds h n rr=>
  cases (show u=Qy a from r);obtain⟨its,rv,p,_⟩:=I.tuple (.inl h);simpa [PJ] using UX y t (show s.heap.IsTuple a its.toArray from p) hu
 | @tupK a xs ds h rr=>
  cases (show u=Qy a from r);obtain⟨its,rv,p,_⟩:=I.tuple h.of0;simpa [PJ] using UX y t (show s.heap.IsTuple a its.toArray from p) hu
 | @lst a xs ds h n rr=>
  cases (show u=Qy a from r);obtain⟨its,rv,p,_⟩:=I.list (.inl h);simpa [PJ] using SeqAt.EqAt.str_list y t p.isList hu
 | pack h n=>exact absurd ht (by simp [kJ])
 | purse h n=>exact absurd ht (by simp [kJ])
 | scr h r=>exact absurd ht (by simp [kJ])
 | obj h e n r=>exact absurd ht (by simp [kJ])
 | @dct0 a h n=>
  cases (show u=Qy a from r);obtain⟨_,_,_,_,o,es,ep,e,c,dd,_⟩:=(show bI X.prog X.w H s.heap a (.dK []) from I.hok a _ h);simpa [PJ] using SeqAt.EqAt.str_dict y t e c.1 dd hu
 | @dic a ob kv ks kp ds h e1 e2 n rr=>
  cases (show u=Qy a from r);obtain⟨_,_,_,_,o,es,ep,e,c,dd,_⟩:=(show bI X.prog X.w H s.heap a (.dK kv) from(I.hok a _ h).2);simpa [PJ] using SeqAt.EqAt.str_dict y t e c.1 dd hu
end
section
variable {X:Cx} {H0:Hp} {O0:Ex}
def DH(K:Pq):R2:=λx y H Q=>∃O dx z,Dt K H O x dx/\kJ dx=true/\y= .str z/\Q (.bl (PJ dx (.str z))) H
theorem cI{k:Nat}(hr:bN k X.A):bC X (WM .Eq) (DH X.K):=by
 intro Yn s σ H x y v u Q I rx ry h;obtain⟨O,dx,z,hx,ht,rfl,q⟩:=h;obtain⟨t,rfl⟩:=ry;have hc:WM .Eq v (.str z t)=richCompare .Eq v (.str z t):=rfl;rw [hc];exact JY I hx ht rx z t hr.units0 X.prog X.w X.xe _ (bH I q rfl)
def cz:Wr->Wr->(Wr->Prop)->Prop:=λx y Q=>∃z,y= .str z/\kJ x=true/\Q (.bool (PJ x (.str z)))
theorem cJ{K:Pq}:cS K (DH K) cz:=λH O x y dx dy Qd R _ hx hy uu80 k=>by
 obtain⟨z,e,ht,q⟩:=uu80;subst e;cases hy.str;exact⟨_,dx,z,hx.all,ht,rfl,k _ _ H q (aq.refl _) (.bl _)⟩
theorem J0(dx:Wr){its:List Ws}{zs:List Str}(hS:W0 its zs):its.any (λy=>PJ (.str (strOf y)) dx)=zs.any λz=>PJ (.str z) dx:=by
 induction hS with
 | nil=>rfl
 | cons y t r ih=>rw [QC,QC,ih];rfl
def DI(K:Pq):R2:=λx y H Q=>∃(O:Ex)(dx:Wr)(zs:List Str)(a:Wu),Dt K H O x dx/\kJ dx=true/\y= .ref a/\aY K H a (zs.map V.str)/\Q (.bl (zs.any λz=>PJ (.str z) dx)) H
theorem oI{k:Nat}(hr:bN k X.A):bC X (WM .In) (DI X.K):=by
 intro Yn s σ H x y v u Q I rx ry h;obtain⟨O,dx,zs,a,hx,ht,rfl,ha,q⟩:=h;cases ry;obtain⟨its,rv,p,_⟩:=I.tuple ha;have hS:=Ag rv;have hl:=J0 dx hS;refine SeqAt.in_tupleAt (λy=>PJ (.str (strOf y)) dx) (show s.heap.IsTuple a its.toArray from p) (λy hy=>?_) (by rw [List.any_toArray,hl];exact bH I q rfl);obtain⟨z,t,rfl⟩:=hS.all y (by simpa using hy);exact JZ I hx ht rx z t (by show X.A.units+1 < cLine;have:=hr.un;omega)
def fx:Wr->Wr->(Wr->Prop)->Prop:=λx y Q=>∃zs:List Str,y= .tuple (zs.map .str)/\kJ x=true/\Q (.bool (zs.any λz=>PJ (.str z) x))
theorem oJ{K:Pq}:cS K (DI K) fx:=λH O x y dx dy Qd R _ hx hy uu81 k=>by
 obtain⟨zs,e,ht,q⟩:=uu81;subst e;obtain⟨a,vs,rfl,hs,r⟩:=hy.tup;cases r.strs;exact⟨_,dx,zs,a,hx.all,ht,rfl,hs,k _ _ H q (aq.refl _) (.bl _)⟩
end
theorem cq{z:Int}{Q:Wr->Prop}:y9 [mi,.int z] Q↔(0 < z/\z<=1000000/\∀i:Int,0<=i->i < z->Q (.int i)):=by
 constructor
 ·rintro⟨z',e,a,b,c⟩;simp only [PK,Qs,and_true,true_and] at e;subst e;exact⟨a,b,c⟩
 ·rintro⟨a,b,c⟩;exact⟨z,rfl,a,b,c⟩
def tu:Wr->Bool | .str _=>true | _=>false
def DJ:Wr->Bool | .int _=>true | .bool _=>true | _=>false
def tD:Wr->Bool | .bool _=>true | _=>false
def pE:Wr->Bool | .tuple _=>true | _=>false
theorem Ai{K:Pq}(d:Wr):kitOne K (.type (qV d)) (.type "str")=some (tu d):=by cases d <;> rfl
theorem J1{K:Pq}(d:Wr):kitOne K (.type (qV d)) (.type "int")=some (DJ d):=by cases d <;> rfl
theorem Aj{K:Pq}(d:Wr):kitOne K (.type (qV d)) (.type "bool")=some (tD d):=by cases d <;> rfl
theorem uU{K:Pq}(d:Wr):kitOne K (.type (qV d)) (.type "tuple")=some (pE d):=by cases d <;> rfl
mutual
def bB:Wr->Bool
 | .dict []=>true
 | .dict (_::_)=>false
 | .str z=>decide (z.length<=1000)
 | .tuple l=>ma l
 | .list l=>ma l
 | .none=>true
 | .bool _=>true
 | .int _=>true
def ma:List Wr->Bool
 | []=>true
 | d::r=>bB d && ma r
end
theorem qX{d:Wr}(h:bB d=true):∀x,d≠ .dict [(.none,x)]:=by
 rintro x rfl;simp [bB] at h
theorem qr{d:Wr}(h:bB d=true):kJ d=true:=by
 unfold kJ;split
 ·simp [bB] at h
 ·rfl
theorem DL:∀{l:List Wr}{d:Wr},ma l=true->d∈l->bB d=true
 | e::r,d,h,m=>by
  rw [ma,P6] at h;rcases Pz.mp m with z | z
  ·rw [z];exact h.1
  ·exact DL h.2 z
theorem tE{l:List Wr}(h:bB (.tuple l)=true):∀d∈l,bB d=true:=λd hd=>DL (by simpa [bB] using h) hd
theorem J3{z:Str}(h:bB (.str z)=true):z.length<=1000:=by simpa [bB] using h
def lL(zs:List Str)(d:Wr):Bool:=zs.any λz=>PJ (.str z) d
def qY:Wr->Bool | .int _=>true | _=>false
def mU:Wr->Bool | .int i=>decide (0<=i) && decide (i<=99999) | _=>false
def cC:Wr->Bool | .str z=>decide (1<=z.length) && decide (z.length<=8) && z.cps.toList.all (λc=>decide (c∈lr.cps.toList)) | _=>false
def mj:Wr->Bool
 | .tuple [a]=>PJ a (.str "coming")
 | .tuple [a,b]=>lL ["first","last"] a && cC b
 | _=>false
def tF:Wr->Bool | .int i=>decide (0<=i) && decide (i<=999) | _=>false
def qZ(m u:Wr):Bool:=tF m && lL ["days","months","years"] u
def md:Wr->Bool
 | .tuple [a,b]=>lL ["while","follow","leave"] a && cC b
 | .tuple [a,b,c,d,e]=>lL ["keep","gone"] a && cC b && (mj c && qZ d e)
 | _=>false
def uV:Wr->Wr->Bool | .str a,.str b=>decide (a.cps.toList < b.cps.toList) | _,_=>false
def nA:List Wr->Bool
 | a::b::r=>uV a b && nA (b::r)
 | _=>true
def pF:Wr->Bool | .tuple l=>decide (l.length<=4) && (l.all cC && nA l) | _=>false
def mV:Wr->Bool | .tuple [a,b]=>lL ["paper","kind"] a && cC b | _=>false
def oK(w:Wr)(ps:List Wr):Bool:=
 if lL ["end","lift"] w then ps.length==0
 else if lL ["happens","leave"] w then(match ps with | [a]=>cC a | _=>false)
 else if PJ w (.str "rule") then(match ps with | [a]=>md a | _=>false)
 else if PJ w (.str "paper") then(match ps with | [a,b]=>cC a && pF b | _=>false)
 else if PJ w (.str "hold") then(match ps with | [a,b]=>mV a && tD b | _=>false)
 else false
def lM:Wr->Bool
 | .tuple (w::n::x::r)=>mU n && cC x && oK w r
 | _=>false
structure Nm (z:Str):Prop where
 lo:1<=z.length
 hi:z.length<=8
 ab:∀c∈z.cps.toList,c∈lr.cps.toList
theorem Nm.is{z:Str}(h:Nm z):cC (.str z)=true:=by
 simp only [cC,decide_eq_true h.lo,decide_eq_true h.hi,Qg,Rh,decide_eq_true_eq];exact h.ab
theorem mW{d:Wr}(h:cC d=true):∃z,d= .str z/\Nm z:=by
 cases d with
 | str z=>
  simp only [cC,P6,decide_eq_true_eq,Rh] at h;exact⟨z,rfl,h.1.1,h.1.2,h.2⟩
 | _=>simp [cC] at h
theorem Nm.ok{z:Str}(h:Nm z):QM z=true:=nP.mpr λc hc=>tj c (h.ab c hc)
theorem mI{g:DG}{te:DT}{δ0:Dl}{xs:List Wr}{Q:List Wr->Prop}(f:Wr->Wr)
 (h:∀x∈xs,∀R:Wr->Prop,R (f x)->g x δ0 λδ2=>te δ2 R)(q:Q (xs.map f)):mQ g cj te δ0 xs Q:=by
 refine⟨λi acc=>acc=(xs.take i).map f,rfl,?_,?_⟩
 ·rintro i x acc hx rfl;have:=h x (Rp hx) (λy=>(xs.take i).map f++[y]=(xs.take (i+1)).map f) (by rw [VS,hx];simp);simpa [cj] using this
 ·rintro acc rfl;rw [RH (PL _)];exact q
theorem J4{g:DG}{te:DT}{δ0:Dl}{xs:List Wr}{Q:List Wr->Prop}(P:Wr->Prop)
 (h:∀x∈xs,∀R:Wr->Prop,(∀y,P y->R y)->g x δ0 λδ2=>te δ2 R)(q:∀ys,ys.length=xs.length->(∀y∈ys,P y)->Q ys):mQ g cj te δ0 xs Q:=by
 refine⟨λi acc=>acc.length=i/\∀y∈acc,P y,⟨rfl,Wq⟩,?_,?_⟩
 ·rintro i x acc hx ⟨hl,ha⟩;have:=h x (Rp hx) (λy=>(acc++[y]).length=i+1/\∀z∈acc++[y],P z) (λy hy=>⟨by simp [hl],λz hz=>by
   rcases Rq.mp hz with m | m
   ·exact ha z m
   ·rw [Q9] at m;rw [m];exact hy⟩)
  simpa [cj] using this
 ·rintro acc ⟨hl,ha⟩;exact q acc hl ha
theorem qt{g:DG}{te:DT}{δ0:Dl}{xs:List Wr}{p:Bool->Prop}{gg:List Bool->Bool}(f:Wr->Bool)
 (h:∀x∈xs,∀R:Wr->Prop,R (.bool (f x))->g x δ0 λδ2=>te δ2 R)(q:p (gg (xs.map f))):mQ g cj te δ0 xs λds=>∃bs:List Bool,ds=bs.map TF/\p (gg bs):=
 mI (λx=>.bool (f x)) h ⟨xs.map f,by rw [Rb];rfl,q⟩
theorem gr{a:Str}{P:List Str->Prop}:(∃zs,[Pr a]=QZ Pr zs/\P zs)↔P [a]:=by
 refine⟨λ⟨zs,e,h⟩=>?_,λh=>⟨_,rfl,h⟩⟩
 match zs,e with
 | [x],e=>simp at e;rw [e];exact h
theorem gs{a b:Str}{P:List Str->Prop}:(∃zs,[Pr a,Pr b]=QZ Pr zs/\P zs)↔P [a,b]:=by
 refine⟨λ⟨zs,e,h⟩=>?_,λh=>⟨_,rfl,h⟩⟩
 match zs,e with
 | [x,y],e=>simp at e;rw [e.1,e.2];exact h
theorem gu{a b c:Str}{P:List Str->Prop}:(∃zs,[Pr a,Pr b,Pr c]=QZ Pr zs/\P zs)↔P [a,b,c]:=by
 refine⟨λ⟨zs,e,h⟩=>?_,λh=>⟨_,rfl,h⟩⟩
 match zs,e with
 | [x,y,z],e=>simp at e;rw [e.1,e.2.1,e.2.2];exact h
theorem tG(d:Wr):(∃l,d= .tuple l)\/(∀l,d≠ .tuple l):=by
 cases d <;> simp
theorem DM{d:Wr}(h:∀l,d≠ .tuple l):pE d=false:=by
 cases d with
 | tuple l=>exact absurd rfl (h l)
 | _=>rfl
def lG(d:Wr)(n:Int):Bool:=match d with | .tuple l=>decide ((l.length:Int)=n) | _=>false
theorem Ak{d:Wr}(h:∀l,d≠ .tuple l)(n:Int):lG d n=false:=by
 cases d with
 | tuple l=>exact absurd rfl (h l)
 | _=>rfl
theorem bU{x:Str}:kJ (.str x)=true:=rfl
theorem gx{x:Int}:kJ (.int x)=true:=rfl
theorem gy{x:Bool}:kJ (.bool x)=true:=rfl
theorem gz{x:List Wr}:kJ (.tuple x)=true:=rfl
theorem gA{x:List Wr}:kJ (.list x)=true:=rfl
theorem J5(l u:Option Int)(n:Nat):T1 l u 1 n=(Rx (HT.sIx n n u - HT.sIx n 0 l)).map (HT.sIx n 0 l+·):=by
 unfold T1 sliceRange;have c:∀(o:Option Int)(d:Nat),(match o with | none=>(d:Int) | some i=>max 0 (min (if i < 0 then i+(n:Int) else i) (n:Int)))=((HT.sIx n d o:Nat):Int):=by
  intro o d;cases o with
  | none=>rfl
  | some v=>
   show max 0 (min (if v < 0 then v+(n:Int) else v) (n:Int))=(((if v < 0 then(v+(n:Int)).toNat else min v.toNat n):Nat):Int);by_cases hv:v < 0
   ·rw [Wn hv,Wn hv];omega
   ·rw [Wm hv,Wm hv];omega
 have c0:=c l 0;have c1:=c u n;simp only [show(1:Int) > 0 by decide,if_true] at c0 c1⊢;simp only [Int.natCast_zero] at c0;have key:∀a b:Int,a=((HT.sIx n 0 l:Nat):Int)->b=((HT.sIx n n u:Nat):Int)->((Rx (if a < b then(b - a+1 - 1)/ 1 else 0).toNat).map λ(k:Nat)=>(a+1*(k:Int)).toNat)=(Rx (HT.sIx n n u - HT.sIx n 0 l)).map (HT.sIx n 0 l+·):=by
  intro a b ea eb;have e:(if a < b then(b - a+1 - 1)/ 1 else 0).toNat=HT.sIx n n u - HT.sIx n 0 l:=by
   rw [V4];split <;> omega
  rw [e];refine TU λk _=>?_;show(a+1*(k:Int)).toNat=_;omega
 exact key _ _ c0 c1
def rg(xs:List Nat)(l u:Option Int):List Nat:=(xs.drop (HT.sIx xs.length 0 l)).take (HT.sIx xs.length xs.length u - HT.sIx xs.length 0 l)
theorem DN(x:Str)(l u:Option Int):(Txt.slice x l u).cps.toList=rg x.cps.toList l u:=by
 have hl:x.cps.toList.length=x.length:=by rw [PY];rfl
 unfold Txt.slice;rw [J5,PB,SW];unfold rg;rw [hl];split
 ·rename_i h;have h2:HT.sIx x.length x.length u - HT.sIx x.length 0 l=x.length:=by simpa using h
  have h3:HT.sIx x.length x.length u<=x.length:=HT.sIx_le _ _ (PL _) u;by_cases hz:x.length=0
  ·have:x.cps.toList=[]:=Uv.mp Ce;rw [this];simp
  ·have h4:HT.sIx x.length 0 l=0:=Ce
   rw [h2,h4,UM,RH Ce]
 ·rw [pick_run]
theorem J6{xs:List Nat}{i:Int}(h0:0<=i)(h1:i<=xs.length):rg xs none (some i)=xs.take i.toNat:=by
 unfold rg;rw [p7,oF h0 h1];simp
theorem J7{xs:List Nat}{i:Int}(h0:0<=i)(h1:i<=xs.length):rg xs (some i) none=xs.drop i.toNat:=by
 unfold rg;rw [p7,oF h0 h1,RH (by rw [RU];exact PL _)]
theorem nB(x:Str):x.length=x.cps.toList.length:=by rw [PY];rfl
theorem DP{z:Str}{d:Wr}:PJ (.str z) d=true↔d= .str z:=by
 cases d <;> simp [PJ];exact⟨λh=>h.symm,λh=>h.symm⟩
theorem tH{z:Str}{d:Wr}:PJ d (.str z)=true↔d= .str z:=by rw [Ds];exact DP
theorem ml{zs:List Str}{d:Wr}:lL zs d=true↔∃z∈zs,d= .str z:=by
 unfold lL;simp only [S9,DP]
def pG(a b:Str):Prop:=a.cps.toList < b.cps.toList
theorem Ka{a b c:Str}(h:pG a b)(h':pG b c):pG a c:=List.lt_trans h h'
inductive lR:Wr->Prop
 | coming:lR (.tuple [.str "coming"])
 | first {h:Str}:Nm h->lR (.tuple [.str "first",.str h])
 | last {h:Str}:Nm h->lR (.tuple [.str "last",.str h])
def units:List Str:=["days","months","years"]
inductive me:Wr->Prop
 | kg {w k u:Str} {s:Wr} {m:Int}:w∈(["keep","gone"]:List Str)->Nm k->lR s->0<=m->m<=999->u∈units->me (.tuple [.str w,.str k,s,.int m,.str u])
 | wfl {w k:Str}:w∈(["while","follow","leave"]:List Str)->Nm k->me (.tuple [.str w,.str k])
def lu(n:Int):Prop:=0<=n/\n<=99999
structure Al (ms:List Str):Prop where
 len:ms.length<=4
 nm:∀m∈ms,Nm m
 up:ms.Pairwise pG
inductive bo:Wr->Prop
 | paper {n:Int} {x k:Str} {ms:List Str}:lu n->Nm x->Nm k->Al ms->bo (.tuple [.str "paper",.int n,.str x,.str k,.tuple (ms.map .str)])
 | two {w x y:Str} {n:Int}:w∈(["happens","leave"]:List Str)->lu n->Nm x->Nm y->bo (.tuple [.str w,.int n,.str x,.str y])
 | rule {n:Int} {x:Str} {p:Wr}:lu n->Nm x->me p->bo (.tuple [.str "rule",.int n,.str x,p])
 | one {w x:Str} {n:Int}:w∈(["end","lift"]:List Str)->lu n->Nm x->bo (.tuple [.str w,.int n,.str x])
 | hold {n:Int} {x g y:Str} {b:Bool}:lu n->Nm x->g∈(["paper","kind"]:List Str)->Nm y->bo (.tuple [.str "hold",.int n,.str x,.tuple [.str g,.str y],.bool b])
theorem DQ{d:Wr}:mj d=true↔lR d:=by
 constructor
 ·intro h;unfold mj at h;split at h
  ·rw [tH] at h;subst h;exact .coming
  ·rw [P6,ml] at h;obtain⟨⟨z,hz,rfl⟩,hb⟩:=h;obtain⟨y,rfl,hy⟩:=mW hb;simp only [Pz,PV,or_false] at hz;rcases hz with rfl | rfl
   ·exact .first hy
   ·exact .last hy
  ·cases h
 ·intro h;cases h with
  | coming=>unfold mj;rw [tH]
  | first hy=>simp only [mj,hy.is,P4];exact ml.mpr ⟨_,Wq,rfl⟩
  | last hy=>simp only [mj,hy.is,P4];exact ml.mpr ⟨_,Wq,rfl⟩
theorem DR{m u:Wr}:qZ m u=true↔∃i z,m= .int i/\u= .str z/\0<=i/\i<=999/\z∈units:=by
 unfold qZ;rw [P6,ml];constructor
 ·rintro⟨h,z,hz,rfl⟩;cases m <;> simp [tF] at h;exact⟨_,z,rfl,rfl,h.1,h.2,hz⟩
 ·rintro⟨i,z,rfl,rfl,h0,h1,hz⟩;exact⟨by simp [tF,h0,h1],z,hz,rfl⟩
theorem DU{d:Wr}:md d=true↔me d:=by
 constructor
 ·intro h;unfold md at h;split at h
  ·rw [P6,ml] at h;obtain⟨⟨z,hz,rfl⟩,hb⟩:=h;obtain⟨y,rfl,hy⟩:=mW hb;exact .wfl hz hy
  ·rw [P6,P6,P6,ml,DQ,DR] at h;obtain⟨⟨⟨z,hz,rfl⟩,hb⟩,hs,i,u,rfl,rfl,h0,h1,hu⟩:=h;obtain⟨y,rfl,hy⟩:=mW hb;exact .kg hz hy hs h0 h1 hu
  ·cases h
 ·intro h;cases h with
  | kg hw hk hs h0 h1 hu=>
   simp only [md,hk.is,DQ.mpr hs,DR.mpr ⟨_,_,rfl,rfl,h0,h1,hu⟩,P4];exact ml.mpr ⟨_,hw,rfl⟩
  | wfl hw hk=>simp only [md,hk.is,P4];exact ml.mpr ⟨_,hw,rfl⟩
theorem Am:∀{ms:List Str},nA (ms.map .str)=true↔ms.Pairwise pG
 | []=>by simp [nA]
 | [a]=>by simp [nA]
 | a::b::r=>by
  have ih:=Am (ms:=b::r);rw [Pw,Pw,nA,P6,<-Pw,ih];simp only [uV,decide_eq_true_eq];constructor
  ·rintro⟨h1,h2⟩;rw [SR];refine⟨λy hy=>?_,h2⟩;rcases Pz.mp hy with z | z
   ·rw [z];exact h1
   ·exact Ka h1 ((SR.mp h2).1 y z)
  ·intro h;rw [SR] at h;exact⟨h.1 b Wq,h.2⟩
theorem DV:∀{l:List Wr},l.all cC=true->∃ms:List Str,l=ms.map .str/\∀m∈ms,Nm m
 | [],_=>⟨[],rfl,Wq⟩
 | d::r,h=>by
  rw [QH,P6] at h;obtain⟨z,rfl,hz⟩:=mW h.1;obtain⟨ms,rfl,hm⟩:=DV h.2;exact⟨z::ms,rfl,λm hm'=>by
   rcases Pz.mp hm' with e | e
   ·rw [e];exact hz
   ·exact hm m e⟩
theorem DX{d:Wr}:pF d=true↔∃ms:List Str,d= .tuple (ms.map .str)/\Al ms:=by
 constructor
 ·intro h;unfold pF at h;split at h
  ·rw [P6,P6,decide_eq_true_eq] at h;obtain⟨h4,ha,hr⟩:=h;obtain⟨ms,rfl,hm⟩:=DV ha;exact⟨ms,rfl,by simpa using h4,hm,Am.mp hr⟩
  ·cases h
 ·rintro⟨ms,rfl,h⟩;simp only [pF,PB,decide_eq_true h.len,Am.mpr h.up,P4,Qg,SI,Rh];exact λm hm=>(h.nm m hm).is
theorem DY{d:Wr}:mV d=true↔∃g y,d= .tuple [.str g,.str y]/\g∈(["paper","kind"]:List Str)/\Nm y:=by
 constructor
 ·intro h;unfold mV at h;split at h
  ·rw [P6,ml] at h;obtain⟨⟨z,hz,rfl⟩,hb⟩:=h;obtain⟨y,rfl,hy⟩:=mW hb;exact⟨z,y,rfl,hz,hy⟩
  ·cases h
 ·rintro⟨g,y,rfl,hg,hy⟩;simp only [mV,hy.is,P4];exact ml.mpr ⟨_,hg,rfl⟩
theorem DZ{d:Wr}:mU d=true↔∃n,d= .int n/\lu n:=by
 constructor
 ·intro h;cases d <;> simp [mU] at h;exact⟨_,rfl,h.1,h.2⟩
 ·rintro⟨n,rfl,h0,h1⟩;simp [mU,h0,h1]
theorem Kb{d:Wr}(h:lM d=true):bo d:=by
 unfold lM at h;split at h
 ·rename_i w n x r;rw [P6,P6,DZ] at h;obtain⟨⟨⟨n,rfl,hn⟩,hx⟩,hp⟩:=h;obtain⟨x,rfl,hx2⟩:=mW hx
  replace hx:=hx2
  unfold oK at hp;split at hp
  ·rename_i hw;obtain⟨z,hz,rfl⟩:=ml.mp hw;have:r=[]:=Uv.mp (by simpa using hp);subst this;exact .one hz hn hx
  split at hp
  ·rename_i hw;obtain⟨z,hz,rfl⟩:=ml.mp hw;split at hp
   ·obtain⟨y,rfl,hy⟩:=mW hp;exact .two hz hn hx hy
   ·cases hp
  split at hp
  ·rename_i hw;rw [tH] at hw;subst hw;split at hp
   ·exact .rule hn hx (DU.mp hp)
   ·cases hp
  split at hp
  ·rename_i hw;rw [tH] at hw;subst hw;split at hp
   ·rw [P6,DX] at hp;obtain⟨hk,ms,rfl,hm⟩:=hp;obtain⟨k,rfl,hk2⟩:=mW hk
    replace hk:=hk2
    exact .paper hn hx hk hm
   ·cases hp
  split at hp
  ·rename_i hw;rw [tH] at hw;subst hw;split at hp
   ·rw [P6,DY] at hp;obtain⟨⟨g,y,rfl,hg,hy⟩,hb⟩:=hp;rename_i b;cases b <;> simp [tD] at hb;exact .hold hn hx hg hy
   ·cases hp
  ·cases hp
 ·cases h
theorem bo.is{d:Wr}(h:bo d):lM d=true:=by
 have dy:∀{n:Int},lu n->mU (.int n)=true:=λh=>DZ.mpr ⟨_,rfl,h⟩;have no:∀{zs:List Str}{w:Str},w ∉ zs->lL zs (.str w)=false:=λ{zs w} h=>by
  rw [Vp];intro q;obtain⟨z,hz,e⟩:=ml.mp q;injection e with e;rw [e] at h;exact h hz
 have ye:∀{zs:List Str}{w:Str},w∈zs->lL zs (.str w)=true:=λh=>ml.mpr ⟨_,h,rfl⟩;have nq:∀{z w:Str},w≠z->PJ (.str w) (.str z)=false:=λ{z w} h=>by rw [bj];simpa using h
 have yq:∀{z:Str},PJ (.str z) (.str z)=true:=by intro z;rw [bj];simp
 cases h with
 | paper hn hx hk hm=>
  simp only [lM,dy hn,hx.is,P4,Qg,oK];rw [Wm (by rw [no td];decide),Wm (by rw [no td];decide),Wm (by rw [nq td];decide),Wn yq];simp only [hk.is,DX.mpr ⟨_,rfl,hm⟩,P4]
 | two hw hn hx hy=>
  simp only [lM,dy hn,hx.is,P4,Qg,oK];rename_i w x y n;have h1:w ∉ (["end","lift"]:List Str):=by
   simp only [Pz,PV,or_false] at hw;rcases hw with rfl | rfl <;> decide+kernel
  rw [Wm (by rw [no h1];decide),Wn (ye hw)];exact hy.is
 | rule hn hx hp=>
  simp only [lM,dy hn,hx.is,P4,Qg,oK];rw [Wm (by rw [no td];decide),Wm (by rw [no td];decide),Wn yq];exact DU.mpr hp
 | one hw hn hx=>
  simp only [lM,dy hn,hx.is,P4,Qg,oK];rw [Wn (ye hw)];rfl
 | hold hn hx hg hy=>
  simp only [lM,dy hn,hx.is,P4,Qg,oK];rw [Wm (by rw [no td];decide),Wm (by rw [no td];decide),Wm (by rw [nq td];decide),Wm (by rw [nq td];decide),Wn yq];simp only [DY.mpr ⟨_,_,rfl,hg,hy⟩,tD,P4]
theorem D1{d:Wr}:lM d=true↔bo d:=⟨Kb,bo.is⟩
theorem nF{n:Nat}:∀d∈([]:List Wr),kL n d:=λd hd=>by simp at hd
theorem cD{n:Nat}{d:Wr}{r:List Wr}(h:kL n d)(hr:∀e∈r,kL n e):∀e∈d::r,kL n e:=λe he=>by
 rcases Pz.mp he with z | z
 ·rw [z];exact h
 ·exact hr e z
theorem kH{n:Nat}{x:Str}(h:QM x=true)(hn:1<=n:=by decide):kL n (.str x):=(Dn h).mono hn
theorem rh{n:Nat}{x:Int}(hn:1<=n:=by decide):kL n (.int x):=JE.mono hn
theorem Kc{n:Nat}{x:Bool}(hn:1<=n:=by decide):kL n (.bool x):=JF.mono hn
theorem Kd{n:Nat}{ms:List Str}(h:∀m∈ms,QM m=true)(hn:1<=n:=by decide):∀d∈ms.map Pr,kL n d:=λd hd=>by
 obtain⟨m,hm,rfl⟩:=QG.mp hd;exact(Dn (h m hm)).mono hn
theorem lR.lay{d:Wr}(h:lR d):kL 2 d:=by
 cases h with
 | coming=>exact mS (cD (kH td) nF)
 | first h=>exact mS (cD (kH td) (cD (kH h.ok) nF))
 | last h=>exact mS (cD (kH td) (cD (kH h.ok) nF))
theorem rj{zs:List Str}{w:Str}(h:w∈zs)(hz:∀z∈zs,QM z=true/\z.length<=1000):QM w=true/\w.length<=1000:=hz w h
theorem me.lay{d:Wr}(h:me d):kL 3 d:=by
 cases h with
 | kg hw hk hs _ _ hu=>exact mS (cD (kH (rj hw td).1) (cD (kH hk.ok) (cD hs.lay (cD rh (cD (kH (rj hu td).1) nF)))))
 | wfl hw hk=>exact(mS (n:=1) (cD (kH (rj hw td).1) (cD (kH hk.ok) nF))).mono tx
theorem bo.lay{d:Wr}(h:bo d):kL 4 d:=by
 cases h with
 | paper hn hx hk hm=>exact mS (cD (kH td) (cD rh (cD (kH hx.ok) (cD (kH hk.ok) (cD ((mS (n:=1) (Kd λm h=>(hm.nm m h).ok)).mono tx) nF)))))
 | two hw hn hx hy=>exact mS (cD (kH (rj hw td).1) (cD rh (cD (kH hx.ok) (cD (kH hy.ok) nF))))
 | rule hn hx hp=>exact mS (cD (kH td) (cD rh (cD (kH hx.ok) (cD hp.lay nF))))
 | one hw hn hx=>exact mS (cD (kH (rj hw td).1) (cD rh (cD (kH hx.ok) nF)))
 | hold hn hx hg hy=>exact mS (cD (kH td) (cD rh (cD (kH hx.ok) (cD ((mS (n:=1) (cD (kH (rj hg td).1) (cD (kH hy.ok) nF))).mono tx) (cD Kc nF)))))
theorem bo.shp{d:Wr}(h:bo d):aV d:=h.lay.shp tx
theorem gB{a:Wr}{l:List Wr}:bz (a::l) (some 1) none=l:=by
 rw [qo tx (by simp only [Pu];omega)];rfl
theorem gC{a b:Wr}{l:List Wr}:bz (a::b::l) (some 2) none=l:=by
 rw [qo tx (by simp only [Pu];omega)];rfl
theorem gD{a b c:Wr}{l:List Wr}:bz (a::b::c::l) (some 3) none=l:=by
 rw [qo tx (by simp only [Pu];omega)];rfl
theorem gE{a b c d:Wr}{l:List Wr}:bz (a::b::c::d::l) (some 4) none=l:=by
 rw [qo tx (by simp only [Pu];omega)];rfl
theorem gF{a:Wr}{l:List Wr}:bz (a::l) none (some 1)=[a]:=by
 rw [qm tx (by simp only [Pu];omega)];rfl
theorem gG{a b:Wr}{l:List Wr}:bz (a::b::l) none (some 2)=[a,b]:=by
 rw [qm tx (by simp only [Pu];omega)];rfl
theorem gH{a b c:Wr}{l:List Wr}:bz (a::b::c::l) none (some 3)=[a,b,c]:=by
 rw [qm tx (by simp only [Pu];omega)];rfl
theorem gI{a b c d:Wr}{l:List Wr}:bz (a::b::c::d::l) none (some 4)=[a,b,c,d]:=by
 rw [qm tx (by simp only [Pu];omega)];rfl
theorem gJ{a b c:Wr}{l:List Wr}:bz (a::b::c::l) (some 1) (some 3)=[b,c]:=by
 unfold bz;rw [oF tx (by simp only [Pu];omega),oF tx (by simp only [Pu];omega)];rfl
end L2
namespace PySem
open Builtin
open AutoSeq1 (wpAny_loadPart')
end PySem
namespace L2
open PySem PySem.Spec PyProof.Rows PySem.W
section
variable {X:Cx} {H0:Hp} {O0:Ex}
def gK:Wr->Wr->(Wr->Prop)->Prop:=λx y Q=>∃xs,x= .tuple xs/\y= .int 2/\xs≠[]/\xs.length<=1000/\Q (.tuple (xs++xs))
def fy:DT:=λ_ Q=>Q (.dict [])
theorem Ke{pos:Pos}:DE X H0 O0 (.Dict [] [] pos) fy:=Jy.imp λσ H Q uu85=>by obtain⟨O,δ,Qd,w,q,k⟩:=uu85;exact λp hp=>k _ _ _ q (aq.new hp) (.dct0 bu (sU w (aq.refl _) hp))
def fz(t:DT):DT:=λδ Q=>t δ λd=>∃i,d= .int i/\Q (.int (-i))
theorem Kf{e:WC}{t:DT}{pos:Pos}(h:DE X H0 O0 e t):DE X H0 O0 (.UnaryOp .USub e pos) (fz t):=
 (Hh Hk h).imp λσ H Q uu86=>by obtain⟨O,δ,Qd,w,q,k⟩:=uu86;exact⟨O,δ,_,w,q,λd v H1 uu87 s1 r1=>by obtain⟨i,e,q1⟩:=uu87;subst e;cases r1;exact⟨i,rfl,k _ _ H1 q1 s1 (.int _)⟩⟩
def gL(t:DT):DT:=λδ Q=>t δ λd=>∃z:Str,d= .str z/\z.length<=1000000/\Q (.str (Txt.upper z))
def gM(t:DT):DT:=λδ Q=>t δ λd=>∃xs,d= .tuple xs/\Q (.tuple xs.reverse)
end
theorem gN{xs:List Wr}:bz xs none (some (-1))=xs.dropLast:=by
 unfold bz;rw [p7];have e:HT.sIx xs.length xs.length (some (-1))=xs.length - 1:=by
  simp only [HT.sIx];rw [Wn tx];omega
 rw [e,UM,V6,List.dropLast_eq_take]
theorem Kg(ys:List Str):(Txt.join "" ys).cps.toList=(ys.map (·.cps.toList)).flatten:=by
 have key:∀ys:List Str,(SJ "" ys).cps.toList=(ys.map (·.cps.toList)).flatten:=by
  intro ys
  induction ys with
  | nil=>rfl
  | cons y r ih=>
   cases r with
   | nil=>simp [SJ]
   | cons z r=>
    show(y++("":Str)++SJ "" (z::r)).cps.toList=_;rw [tf,tf,Sj,Sj,ih,Pw,R1];have:("":Str).cps.toList=[]:=td
    rw [this,PX];simp
 rw [show Txt.join "" ys=SJ "" ys from RS "" ys];exact key ys
section
variable {x:Option WC} {n:Nat} {env:Env}
theorem Kh{a b}:W2 (.List a b) x n env=pure false:=rfl
theorem An{a b c}:W2 (.Tuple a b c) x n env=pure false:=rfl
theorem qu{a b c d}:W2 (.BinOp a b c d) x n env=pure false:=rfl
theorem oM{a b c d}:W2 (.Call a b c d) x n env=pure false:=rfl
theorem Ki{a b c}:W2 (.Subscript a b c) x n env=pure false:=rfl
end
section
variable {X:Cx} {H0:Hp} {O0:Ex}
def gO(F:List Wr->(List Wr->Prop)->Prop)(t:DA):DA:=λδ Q=>t δ λds=>F ds Q
end
section
variable {X:Cx} {H0:Hp} {O0:Ex}
def gP(t:DA):DA:=λδ Q=>t δ λds=>ds.length<=1000/\Q (ds++ds)
end
theorem Kj{g:DG}{tc:DB}{te:DT}{δ0:Dl}{xs:List Wr}{Q:List Wr->Prop}
 (h:∀x∈xs,∀(R:Wr->Prop) (S:Prop),R x->S->g x δ0 λδ2=>tc δ2 λok=>if ok=true then te δ2 R else S)(q:∀ys,ys.Sublist xs->Q ys):mQ g tc te δ0 xs Q:=by
 refine⟨λi acc=>acc.Sublist (xs.take i),Wq,?_,?_⟩
 ·rintro i x acc hx ha;have et:xs.take (i+1)=xs.take i++[x]:=by rw [VS,hx];rfl
  refine h x (Rp hx) (λy=>(acc++[y]).Sublist (xs.take (i+1))) (acc.Sublist (xs.take (i+1))) ?_ ?_
  ·show(acc++[x]).Sublist (xs.take (i+1));rw [et];exact ha.append (List.Sublist.refl _)
  ·rw [et];exact ha.trans (List.sublist_append_left _ _)
 ·rintro acc ha;rw [RH (PL _)] at ha;exact q acc ha
theorem gQ:(Pp "paper"==Pp "happens")=false:=td
theorem gR:(Pp "paper"==Pp "rule")=false:=td
theorem gS:(Pp "paper"==Pp "end")=false:=td
theorem gT:(Pp "paper"==Pp "hold")=false:=td
theorem gU:(Pp "paper"==Pp "lift")=false:=td
theorem gW:(Pp "paper"==Pp "leave")=false:=td
theorem gX:(Pp "happens"==Pp "paper")=false:=td
theorem gY:(Pp "happens"==Pp "rule")=false:=td
theorem gZ:(Pp "happens"==Pp "end")=false:=td
theorem g6:(Pp "happens"==Pp "hold")=false:=td
theorem g9:(Pp "happens"==Pp "lift")=false:=td
theorem hG:(Pp "happens"==Pp "leave")=false:=td
theorem hJ:(Pp "rule"==Pp "paper")=false:=td
theorem hV:(Pp "rule"==Pp "happens")=false:=td
theorem hW:(Pp "rule"==Pp "end")=false:=td
theorem hX:(Pp "rule"==Pp "hold")=false:=td
theorem hZ:(Pp "rule"==Pp "lift")=false:=td
theorem h7:(Pp "rule"==Pp "leave")=false:=td
theorem ic:(Pp "end"==Pp "paper")=false:=td
theorem ie:(Pp "end"==Pp "happens")=false:=td
theorem ig:(Pp "end"==Pp "rule")=false:=td
theorem ij:(Pp "end"==Pp "hold")=false:=td
theorem ik:(Pp "end"==Pp "lift")=false:=td
theorem il:(Pp "end"==Pp "leave")=false:=td
theorem ip:(Pp "hold"==Pp "paper")=false:=td
theorem iq:(Pp "hold"==Pp "happens")=false:=td
theorem iu:(Pp "hold"==Pp "rule")=false:=td
theorem iw:(Pp "hold"==Pp "end")=false:=td
theorem ix:(Pp "hold"==Pp "lift")=false:=td
theorem iy:(Pp "hold"==Pp "leave")=false:=td
theorem iz:(Pp "lift"==Pp "paper")=false:=td
theorem iA:(Pp "lift"==Pp "happens")=false:=td
theorem iB:(Pp "lift"==Pp "rule")=false:=td
theorem iC:(Pp "lift"==Pp "end")=false:=td
theorem iD:(Pp "lift"==Pp "hold")=false:=td
theorem iE:(Pp "lift"==Pp "leave")=false:=td
theorem iF:(Pp "leave"==Pp "paper")=false:=td
theorem iG:(Pp "leave"==Pp "happens")=false:=td
theorem iH:(Pp "leave"==Pp "rule")=false:=td
theorem iI:(Pp "leave"==Pp "end")=false:=td
theorem iJ:(Pp "leave"==Pp "hold")=false:=td
theorem iK:(Pp "leave"==Pp "lift")=false:=td
section
variable {X:Cx} {H0:Hp} {O0:Ex}
def fA:List Wr->(Wr->Prop)->Prop:=λds Q=>∃i:Int,ds=[.int i]/\i.natAbs.log2 < 1920/\Q (.str (toString i))
theorem oN{K:Pq}:nk K (λxs H Q=>∃i,xs=[.int i]/\i.natAbs.log2 < 1920/\Q (.str (toString i)) H) fA:=λH O xs ds Qd R _ hs uu88 k=>by
 obtain⟨i,e,hz,q⟩:=uu88;subst e;cases hs with
 | cons h r=>cases r;cases h.int;exact⟨i,rfl,hz,k _ _ H q (aq.refl _) (.str _)⟩
theorem rk:kA X (.type "int") (λxs H Q=>∃(z:Str)(n:Int),xs=[.str z]/\Ts z=some n/\z.length<=640/\Q (.int n) H):=by
 intro Yn s σ H xs us Q I r h;obtain⟨z,n,rfl,hn,hl,q⟩:=h;obtain⟨u,rfl,t,rfl⟩:=lh r;exact KIN.call_text hn hl ⟨.int n,H,I.tok _,⟨_,rfl⟩,q⟩
def fB:List Wr->(Wr->Prop)->Prop:=λds Q=>∃(z:Str)(n:Int),ds=[.str z]/\Ts z=some n/\z.length<=640/\Q (.int n)
theorem rz{K:Pq}:nk K (λxs H Q=>∃(z:Str)(n:Int),xs=[.str z]/\Ts z=some n/\z.length<=640/\Q (.int n) H) fB:=λH O xs ds Qd R _ hs uu89 k=>by
 obtain⟨z,n,e,hn,hl,q⟩:=uu89;subst e;cases hs with
 | cons h r=>cases r;cases h.str;exact⟨z,n,rfl,hn,hl,k _ _ H q (aq.refl _) (.int _)⟩
theorem Kk:sQ X "str.zfill" (λx xs H Q=>∃(z:Str)(i:Int),x= .str z/\xs=[.int i]/\PadOk i=true/\Q (.str (Txt.zfill z i)) H):=by
 intro Yn s σ H x xs v us Q I rx rs h;obtain⟨z,i,rfl,rfl,hp,q⟩:=h;obtain⟨t,rfl⟩:=rx;obtain⟨u,rfl,t',rfl⟩:=lh rs;exact SC.zfill hp λt' k=>⟨.str _,H,I.tok _,⟨_,rfl⟩,q⟩
def fC(to t:DT):DT:=λδ Q=>to δ λx=>∃z:Str,x= .str z/\t δ λy=>∃i:Int,y= .int i/\PadOk i=true/\Q (.str (Txt.zfill z i))
theorem D3{o e:WC}{to t:DT}{apos cpos:Pos}(ho:DE X H0 O0 o to)(ha:DE X H0 O0 e t)(hbase:Xi o "zfill" X.env (eval o X.env)=eval o X.env:=by rfl)
 (hfew:((WU cpos (WB [e] X.env)).all (λx=>!x.1) && (X6 cpos (XF [] X.env)).all (λx=>x.1.isSome) && decide ([e].length+([]:List Xv).length+(if ([]:List Xv).isEmpty then 0 else 1) < 30))=true:=by rfl)
 (hline:(apos.endLine==cpos.line)=true:=by rfl)(hst:WB [e] X.env=(false,eval e X.env)::WB [] X.env:=by rfl)(hplain:(WU cpos (WB [] X.env)).any (·.1)=false:=by rfl):
 DE X H0 O0 (.Call (.Attribute o "zfill" apos) [e] [] cpos) (fC to t):=
 (sR SS PySem.F.slot_str_zfill PySem.F.type_str_zfill Kk ho (aQ ha bJ hst) hbase hfew hline hst hplain).imp λσ H Q uu90=>by obtain⟨O,δ,Qd,w,q,k⟩:=uu90;exact⟨O,δ,_,w,q,λx v H1 uu91 s1 r1=>by
  obtain⟨z,e,q1⟩:=uu91;subst e;cases r1;exact⟨rfl,O,δ,_,w.mono s1,q1,λy u H2 uu92 s2 r2=>by obtain⟨i,e,hz,q2⟩:=uu92;subst e;cases r2;exact⟨z,i,rfl,rfl,hz,k _ _ H2 q2 (s1.trans s2) (.str _)⟩⟩⟩
theorem D4:∀{l:List (Str×Tok)}{ys:List Str},l.map (·.1)=ys->aM (ys.map V.str) (strValues l)
 | [],_,rfl=>.nil
 | (x,t)::r,_,rfl=>.cons ⟨t,rfl⟩ (D4 (l:=r) rfl)
theorem Kl:sQ X "str.split" (λx xs H Q=>∃(z y:Str),x= .str z/\xs=[.str y]/\(y.length==0)=false/\z.length<=1000000/\∀p,H p=none->Q (.ref p) (ao H p (.lst ((Txt.split z y).map V.str)))):=by
 intro Yn s σ H x xs v us Q I rx rs h;obtain⟨z,y,rfl,rfl,hy,hz,q⟩:=h;obtain⟨t,rfl⟩:=rx;obtain⟨u,rfl,t',rfl⟩:=lh rs;have hsl:(WA:Nat)=16777216:=tx
 have hle:=split_le z y;have hq:∀(l:List (Str×Tok))(k:Nat),l.map (·.1)=Txt.split z y->EP X Yn σ Q (.ref s.heap.objs.size) {s with heap:=s.heap.push {cls:= .type "list",data:= .seq (strValues l).toArray},toks:=k}:=λl k e=>
  ⟨.ref _,_,I.laid (t':=k) (o:= .lst ((Txt.split z y).map V.str)) (λb ob q=>Py _ q) (PL _) ⟨by rw [PB];omega,_,0,D4 e,Qa _ rfl⟩,rfl,q _ I.fresh⟩
 cases h1:(decide (z.length < y.length) || decide (U8 z < U8 y))
 ·cases hf:(R0 z y 0 z.length (z.length+1)).isEmpty
  ·have hn:(Us z (R0 z y 0 z.length (z.length+1)) y.length).length<=WA:=by
    rw [len_partsBetween];have:=StrLaws.occ_length_le z y 0 z.length (z.length+1);omega
   refine Xn F.slot_str_split (Xm _ _ _) F.entry_str_split (F.args_str_split_2 _ _) (meets_str_split_sep z y t t' h1 hy hf Ce hn) ?_;show wants _ _ _ {s with toks:=_,heap:=s.heap.push {cls:= .type "list",data:= .seq (strsFrom s.toks (Us z (R0 z y 0 z.length (z.length+1)) y.length)).toArray}};rw [strsFrom_eq];exact hq (numbered s.toks _) _ ((numbered_texts _ _).trans ((Wm (ne_true_of_eq_false h1)).trans (Wm (ne_true_of_eq_false hf))).symm)
  ·exact Xn F.slot_str_split (Xm _ _ _) F.entry_str_split (F.args_str_split_2 _ _) (meets_str_split_not_found z y t t' h1 hy hf) (hq [(z,t)] s.toks ((Wm (ne_true_of_eq_false h1)).trans (Wn hf)).symm)
 ·exact Xn F.slot_str_split (Xm _ _ _) F.entry_str_split (F.args_str_split_2 _ _) (meets_str_split_cannot_occur z y t t' h1) (hq [(z,t)] s.toks (Wn h1).symm)
def fD(to t:DT):DA:=λδ Q=>to δ λx=>∃z:Str,x= .str z/\t δ λy=>∃y':Str,y= .str y'/\(y'.length==0)=false/\z.length<=1000000/\Q ((Txt.split z y').map .str)
theorem oO{o e:WC}{to t:DT}{apos cpos:Pos}(ho:DE X H0 O0 o to)(ha:DE X H0 O0 e t)(hbase:Xi o "split" X.env (eval o X.env)=eval o X.env:=by rfl)
 (hfew:((WU cpos (WB [e] X.env)).all (λx=>!x.1) && (X6 cpos (XF [] X.env)).all (λx=>x.1.isSome) && decide ([e].length+([]:List Xv).length+(if ([]:List Xv).isEmpty then 0 else 1) < 30))=true:=by rfl)
 (hline:(apos.endLine==cpos.line)=true:=by rfl)(hst:WB [e] X.env=(false,eval e X.env)::WB [] X.env:=by rfl)(hplain:(WU cpos (WB [] X.env)).any (·.1)=false:=by rfl):
 FE X H0 O0 (.Call (.Attribute o "split" apos) [e] [] cpos) (fD to t):=
 (sR SS PySem.F.slot_str_split PySem.F.type_str_split Kl ho (aQ ha bJ hst) hbase hfew hline hst hplain).imp λσ H Q uu93=>by obtain⟨O,δ,Qd,w,q,k⟩:=uu93;exact⟨O,δ,_,w,q,λx v H1 uu94 s1 r1=>by
  obtain⟨z,e,q1⟩:=uu94;subst e;cases r1;exact⟨rfl,O,δ,_,w.mono s1,q1,λy u H2 uu95 s2 r2=>by obtain⟨y',e,hy,hz,q2⟩:=uu95;subst e;cases r2;exact⟨z,y',rfl,rfl,hy,hz,λp hp=>k _ _ p H2 q2 (s1.trans s2) hp (au.ofStrs _)⟩⟩⟩
def PF(X:Cx)(H0:Hp)(O0:Ex)(e:WC)(t:DT):Prop:=∀(Yn:List (Wu×Obj))(s:Wv)(σ:St)(H:Hp)(R:Str->Prop)(Q:VK),ag X Yn σ H s->(∃O δ,Wd X.K H0 O0 H O σ δ/\t δ (λd=>∃z:Str,d= .str z/\z.length<=WA/\R z)/\∀z H',R z->aq H H'->Q (.str z) H')->Wx (Wy X.prog X.w) X.A (eval e X.env) (EP X Yn σ Q) X.xe s
theorem D5{x j pos}:PF X H0 O0 (.Constant (.str x) j pos) (dC (.str x)):=λYn s σ H R Q I h=>by
 obtain⟨O,δ,w,⟨z,e,hz,q⟩,k⟩:=h;injection e with e;subst e
 exact wj Yn s σ H Q I (k _ H q (aq.refl _))
theorem Ao{e:WC}{t:DT}{pos:Pos}(h:DE X H0 O0 e t):PF X H0 O0 (.FormattedValue e (-1) none pos) t:=λYn s σ H R Q I hh=>by
 obtain⟨O,δ,w,q,k⟩:=hh;refine FormattedValue_plain (aC (h Yn s σ H (λv H1=>∃z:Str,v= .str z/\z.length<=WA/\Q (.str z) H1) I ⟨O,δ,_,w,q,λd v H1 uu96 s1 r1=>by obtain⟨z,e,hz,q1⟩:=uu96;subst e;cases r1;exact⟨z,rfl,hz,k _ H1 q1 s1⟩⟩) λv s1 ⟨x,H1,I1,r1,z,e,hz,q1⟩=>?_);subst e;obtain⟨t,rfl⟩:=r1;exact formatField_str (λt' tk=>⟨.str z,H1,I1.tok _,⟨_,rfl⟩,q1⟩) hz
def cE:List DT->Str->DT
 | [],out=>λ_ Q=>out.length<=WA/\Q (.str out)
 | t::ts,out=>λδ Q=>t δ λd=>∃z:Str,d= .str z/\z.length<=WA/\(out++z).length<=WA/\cE ts (out++z) δ Q
inductive tI (X:Cx) (H0:Hp) (O0:Ex):List WC->List DT->Prop
 | nil:tI X H0 O0 [] []
 | cons {e:WC} {es:List WC} {t:DT} {ts:List DT}:PF X H0 O0 e t->tI X H0 O0 es ts->tI X H0 O0 (e::es) (t::ts)
theorem Km{es:List WC}{ts:List DT}(h:tI X H0 O0 es ts):∀(out:Str)(Yn:List (Wu×Obj))(s:Wv)(σ:St)(H:Hp)(Q:VK),ag X Yn σ H s->up X.K H0 O0 (cE ts out) σ H Q->
 Wx (Wy X.prog X.w) X.A (joinParts out (evalEach es X.env)) (EP X Yn σ Q) X.xe s:=by
 induction h with
 | nil=>
  intro out Yn s σ H Q I ⟨O,δ,Qd,w,⟨hz,q⟩,k⟩;exact joinParts_nil ⟨.str out,H,I.tok _,⟨_,rfl⟩,k _ _ H q (aq.refl _) (.str out)⟩ hz
 | @cons e es t ts hp hs ih=>
  intro out Yn s σ H Q I ⟨O,δ,Qd,w,q,k⟩;show Wx (Wy X.prog X.w) X.A (joinParts out (eval e X.env::evalEach es X.env)) (EP X Yn σ Q) X.xe s;refine joinParts_cons (aC (hp Yn s σ H (λz=>(out++z).length<=WA/\cE ts (out++z) δ Qd) (λv H1=>∃z:Str,v= .str z/\(out++z).length<=WA/\up X.K H0 O0 (cE ts (out++z)) σ H1 Q) I ⟨O,δ,w,q,?_⟩) λv s1 ⟨x,H1,I1,r1,z,e,hz,q1⟩=>?_)
  ·rintro z H1 ⟨hz,q1⟩ s1;exact⟨z,rfl,hz,O,δ,Qd,w.mono s1,q1,λd v H2 q2 s2 r2=>k d v H2 q2 (s1.trans s2) r2⟩
  ·subst e;obtain⟨t',rfl⟩:=r1;exact⟨hz,ih _ _ _ _ _ _ I1 q1⟩
theorem Kn{e1 e2:WC}{es:List WC}{ts:List DT}{pos:Pos}(h:tI X H0 O0 (e1::e2::es) ts):DE X H0 O0 (.JoinedStr (e1::e2::es) pos) (cE ts TM):=λYn s σ H Q I hh=>
 JoinedStr_many (Km h TM Yn s σ H Q I hh)
def iL:DS:=λ_ _=>False
def D6(ns:List Int):List Wr:=ns.map .int
def iM:Wr->Wr->(Wr->Prop)->Prop:=λx y Q=>(∃i j:Int,x= .int i/\y= .int j/\Q (.bool (decide (i < j))))\/(∃i j:Str,x= .str i/\y= .str j/\Q (.bool (decide (i.cps.toList < j.cps.toList))))\/
 (∃ns ms:List Int,x= .tuple (D6 ns)/\y= .tuple (D6 ms)/\Q (.bool (HT.lexLt ns ms)))
end
section
variable {α:Type} {P:α->Prop}
theorem fE{a:Wr}{r:Dl}{P:Wr->Prop}:kT 0 (some (Sl.v a)::r) P=P a:=rfl
theorem iN{x:Option Sl}{r:Dl}{i:Nat}{P:Wr->Prop}:kT (i+1) (x::r) P=kT i r P:=rfl
theorem iO{a:List Wr}{r:Dl}{P:List Wr->Prop}:(∃d,(some (Sl.o a)::r)[0]?=some (some (Sl.o d))/\P d)=P a:=Wq
theorem iP{x:Option Sl}{r:Dl}{i:Nat}{P:List Wr->Prop}:(∃d,(x::r)[i+1]?=some (some (Sl.o d))/\P d)=(∃d,r[i]?=some (some (Sl.o d))/\P d):=Wq
theorem iQ{a:List Wr}{l:Dl}{i:Nat}{P:List Wr->Prop}:(∃d,(l.set i (some (Sl.o a)))[i]?=some (some (Sl.o d))/\P d)=(i < l.length/\P a):=by
 apply propext;rw [Uw];constructor
 ·rintro⟨d,e,p⟩;by_cases h:i < l.length
  ·rw [QY h] at e;cases e;exact⟨h,p⟩
  ·rw [Sd Ce] at e;cases e
 ·rintro⟨h,p⟩;exact⟨a,by rw [QY h];rfl,p⟩
theorem iR{x:Option Sl}{l:Dl}{i j:Nat}{P:List Wr->Prop}(h:i≠j):(∃d,(l.set i x)[j]?=some (some (Sl.o d))/\P d)=(∃d,l[j]?=some (some (Sl.o d))/\P d):=by rw [Q3 h]
theorem iS{a:Bool}{P:Bool->Prop}:(∃b,TF a= .bool b/\P b)=P a:=Wq
theorem iT{a:Int}{P:Int->Prop}:(∃b,PN a= .int b/\P b)=P a:=Wq
theorem iU{a:Str}{P:Str->Prop}:(∃b,Pr a= .str b/\P b)=P a:=Wq
theorem iV{a:List Wr}{P:List Wr->Prop}:(∃b,Qx a= .tuple b/\P b)=P a:=Wq
theorem iW{a:List Wr}{P:List Wr->Prop}:(∃b,Q8 a= .list b/\P b)=P a:=Wq
theorem iX{a b:Int}{P:Int->Int->Prop}:(∃i j,PN a= .int i/\PN b= .int j/\P i j)=P a b:=Wq
theorem iY{a b:Str}{P:Str->Str->Prop}:(∃i j,Pr a= .str i/\Pr b= .str j/\P i j)=P a b:=Wq
theorem iZ{a b:List Wr}{P:List Wr->List Wr->Prop}:(∃i j,Qx a= .tuple i/\Qx b= .tuple j/\P i j)=P a b:=Wq
theorem i3{a b:List Wr}{P:List Wr->List Wr->Prop}:(∃i j,Q8 a= .list i/\Q8 b= .list j/\P i j)=P a b:=Wq
theorem i4{a:Wr}{r:List Wr}{P:Wr->List Wr->Prop}:(∃x y,a::r=x::y/\P x y)=P a r:=propext ⟨λuu2=>by obtain⟨_,_,e,p⟩:=uu2;cases e;exact p,λp=>⟨_,_,rfl,p⟩⟩
theorem i5{a b:Wr}{P:Wr->Wr->Prop}:(∃x y,[a,b]=[x,y]/\P x y)=P a b:=propext ⟨λuu3=>by obtain⟨_,_,e,p⟩:=uu3;cases e;exact p,λp=>⟨_,_,rfl,p⟩⟩
theorem i6{a:Wr}{r:List Wr}{P:Wr->Prop}:(∃ds i d,Qx (a::r)= .tuple ds/\PN 0= .int i/\atI ds i=some d/\P d)=P a:=by simp [aX]
theorem i7{a b:Wr}{r:List Wr}{P:Wr->Prop}:(∃ds i d,Qx (a::b::r)= .tuple ds/\PN 1= .int i/\atI ds i=some d/\P d)=P b:=by simp [bA]
theorem i8{a b c:Wr}{r:List Wr}{P:Wr->Prop}:(∃ds i d,Qx (a::b::c::r)= .tuple ds/\PN 2= .int i/\atI ds i=some d/\P d)=P c:=by simp [b0]
theorem i9{a b c e:Wr}{r:List Wr}{P:Wr->Prop}:(∃ds i d,Qx (a::b::c::e::r)= .tuple ds/\PN 3= .int i/\atI ds i=some d/\P d)=P e:=by simp [cX]
theorem ja{a:Wr}{r:List Wr}{P:Wr->Prop}:(∃ds i d,Q8 (a::r)= .list ds/\PN 0= .int i/\atI ds i=some d/\P d)=P a:=by simp [aX]
theorem jb{a b:Wr}{r:List Wr}{P:Wr->Prop}:(∃ds i d,Q8 (a::b::r)= .list ds/\PN 1= .int i/\atI ds i=some d/\P d)=P b:=by simp [bA]
theorem jd{a b c:Wr}{r:List Wr}{P:Wr->Prop}:(∃ds i d,Q8 (a::b::c::r)= .list ds/\PN 2= .int i/\atI ds i=some d/\P d)=P c:=by simp [b0]
theorem je{xs:List Wr}{k:Int}{P:Wr->Prop}:(∃ds i d,Qx xs= .tuple ds/\PN k= .int i/\atI ds i=some d/\P d)=(∃d,atI xs k=some d/\P d):=Wq
theorem jf{xs:List Wr}{k:Int}{P:Wr->Prop}:(∃ds i d,Q8 xs= .list ds/\PN k= .int i/\atI ds i=some d/\P d)=(∃d,atI xs k=some d/\P d):=Wq
end
theorem jg{w v:Str}{r:List Wr}{l:Dl}{Q:Bool->Prop}:bS (bE cz (bE cy (kT 0) (dC (.int 0))) (dC (.str v))) (some (.v (.tuple (.str w::r)))::l) Q=Q (w==v):=by
 simp [bS,bE,cz,cy,fE,dC,aX,kJ,bj]
theorem jh{v:Str}{x:Option Sl}{l:Dl}{k:Nat}{Q:Bool->Prop}:bS (bE cz (bE cy (kT 0) (dC (.int 0))) (dC (.str v))) (l.set (k+1) x) Q=bS (bE cz (bE cy (kT 0) (dC (.int 0))) (dC (.str v))) l Q:=by
 simp only [bS,bE,kT,dC,Q3 (show k+1≠0 by omega)]
def pH:bp->Wr
 | .inl i=>.int i
 | .inr x=>.str x
def uW(kd:List (bp×Wr))(k:bp):Option Wr:=(kd.find? λp=>decide (p.1=k)).map (·.2)
def D7(kd:List (bp×Wr))(k:bp)(d:Wr):List (bp×Wr):=if (kd.any λp=>decide (p.1=k))=true then kd.map (λp=>if p.1=k then(p.1,d) else p) else kd++[(k,d)]
section
variable {X:Cx} {H0:Hp} {O0:Ex}
abbrev tJ:=Dl->(List (bp×Wr)->Prop)->Prop
inductive D8 (K:Pq) (H0:Hp) (O0:Ex) (t:tJ) (σ:St) (H:Hp) (R:VK):Prop
 | mk (O:Ex) (δ:Dl) (Qd:List (bp×Wr)->Prop):Wd K H0 O0 H O σ δ->t δ Qd->(∀kd kv p H',Qd kd->aq H H'->H' p=none->l7 K H' O kv kd->R (.ref p) (ao H' p (.dK kv)))->D8 K H0 O0 t σ H R
abbrev KE(X:Cx)(H0:Hp)(O0:Ex)(e:WC)(t:tJ):Prop:=PE X e (D8 X.K H0 O0 t)
def ji:tJ:=λ_ Q=>Q []
def jj(i:Nat)(t:tJ):DS:=λE δ=>t δ λkd=>E.nx (δ.set i (some (.k kd)))
def jk(i:Nat)(tk tv:DT):DS:=λE δ=>tv δ λd=>∃kd,δ[i]?=some (some (.k kd))/\tk δ λy=>∃k,y=pH k/\kd.length < WA/\E.nx (δ.set i (some (.k (D7 kd k d))))
def jl(i:Nat)(tk:DT):DT:=λδ Q=>∃kd,δ[i]?=some (some (.k kd))/\tk δ λy=>∃k d,y=pH k/\uW kd k=some d/\Q d
def jm(i:Nat)(tk:DT):DT:=λδ Q=>∃kd,δ[i]?=some (some (.k kd))/\tk δ λy=>∃k,y=pH k/\Q ((uW kd k).getD .none)
def jn(neg:Bool)(i:Nat)(tk:DT):DT:=λδ Q=>tk δ λy=>∃k,y=pH k/\∃kd,δ[i]?=some (some (.k kd))/\Q (.bool (if neg then !(uW kd k).isSome else(uW kd k).isSome))
open PySem PySem.Spec PyProof.Rows PySem.W PySem.Calls
def jo(i:Nat):DA:=λδ Q=>∃kd,δ[i]?=some (some (.k kd))/\∃ss:List Str,kd.map (·.1)=ss.map Tp/\ss.length < 64/\Q ((kX ss).map .str)
end
section
theorem jq{a:List (bp×Wr)}{r:Dl}{P:List (bp×Wr)->Prop}:(∃d,(some (Sl.k a)::r)[0]?=some (some (Sl.k d))/\P d)=P a:=Wq
theorem jr{x:Option Sl}{r:Dl}{i:Nat}{P:List (bp×Wr)->Prop}:(∃d,(x::r)[i+1]?=some (some (Sl.k d))/\P d)=(∃d,r[i]?=some (some (Sl.k d))/\P d):=Wq
theorem jt{a:List (bp×Wr)}{l:Dl}{i:Nat}{P:List (bp×Wr)->Prop}:(∃d,(l.set i (some (Sl.k a)))[i]?=some (some (Sl.k d))/\P d)=(i < l.length/\P a):=by
 apply propext;rw [Uw];constructor
 ·rintro⟨d,e,p⟩;by_cases h:i < l.length
  ·rw [QY h] at e;cases e;exact⟨h,p⟩
  ·rw [Sd Ce] at e;cases e
 ·rintro⟨h,p⟩;exact⟨a,by rw [QY h];rfl,p⟩
theorem ju{x:Option Sl}{l:Dl}{i j:Nat}{P:List (bp×Wr)->Prop}(h:i≠j):(∃d,(l.set i x)[j]?=some (some (Sl.k d))/\P d)=(∃d,l[j]?=some (some (Sl.k d))/\P d):=by rw [Q3 h]
theorem jv{x:Str}{P:bp->Prop}:(∃k,Pr x=pH k/\P k)=P (.inr x):=propext ⟨λuu4=>by obtain⟨k,e,p⟩:=uu4;cases k with | inl i=>cases e | inr y=>cases e;exact p,λp=>⟨_,rfl,p⟩⟩
theorem jw{x:Int}{P:bp->Prop}:(∃k,PN x=pH k/\P k)=P (.inl x):=propext ⟨λuu5=>by obtain⟨k,e,p⟩:=uu5;cases k with | inr i=>cases e | inl y=>cases e;exact p,λp=>⟨_,rfl,p⟩⟩
end
def lT:Wr->Bool
 | .none=>true
 | _=>false
def fF:Wr->Wr->(Wr->Prop)->Prop:=λx y Q=>y= .none/\Q (.bool (lT x))
def fG:Wr->Wr->(Wr->Prop)->Prop:=λx y Q=>y= .none/\Q (.bool (!lT x))
theorem Sh.isN{K:Pq}{H:Hp}{O:Ex}{x:V}{d:Wr}(h:Sh K H O x d):decide (x= .non)=lT d:=by
 cases h with
 | dt h=>cases h <;> simp [lT]
 | _=>simp [lT]
theorem uX{K:Pq}:cS K (λx y H Q=>y= .non/\Q (.bl (decide (x= .non))) H) fF:=λH O x y dx dy Qd R _ hx hy uu6 k=>by
 obtain⟨e,q⟩:=uu6;subst e;refine⟨hy.non,?_⟩;rw [hx.isN];exact k _ _ H q (aq.refl _) (.bl _)
theorem Ko{K:Pq}:cS K (λx y H Q=>y= .non/\Q (.bl (!decide (x= .non))) H) fG:=λH O x y dx dy Qd R _ hx hy uu7 k=>by
 obtain⟨e,q⟩:=uu7;subst e;refine⟨hy.non,?_⟩;rw [hx.isN];exact k _ _ H q (aq.refl _) (.bl _)
def jx:List Wr->(Wr->Prop)->Prop:=λds Q=>∃i:Int,ds=[.int i]/\Q (.int (if i < 0 then -i else i))
def jy:Wr->Wr->(Wr->Prop)->Prop:=λx y Q=>∃ds i d,x=mB ds/\y= .int i/\atI ds i=some d/\Q d
section
variable {X:Cx} {H0:Hp} {O0:Ex}
def jz(t:DT)(tl th:DO):DA:=λδ Q=>t δ λd=>tl δ λl=>th δ λu=>∃xs,d=mB xs/\Q (bz xs l u)
end
def jA:Wr->Wr->(Wr->Prop)->Prop:=λx y Q=>∃(z:Str)(n:Int),x= .str z/\y= .int n/\MulOk z n/\Q (.str (Txt.mul z n))
structure Rw where
 w:Str
 n:Int
 nm:Str
 r:List Wr
def qv(ws:List Str)(day:Int)(x:Rw):Prop:=x.w∈ws/\x.n<=day
instance {ws:List Str} {day:Int} {x:Rw}:Decidable (qv ws day x):=by unfold qv;infer_instance
abbrev Ls:=List (Str×Rw)
open PySem PySem.Spec PyProof.Rows PySem.W PySem.Calls
theorem Kp(t:XI)(n:Nat):(t.orStandIn n).led=t.led:=by unfold SetTable.orStandIn;split <;> rfl
theorem Kq(t:XI)(es:Array (Int×Ws))(h:Int)(x:Ws):(layNew t es h x).2.1.led=t.led:=by
 unfold layNew;split
 ·exact Kp _ _
 ·rfl
theorem Kr(t:XI)(es:Array (Int×Ws))(n:Nat):(XW t es n).2.1.led=t.led:=by
 unfold XW VM V0;cases Vr (Vi n - 1) (es.map (·.1)) with
 | none=>rfl
 | some ow=>simp only [bind,Wf,pure];split <;> rfl
theorem Ks(t:XI)(es:Array (Int×Ws))(n:Nat):(XW t es n).2.1.plain=true->t.plain=true:=by
 unfold XW VM V0;cases Vr (Vi n - 1) (es.map (·.1)) with
 | none=>intro e;cases e
 | some ow=>
  simp only [bind,Wf,pure];split
  ·exact id
  ·intro e;cases e
abbrev mn(w:WJ):Bool:=w.params.followText "set-order"
structure Kt (P:WH) (w:WJ) (o:Obj) (ss:List Str):Prop where
 ex:o.ExactSet
 da:∃es ep t,o.data= .set es ep t/\ElemsOf (strKind P w) es.toList/\(∃ss',W0 (es.toList.map (·.2)) ss'/\ss'.Perm ss)/\es.size < Xx/\t.fits es.size=true/\(mn w=true\/t.led=true)/\(es.size≠0->t.plain=false)
def kM(P:WH)(w:WJ)(h:WG)(a:Wu)(ss:List Str):Prop:=∃o,h.get? a=some o/\Kt P w o ss
theorem D9{k:Str}:∀{vs:List Ws}{ss:List Str},W0 vs ss->((∃v∈vs,v.isStrOf k=true)↔k∈ss)
 | _,_,.nil=>by simp
 | _,_,.cons x t r=>by
  have ih:=D9 (k:=k) r;constructor
  ·rintro⟨v,hv,e⟩;rcases Pz.mp hv with z | z
   ·subst z;obtain⟨u,e'⟩:=U5 e;cases e';exact RC
   ·exact Q2 _ (ih.mp ⟨v,z,e⟩)
  ·intro hk;rcases Pz.mp hk with z | z
   ·subst z;exact⟨_,RC,by simp [VW]⟩
   ·obtain⟨v,hv,e⟩:=ih.mpr z;exact⟨v,Q2 _ hv,e⟩
theorem uY{vs vs':List Ws}(p:vs'.Perm vs):∀{ss:List Str},W0 vs ss->∃ss',W0 vs' ss'/\ss'.Perm ss:=by
 induction p with
 | nil=>intro ss h;exact⟨ss,h,.refl _⟩
 | cons x p ih=>
  intro ss h;cases h with
  | cons y t r=>obtain⟨s1,a,b⟩:=ih r;exact⟨y::s1,.cons y t a,b.cons y⟩
 | swap x y l=>
  intro ss h;cases h with
  | cons a t r=>cases r with | cons b u r=>exact⟨b::a::_,.cons b u (.cons a t r),.swap _ _ _⟩
 | trans p q ih1 ih2=>
  intro ss h;obtain⟨s1,a,b⟩:=ih2 h;obtain⟨s2,c,d⟩:=ih1 a;exact⟨s2,c,d.trans b⟩
theorem Ea{x:Str}{t:Tok}:∀{vs:List Ws}{ss:List Str},W0 vs ss->W0 (vs++[.str x t]) (ss++[x])
 | _,_,.nil=>.cons x t .nil
 | _,_,.cons y u r=>.cons y u (Ea r)
theorem tK:∀{vs:List Ws}{ss:List Str},W0 vs ss->vs.length=ss.length
 | _,_,.nil=>rfl
 | _,_,.cons y u r=>by simp [tK r]
def kC(ss:List Str)(x:Str):List Str:=if x∈ss then ss else ss++[x]
section
variable {P:WH} {w:WJ} {A:WL} {E:Ws->Wv->Prop} {s:Wv}
theorem kM.mk{h:WG}{a:Wu}{o:Obj}{es es':Array (Int×Ws)}{ep:Nat}{t t':XI}{ss:List Str}(o1:h.get? a=some o)(x1:o.ExactSet)(d1:o.data= .set es ep t)
 (el:ElemsOf (strKind P w) es'.toList)(sp:∃ss',W0 (es'.toList.map (·.2)) ss'/\ss'.Perm ss)(b1:es'.size < Xx)(f1:t'.fits es'.size=true)(l1:mn w=true\/t'.led=true)(p1:es'.size≠0->t'.plain=false):
 (h.update a (Ul es' t')).get? a=some {o with data:= .set es' (ep+1) t'}/\kM P w (h.update a (Ul es' t')) a ss:=by
 have g:(h.update a (Ul es' t')).get? a=some {o with data:= .set es' (ep+1) t'}:=by
  have z:=Rk (Ul es' t') o1 (by rw [putSet_of es' t' d1];rfl);rw [putSet_of es' t' d1] at z;exact z
 exact⟨g,_,g,x1,es',ep+1,t',rfl,el,sp,b1,f1,l1,p1⟩
theorem Eb{g:Bool->Sem Unit}(hg:∀(b:Bool) (s₁:Wv) (Q':Unit->Wv->Prop),Q' () s₁->Wx (Wy P w) A (g b) Q' E s₁)
 {a:Wu}{o:Obj}{es:Array (Int×Ws)}{ep:Nat}{t:XI}(o1:s.heap.get? a=some o)(x1:o.ExactSet)(d1:o.data= .set es ep t)
 {es1:Array (Int×Ws)}{t2:XI}{ss:List Str}(el:ElemsOf (strKind P w) es1.toList)(sp:∃ss',W0 (es1.toList.map (·.2)) ss'/\ss'.Perm ss)
 (b1:es1.size < Xx)(f2:t2.fits es1.size=true)(l2:mn w=true\/t2.led=true)(p2:t2.plain=false){wd:Bool}{R:Option Bool->Wv->Prop}
 (h:∀h',Sq a s.heap h'->kM P w h' a ss->R (some true) {s with heap:=h'}):
 Wx (Wy P w) A (do
  storeSet a es1 t2
  if (!wd && t2.tooFull)=true then do
   g (XW t2 es1 (Sn es1.size)).2.2
   storeSet a (XW t2 es1 (Sn es1.size)).1 (XW t2 es1 (Sn es1.size)).2.1
   pure (some true)
   else pure (some true)) R E s:=by
 refine Wt (wpAny_storeSet_of o1 d1 ?_ (fits_of_scanBound b1));obtain⟨o2,S2⟩:=kM.mk (P:=P) o1 x1 d1 el sp b1 f2 l2 (λ_=>p2);have sb:=Rz s.heap a (Ul es1 t2);split
 ·have rp:=relayAll_perm t2 es1 (Sn es1.size);have rf:=relayAll_fits t2 es1 (Sn es1.size);have rl:=Kr t2 es1 (Sn es1.size);have rq:=Ks t2 es1 (Sn es1.size);generalize XW t2 es1 (Sn es1.size)=Z at rp rf rl rq⊢;obtain⟨es2,t3,gv⟩:=Z;dsimp only at rp rf rl rq⊢;have sz:es2.size=es1.size:=by rw [<-PY,rp.length_eq,PY]
  obtain⟨ss',q1,q2⟩:=sp;obtain⟨ss2,q3,q4⟩:=uY (rp.map (·.2)) q1;refine Wt (hg _ _ _ (Wt (wpAny_storeSet_of o2 rfl ?_ (fits_of_scanBound (by rw [sz];exact b1)))));obtain⟨_,S3⟩:=kM.mk (P:=P) (w:=w) (t':=t3) o2 x1 rfl (el.perm rp) ⟨ss2,q3,q4.trans q2⟩ (by rw [sz];exact b1) rf (by rw [rl];exact l2) (λ_=>by
   cases hb:t3.plain with
   | false=>rfl
   | true=>rw [rq hb] at p2;cases p2)
  exact Ww (h _ (sb.trans (Rz _ a _)) S3)
 ·exact Ww (h _ sb S2)
theorem Ku{a:Wu}{ss:List Str}{x:Str}{tk:Tok}{Q:Bool->Wv->Prop}(hS:kM P w s.heap a ss)(hroom:ss.length+1 < Xx)
 (h:∀h' b,Sq a s.heap h'->kM P w h' a (kC ss x)->Q b {s with heap:=h'}):
 Wx (Wy P w) A (setAddHashed a (.str x tk) (hashStr w x)) Q E s:=by
 obtain⟨o,o1,x1,es,ep,t,d1,el,⟨ss',s1,s2⟩,b1,f1,l1,p1⟩:=hS;have hk:(strKind P w).is x (.str x tk)=true:=strKind_is _ _ _ _;have hsc:(S5 x tk).scannable=true:=rfl;have ln:es.size=ss.length:=by rw [<-s2.length_eq,<-tK s1,PB,PY]
 unfold setAddHashed setAddHashedIn;refine WX (Wt (Xk o1 d1 f1 ?_));dsimp only;rw [byScan_of hsc b1 el,Wn rfl];unfold setAddByScan;refine Wt (Wt (XA (Wt (wpAny_setScan_of hk o1 d1 f1 el ?_))));have mem:(∃e∈es.toList,(strKind P w).is x e.2=true)↔x∈ss:=by
  rw [<-s2.mem_iff,<-D9 s1];constructor
  ·rintro⟨e,he,q⟩;exact⟨e.2,QG.mpr ⟨e,he,rfl⟩,q⟩
  ·rintro⟨v,hv,q⟩;obtain⟨e,he,rfl⟩:=QG.mp hv;exact⟨e,he,q⟩
 cases hr:List.findIdx? (λe=>(strKind P w).is x e.2) es.toList with
 | some j=>
  obtain⟨hj,hp,_⟩:=List.findIdx?_eq_some_iff_getElem.mp hr;have hx:x∈ss:=mem.mp ⟨_,R9 hj,hp⟩;refine Ww (Ww ?_);have z:=h s.heap false (Sq.refl a s.heap) (by unfold kC;rw [Wn hx];exact⟨o,o1,x1,es,ep,t,d1,el,⟨ss',s1,s2⟩,b1,f1,l1,p1⟩);have e:s={s with heap:=s.heap}:=by cases s;rfl
  rw [e];exact z
 | none=>
  dsimp only;have hx:x ∉ ss:=λz=>by
   obtain⟨e,he,q⟩:=mem.mpr z;have:=List.findIdx?_eq_none_iff.mp hr e he;rw [q] at this;cases this
  have eS:kC ss x=ss++[x]:=Wm hx;rw [eS] at h;have lp:=layNew_perm t es (hashStr w x) (.str x tk);have lf:=layNew_fits t es (hashStr w x) (.str x tk);have ll:=Kq t es (hashStr w x) (.str x tk);generalize layNew t es (hashStr w x) (.str x tk)=L at lp lf ll⊢;obtain⟨es1,t1,wd,gv⟩:=L;dsimp only at lp lf ll⊢;rw [Vs] at lp;have el1:ElemsOf (strKind P w) es1.toList:=(el.push hk hsc).perm lp;have sp1:∃ss',W0 (es1.toList.map (·.2)) ss'/\ss'.Perm (ss++[x]):=by
   have s3:W0 ((es.toList++[(hashStr w x,S5 x tk)]).map (·.2)) (ss'++[x]):=by
    rw [RE];exact Ea s1
   obtain⟨s4,q1,q2⟩:=uY (lp.map (·.2)) s3;exact⟨s4,q1,q2.trans (s2.append_right _)⟩
  have n1:es1.size=es.size+1:=by rw [<-PY,lp.length_eq];simp
  have b2:es1.size < Xx:=Ce
  have l2:mn w=true\/t1.led=true:=by rw [ll];exact l1
  have gw:∀(b:Bool)(s₁:Wv)(Q':Unit->Wv->Prop),Q' () s₁->Wx (Wy P w) A (match b with | true=>rule "set.scan.the-table-gave-way" | false=>pure ()) Q' E s₁:=
   λb s₁ Q' z=>by cases b <;> first | exact Ww z | exact XA z
  refine Wt (gw _ _ _ ?_);split
  ·refine Wt ?_;rw [hashByValue_scannable 8 hsc];refine Ww ?_;refine Eb gw o1 x1 d1 el1 sp1 b2 (SetTable.fits_plain_off lf) l2 rfl λh' sb S'=>Ww (h h' true sb S')
  ·rename_i hp;refine Wt (Ww ?_);rw [Wn rfl];exact Eb gw o1 x1 d1 el1 sp1 b2 lf l2 (by simpa using hp) λh' sb S'=>Ww (h h' true sb S')
end
def oP(val:Nat->Str)(i:Nat):List Str:=((Rx i).map val).foldl kC []
theorem Ec(val:Nat->Str)(i:Nat):oP val (i+1)=kC (oP val i) (val i):=by
 unfold oP;rw [SQ,RE,List.foldl_append];rfl
theorem Ed(val:Nat->Str):∀i,(oP val i).length<=i
 | 0=>PL _
 | i+1=>by
  have ih:=Ed val i;rw [Ec];unfold kC;split
  ·omega
  ·simp;omega
theorem Kv{ss:List Str}{x:Str}(h:ss.Nodup):(kC ss x).Nodup:=by
 unfold kC;split
 ·exact h
 ·rename_i hx;refine List.nodup_append.mpr ⟨h,Wq,λa ha b hb=>?_⟩;rw [Q9] at hb;subst hb;intro e;subst e;exact hx ha
theorem Kw{ss:List Str}{x y:Str}:y∈kC ss x↔y∈ss\/y=x:=by
 unfold kC;split
 ·rename_i hx;exact⟨.inl,λz=>z.elim id λe=>by subst e;exact hx⟩
 ·simp
theorem Ap{y:Str}:∀{l ss:List Str},y∈l.foldl kC ss↔y∈ss\/y∈l
 | [],ss=>by simp
 | a::l,ss=>by rw [R4,Ap,Kw,Pz];exact or_assoc
theorem Aq:∀{l ss:List Str},ss.Nodup->(l.foldl kC ss).Nodup
 | [],_,h=>h
 | a::l,_,h=>by rw [R4];exact Aq (Kv h)
theorem kM.stay{P:WH}{w:WJ}{h h':WG}{a:Wu}{ss:List Str}(x:kM P w h a ss)(k:∀o,h.get? a=some o->h'.get? a=some o):kM P w h' a ss:=
 let ⟨o,e,r⟩:=x;⟨o,k o e,r⟩
section
variable {P:WH} {w:WJ} {A:WL} {R:Yc->Wv->Prop} {I:Wu} {fp wr:List Wu} {G:Array XT->Array XT->Prop} {n:Nat} {Pv:Nat->Ws->Prop} {St:Nat->Wv->Prop}
theorem Kx(W:WalksS P w A.in1 I fp wr G n Pv St)(S:Wu)(hSf:S ∉ fp)(val:Nat->Str)(hval:∀i v,Pv i v->∃t,v= .str (val i) t)(hb:n+1 < Xx):
 ∀(k i:Nat)(s:Wv),n - i=k->i<=n->St i s->kM P w s.heap S (oP val i)->
  (∀s',Moved (S::wr) G s s'->kM P w s'.heap S (oP val n)->R (.ok (.ret .none)) s')->Xo (Wy P w) A (.builtin "set.update.loop" ⟨[.ref S,.ref I],[]⟩) R s:=by
 have sw:S ∉ wr:=λz=>hSf (W.sub _ z);have sub:∀b∈wr,b∈S::wr:=λb z=>Q2 _ z;intro k
 induction k with
 | zero=>
  intro i s e1 e2 st hS q;obtain rfl:i=n:=Ce
  refine Xh Tn ?_;rw [SA Ss _];show Wx _ A.in1 (Xj (.ref I) >>=_) _ _ s;exact Wt (W.done s _ _ st λs' m=>Ww (q s' (m.mono sub) (hS.stay λo e=>m.heap S o sw e)))
 | succ k ih=>
  intro i s e1 e2 st hS q;have lt:i < n:=Ce
  refine Xh Tn ?_;rw [SA Ss _];show Wx _ A.in1 (Xj (.ref I) >>=_) _ _ s;refine Wt (W.item i s _ _ lt st λv s' hP st' m=>?_);obtain⟨t,rfl⟩:=hval i v hP;have hS':=hS.stay (h':=s'.heap) λo e=>m.heap S o sw e;show Wx _ A.in1 (XZ [S5 (val i) t] (setAdd S (.str (val i) t)) >>=_) _ _ s';refine Wt (WX ?_);unfold setAdd;refine WX (Wt ((strKind P w).pyHash (k:=val i) (strKind_is _ _ _ _) ?_));have rm:(oP val i).length+1 < Xx:=by have:=Ed val i;omega
  refine Ku (s:={s' with toks:=s'.toks+1}) hS' rm λh' b sb S2=>?_;rw [<-Ec] at S2;refine Ww ⟨XS Ss _,ih (i+1) _ Ce lt (W.frame _ s' _ _ st' (SD _) λb hb o e=>?_) S2 λs2 m2 S3=>?_⟩
  ·rw [sb.2 b (λz:b=S=>hSf (by rw [<-z];exact hb))];exact e
  ·refine q s2 (Moved.trans W.gtrans ((m.mono sub).then_heap (SD _) λb o hb e=>?_) m2) S3;rw [sb.2 b (λz:b=S=>hb (by rw [z];exact RC))];exact e
end
section
variable {P:WH} {w:WJ} {A:WL} {E:Ws->Wv->Prop} {s:Wv}
theorem Ky(a:Ws){Q₁:Ws->Wv->Prop}
 (h:Q₁ (.ref s.heap.objs.size) {s with heap:=s.heap.push {cls:= .type "set",dict:=none,data:= .set #[] 0 (.fresh 0 0 (!mn w))}}):
 Xo (Wy P w) A (.call (.builtin "set.__new__") ⟨[.type "set",a],[]⟩) (wants Q₁ E) s:=by
 refine codeAny_of_tree ?_;show Wx _ A.in1 (XB "set.__new__" ⟨[.type "set",a],[]⟩ >>=λ_=>again (.builtin "set.__new__" ⟨[.type "set",a],[]⟩)) _ _ s;refine Wt (XR (PySem.F.newCall_set_1 a) (Ww ⟨XS UN _,Xh PySem.F.entry_set_new ?_⟩));rw [SA UN _];unfold Builtin.«set.__new__» Builtin.Frozenset.newClass;have hsb:=sub_set_self;obtain⟨hp,g,d,tk,os⟩:=s;dsimp only
 wp_walk
 refine Xq (Ww ?_);dsimp only;simp only [newObj];exact Wt (wpAny_alloc (Ww (Ww h)))
theorem kM.fresh{h:WG}{a:Wu}(e:h.get? a=some {cls:= .type "set",dict:=none,data:= .set #[] 0 (.fresh 0 0 (!mn w))}):kM P w h a []:=by
 refine⟨_,e,⟨rfl,rfl,rfl⟩,#[],0,_,rfl,λe he=>by simp at he,⟨[],.nil,.refl _⟩,tx,rfl,?_,λz=>absurd rfl z⟩;cases hb:mn w with
 | true=>exact .inl rfl
 | false=>exact .inr rfl
theorem Kz{l:Wu}{items:Array Ws}{ss:List Str}{Q:Ws->Wv->Prop}
 (hh:A.handled=none)(hl:s.heap.IsList l items)(hi:W0 items.toList ss)(hb:items.size+1 < Xx)
 (h:∀(h':WG) (tk:Nat),kM P w h' s.heap.objs.size (ss.foldl kC [])->(∀b o,s.heap.get? b=some o->h'.get? b=some o)->Q (.ref s.heap.objs.size) {s with heap:=h',toks:=tk}):
 Wx (Wy P w) A (call (.type "set") [.ref l]) Q E s:=by
 obtain⟨c,tl,hmro⟩:=PySem.F.called_set.mro;have hmade:=PySem.F.called_set.made;have hsub:=PySem.F.called_set.sub;refine XN (codeAny_of_tree ?_);show Wx _ _ (callAny (.type "set") _) _ _ _;refine Ww ⟨Tj _ td,Xh PySem.F.entry_type_call ?_⟩;rw [Around.under_plain (weight_type_call_type "set" [.ref l] []) rfl];have h1:=PySem.F.called_set.notType;have h2:=PySem.F.called_set.canCreate;have hct:=PySem.F.typeCall_set_1 (.ref l)
 repeat (any_goals (first | assumption | wp_step))
 generalize hob:({cls:= .type "set",dict:=none,data:= .set #[] 0 (.fresh 0 0 (!mn w))}:Obj)=ob;refine Xe (Ky (P:=P) (w:=w) (.ref l) (E:=E) (Q₁:=λu s₁=>u= .ref s.heap.objs.size/\s₁={s with heap:=s.heap.push ob}) (by subst hob;exact⟨rfl,rfl⟩)) λr s₁ hr=>?_;cases r with
 | error e=>exact hr
 | ok fl=>
  cases fl with
  | ret u=>
   obtain⟨rfl,rfl⟩:=hr;have hS:(s.heap.push ob).get? s.heap.objs.size=some ob:=Qa _ (by subst hob;rfl);have hT:Shared.TypeIs {s with heap:=s.heap.push ob} (.ref s.heap.objs.size) "set":=⟨_,hS,by subst hob;rfl⟩;have hli:=PySem.F.called_set.init.lookup;have hbi:=PySem.F.called_set.init.bind (.ref s.heap.objs.size)
   repeat (any_goals (first | assumption | wp_step))
   refine Xe (Xb (R:=wants (λr s₂=>r= .none/\∃h' tk,s₂={s with heap:=h',toks:=tk}/\kM P w h' s.heap.objs.size (ss.foldl kC [])/\∀b o,s.heap.get? b=some o->h'.get? b=some o) E)
    PySem.F.called_set.init.plain PySem.F.entry_set_init (check_set_init_1 hT ?_)) λr₂ s₂ hr₂=>?_
   ·obtain⟨ol,o1,c1,nl,d1⟩:=hl;obtain⟨oc,od,oda,osl⟩:=ol;simp only at c1 d1;subst c1;subst d1;have o2:(s.heap.push ob).get? l=some {cls:= .type "list",dict:=od,data:= .seq items nl,slots:=osl}:=Py _ o1;have q1:=PySem.F.sub_list_set;have q2:=PySem.F.sub_list_frozenset;have q3:(S7 "list"==S7 "dict")=false:=tx
    have l1:(s.heap.push ob).IsList l items:=⟨_,o2,rfl,nl,rfl⟩;subst hob;unfold Builtin.«set.__init__» noKeywords Builtin.Frozenset.updateFrom;generalize hPI:pyIter=PI
    wp_walk
    subst hPI;refine Yj l1 ?_;refine Wt (wpAny_runValue ?_);have ll:l < s.heap.objs.size:=PQ o1;have sz:∀ob:Obj,(s.heap.push ob).objs.size=s.heap.objs.size+1:=λ_=>RX _ _;have n1:∀ob:Obj,l≠(s.heap.push ob).objs.size:=λ_=>by rw [sz];exact QF (RL ll)
    have n2:∀ob:Obj,s.heap.objs.size ∉ [(s.heap.push ob).objs.size,l]:=λ_=>by
     rw [sz];simp only [Pz,PV,or_false,not_or];exact⟨QF (Sk _),Sr ll⟩
    have hv:∀(i:Nat)(v:Ws),items[i]?=some v->∃t,v= .str ((λi=>(ss[i]?).getD (Pp "")) i) t:=λi v e=>by
     rw [<-UO] at e;have:∀{vs:List Ws}{ss:List Str},W0 vs ss->∀(i:Nat)(v:Ws),vs[i]?=some v->∃t,v= .str ((ss[i]?).getD (Pp "")) t:=by
      intro vs ss x
      induction x with
      | nil=>intro i v e;simp at e
      | cons y t r ih=>
       intro i v e;cases i with
       | zero=>simp at e;exact⟨t,by rw [<-e];rfl⟩
       | succ i=>simp only [PM] at e⊢;exact ih i v e
     exact this hi i v e
    have hm:oP (λi=>(ss[i]?).getD (Pp "")) items.size=ss.foldl kC []:=by
     have e:items.size=ss.length:=by rw [<-tK hi,PY]
     unfold oP;rw [e];congr 1;apply VC Wq;intro i a b;simp at a b⊢;rw [QY Ce];rfl
    refine Kx (VJ (show A.in1.in1.in1.handled=none by simp [hh]) _ l (n1 _) items).toS s.heap.objs.size (n2 _) _ hv hb (items.size - 0) 0 _ Ce (Rt _)
     ⟨⟨_,Qa _ rfl,rfl,rfl⟩,l1.push _⟩ ?hS0 ?hR
    case hS0=>
     exact kM.fresh (Py _ hS)
    case hR=>
     intro s' m S';rw [hm] at S';obtain⟨h',g',d',tk',os'⟩:=s';obtain rfl:g'=s.gens:=m.gens;obtain rfl:d'=s.drawn:=m.drawn;obtain rfl:os'=s.os:=m.os;show Wx _ _ _ _ _ _;refine Ww (Ww ⟨rfl,h',tk',rfl,S',λb o e=>?_⟩);have hb1:b < s.heap.objs.size:=PQ e;refine m.heap b o ?_ (Py _ (Py _ e));rw [sz];simp only [Pz,PV,or_false,not_or];exact⟨QF hb1,QF (RL hb1)⟩
   ·cases r₂ with
    | error e=>exact hr₂
    | ok fl₂=>
     cases fl₂ with
     | ret r=>
      obtain⟨rfl,h',tk,rfl,S',k'⟩:=hr₂
      repeat (any_goals (first | assumption | wp_step))
      exact h _ _ S' k'
     | _=>exact hr₂.elim
  | _=>exact hr.elim
end
theorem nQ:Slot "set_iterator" "__next__" "set_iterator.__next__":=
 .of (owner:="set_iterator") (n:="__next__") (by rw [typeLookup_type,builtinLookup_eq_fast];kernel_rfl) td td td
  (by first | exact .inl td | exact .inr td) (by rw [isSubtype_type];kernel_rfl)
theorem uZ:entryFor table "set_iterator.__next__"=some Builtin.«set_iterator.__next__»:=entryFor_of_tree (by kernel_rfl)
theorem Ee:Manifest.owners.lookup (String.ofList ['r','o','t','a','r','e','t','i','_','t','e','s'].reverse)=some Manifest.sig_set_iterator:=by kernel_rfl
theorem va(a:Ws):argsOk "set_iterator.__next__" ⟨[a],[]⟩:=by
 unfold argsOk;rw [signature?_of (id:="set_iterator.__next__") (n:=['_','_','t','x','e','n','_','_']) (o:=['r','o','t','a','r','e','t','i','_','t','e','s']) (by kernel_rfl) Ee];kernel_rfl
theorem KA:entryFor table "set.__iter__"=some Builtin.«frozenset.__iter__»:=entryFor_alias (id':="frozenset.__iter__") (by kernel_rfl) rfl td (by kernel_rfl)
theorem Ar{α:Type}:∀{l:List α}{i:Nat}(h:i < l.length),(l[i]::l.eraseIdx i).Perm l
 | a::l,0,h=>.refl _
 | a::l,i+1,h=>by
  have:=Ar (l:=l) (i:=i) (by simpa using h);simp only [List.getElem_cons_succ,List.eraseIdx_cons_succ];exact(List.Perm.swap _ _ _).trans (this.cons a)
theorem Ef{α:Type}(next:Nat->Nat):∀(f k:Nat)(left:List α)(out:Array α),f=left.length->(pickOrder.go next f k left out).toList.Perm (out.toList++left)
 | 0,k,left,out,e=>by
  rw [SU e.symm];unfold pickOrder.go;simp
 | f+1,k,left,out,e=>by
  unfold pickOrder.go;have hlt:next k % left.length < left.length:=Nat.mod_lt _ Ce;rw [QY hlt];refine(Ef next f (k+1) _ _ (by rw [Ua hlt];omega)).trans ?_;rw [Vs,Uh];exact List.Perm.append_left _ (Ar hlt)
theorem KC{α:Type}(next:Nat->Nat)(xs:Array α):(Ye next xs).toList.Perm xs.toList:=by
 have:=Ef next xs.size 0 xs.toList #[] Wq;simpa [Ye] using this
section
variable {P:WH} {w:WJ} {A:WL} {E:Ws->Wv->Prop}
theorem Eg{α:Type}:∀(n:Nat)(xs:List α)(s:Wv)(Q:List α->Wv->Prop),n=xs.length->(∀ys d,ys.Perm xs->Q ys {s with drawn:=d})->Wx (Wy P w) A (drawOrder n xs) Q E s
 | 0,xs,s,Q,e,q=>by
  rw [SU e.symm] at q⊢;unfold drawOrder;exact Ww (q [] s.drawn (.refl _))
 | n+1,[],s,Q,e,q=>by cases e
 | n+1,x::xs,s,Q,e,q=>by
  unfold drawOrder;refine Wt ?_;intro Γ p hΓ;refine⟨Wq,?_⟩;generalize hi:(Wy P w).w.draws .order (s.drawn.get .order)% (x::xs).length=i;have hlt:i < (x::xs).length:=by rw [<-hi];exact Nat.mod_lt _ Wq
  have key:Wx (Wy P w) A (match (x::xs)[i]? with | some y=>(do return y::(<-drawOrder n ((x::xs).eraseIdx i))) | none=>unsupported "internal:drawOrder") Q E {s with drawn:=s.drawn.bump .order}:=by
   rw [QY hlt];refine Wt (Eg n _ _ _ (by rw [Ua hlt];simp at e⊢;omega) λys d hp=>Ww (q _ d ?_));exact(hp.cons _).trans (Ar hlt)
  exact key
end
def mq(h:WG)(it:Wu)(f:Ws)(i:Nat)(a:Wu)(n ep:Nat):Prop:=∃o,h.get? it=some o/\o.cls= .type "set_iterator"/\o.data= .fields #[f,.int i 0,.ref a,.int n 0,.int ep 0]
theorem mq.typeIs{s:Wv}{it f i a n ep}(x:mq s.heap it f i a n ep):s.TypeIs (.ref it) "set_iterator":=let ⟨o,h,c,_⟩:=x;⟨o,h,c⟩
section
variable {P:WH} {w:WJ} {A:WL} {E:Ws->Wv->Prop} {s:Wv} {a:Wu} {o:Obj} {es:Array (Int×Ws)} {ep:Nat} {t:XI}
theorem Ei{slot i:Nat}{Q:Option (Ws×Nat)->Wv->Prop}(hb:mn w=true)(o1:s.heap.get? a=some o)(d1:o.data= .set es ep t)(f1:t.fits es.size=true)
 (h:Q (((Ye (w.params.setOrder a ep) es)[i]?).map λe=>(e.2,slot)) s):Wx (Wy P w) A (XO a slot i ep) Q E s:=by
 unfold XO setWalk setsByText;refine Wt (Xk o1 d1 f1 (Wt (Wt (Xq (Ww ?_)))));rw [Wn (show(Wy P w).w.params.followText "set-order"=true from hb)];rw [Wm Wq];refine Wt (Wt (Xk o1 d1 f1 (Wt (Wt (Xq (Ww ?_))))));rw [Wn (show(Wy P w).w.params.followText "set-order"=true from hb)];exact Wt (Xq (Ww (Ww h)))
theorem Ej{slot i:Nat}{Q:Option (Ws×Nat)->Wv->Prop}(hb:mn w=false)(o1:s.heap.get? a=some o)(d1:o.data= .set es ep t)(f1:t.fits es.size=true)(hd:es.size<=1)(hl:t.led=true)
 (h:Q (match es[Tt t.place slot]?,t.place[Tt t.place slot]? with | some (_,x),some j=>some (x,j+1) | _,_=>none) s):Wx (Wy P w) A (XO a slot i ep) Q E s:=by
 unfold XO setsByText;refine Wt (Xk o1 d1 f1 (Wt (Wt (Xq (Ww ?_)))));rw [Wm (show ¬(Wy P w).w.params.followText "set-order"=true from by show ¬mn w=true;rw [hb];decide)];show Wx _ _ (if (!t.plain && decide (es.size > 1))=true then _ else _) _ _ _;rw [Wm (by simp;omega)];refine Wt (m:=if (!t.led && !es.isEmpty)=true then unsupported "set:maker-not-led" else pure ()) ?_;rw [Wm (by simp [hl])];exact Ww (Ww h)
theorem KD{it:Wu}{slot slot' i:Nat}{x:Ws}{Q:Option Ws->Wv->Prop}(hit:mq s.heap it (.int slot 0) i a es.size ep)(o1:s.heap.get? a=some o)(d1:o.data= .set es ep t)(f1:t.fits es.size=true)
 (nx:∀E' Q',Q' (some (x,slot')) s->Wx (Wy P w) A.in1 (XO a slot i ep) Q' E' s)
 (hQ:∀h',mq h' it (.int slot' 0) (i+1) a es.size ep->Sq it s.heap h'->Q (some x) {s with heap:=h'}):Wx (Wy P w) A (Xj (.ref it)) Q E s:=by
 obtain⟨u,u1,c1,e1⟩:=id hit;unfold Xj;refine Wt (XD (WS (name:=Pp "__next__") hit.typeIs nQ (WV nQ hit.typeIs uZ ?_ (va _))));unfold Builtin.«set_iterator.__next__»;refine Wt (m:=slotArgs _ _ _) (Ww (Wt (X7 u1 e1 ?_)));show Wx _ _ (setEntries a >>=_) _ _ s;refine Wt (Xt o1 d1 f1 ?_);rw [Wm Wq];show Wx _ _ (XO a ((slot:Int)).toNat ((i:Int)).toNat ((ep:Int)).toNat >>=_) _ _ s;simp only [Q7];refine Wt (nx _ _ ?_);show Wx _ _ (setField (.ref it) 0 (W9 (slot':Int)) >>=_) _ _ s;refine Wt (Xd u1 e1 Wq ?_);have g1:=Rk (U2 (·.setIfInBounds 0 (W9 (slot':Int)))) u1 (Sv (RF e1 _));have k1:=RF e1 (·.setIfInBounds 0 (W9 (slot':Int)));refine Wt (Xd g1 k1 Wq (Ww ⟨x,rfl,Ww (hQ _ ?_ ((Rz ..).trans (Rz ..)))⟩));refine⟨_,Rk _ g1 (Sv (RF k1 _)),(Tw ..).trans ((Tw ..).trans c1),?_⟩;rw [RF k1];simp [W9]
theorem KG{it pl:Wu}{i k:Nat}{hk:Int}{x:Ws}{ol:Obj}{ps:Array Ws}{nl:Nat}{Q:Option Ws->Wv->Prop}(hit:mq s.heap it (.ref pl) i a es.size ep)(o1:s.heap.get? a=some o)(d1:o.data= .set es ep t)(f1:t.fits es.size=true)
 (l1:s.heap.get? pl=some ol)(l2:ol.data= .seq ps nl)(p1:ps[i]?=some (.int (k:Int) 0))(x1:es[k]?=some (hk,x))
 (hQ:∀h',mq h' it (.ref pl) (i+1) a es.size ep->Sq it s.heap h'->Q (some x) {s with heap:=h'}):Wx (Wy P w) A (Xj (.ref it)) Q E s:=by
 obtain⟨u,u1,c1,e1⟩:=id hit;unfold Xj;refine Wt (XD (WS (name:=Pp "__next__") hit.typeIs nQ (WV nQ hit.typeIs uZ ?_ (va _))));unfold Builtin.«set_iterator.__next__»;refine Wt (m:=slotArgs _ _ _) (Ww (Wt (X7 u1 e1 ?_)));show Wx _ _ (setEntries a >>=_) _ _ s;refine Wt (Xt o1 d1 f1 ?_);rw [Wm Wq];show Wx _ _ (seqItems? (.ref pl) >>=_) _ _ s;refine Wt (W8 l1 l2 ?_);simp only [Q7,p1];refine Wt ?_;unfold setNextDrawn;refine Wt (Xk o1 d1 f1 ?_);simp only [Q7];rw [Wm Wq,x1];refine Ww (Wt (Xd u1 e1 Wq (Ww ⟨x,rfl,Ww (hQ _ ?_ (Rz ..))⟩)));refine⟨_,Rk _ u1 (Sv (RF e1 _)),(Tw ..).trans c1,?_⟩;rw [RF e1];simp [W9]
theorem KH{it:Wu}{slot i:Nat}{Q:Option Ws->Wv->Prop}(hh:A.handled=none)(hit:mq s.heap it (.int slot 0) i a es.size ep)(o1:s.heap.get? a=some o)(d1:o.data= .set es ep t)(f1:t.fits es.size=true)
 (nx:∀E' Q',Q' none s->Wx (Wy P w) A.in1 (XO a slot i ep) Q' E' s)
 (hQ:∀h',Vx it s.heap h'->Q none {s with heap:=h'}):Wx (Wy P w) A (Xj (.ref it)) Q E s:=by
 obtain⟨u,u1,c1,e1⟩:=id hit;unfold Xj;refine Wt (XD (WS (name:=Pp "__next__") hit.typeIs nQ (WV nQ hit.typeIs uZ ?_ (va _))));unfold Builtin.«set_iterator.__next__»;refine Wt (m:=slotArgs _ _ _) (Ww (Wt (X7 u1 e1 ?_)));show Wx _ _ (setEntries a >>=_) _ _ s;refine Wt (Xt o1 d1 f1 ?_);rw [Wm Wq];show Wx _ _ (XO a ((slot:Int)).toNat ((i:Int)).toNat ((ep:Int)).toNat >>=_) _ _ s;simp only [Q7];refine Wt (nx _ _ ?_);show Wx _ _ (setField (.ref it) 2 .none >>=_) _ _ s;refine Wt (Xd u1 e1 Wq ?_);refine Wt (m:=newExc (.type "StopIteration") []) ?_;simp only [newExc,newTuple];refine Wt (WQ ?_ (by size_fits));refine Wt (m:=Xz _ _) (XR (a:=RW) (by first | rfl | (simp only [Xz];rfl)) ?_);refine WQ ?_ (by size_fits);simp only [raiseNew];refine Wt (wpAny_handled ?_);rw [show A.in1.handled=none from hh];refine Wt (Ww (wpAny_throw ?_));refine Wt (XX (T:="StopIteration") (b:=true) ⟨_,Qa _ rfl,rfl⟩ isSubtype_stop ?_);exact Ww (hQ _ (((Rz ..).extBut.push _).push _))
theorem KI{it pl:Wu}{i:Nat}{ol:Obj}{ps:Array Ws}{nl:Nat}{Q:Option Ws->Wv->Prop}(hh:A.handled=none)(hit:mq s.heap it (.ref pl) i a es.size ep)(o1:s.heap.get? a=some o)(d1:o.data= .set es ep t)(f1:t.fits es.size=true)
 (l1:s.heap.get? pl=some ol)(l2:ol.data= .seq ps nl)(p1:ps[i]?=none)
 (hQ:∀h',Vx it s.heap h'->Q none {s with heap:=h'}):Wx (Wy P w) A (Xj (.ref it)) Q E s:=by
 obtain⟨u,u1,c1,e1⟩:=id hit;unfold Xj;refine Wt (XD (WS (name:=Pp "__next__") hit.typeIs nQ (WV nQ hit.typeIs uZ ?_ (va _))));unfold Builtin.«set_iterator.__next__»;refine Wt (m:=slotArgs _ _ _) (Ww (Wt (X7 u1 e1 ?_)));show Wx _ _ (setEntries a >>=_) _ _ s;refine Wt (Xt o1 d1 f1 ?_);rw [Wm Wq];show Wx _ _ (seqItems? (.ref pl) >>=_) _ _ s;refine Wt (W8 l1 l2 ?_);simp only [Q7,p1];show Wx _ _ (setField (.ref it) 0 (W9 0) >>=_) _ _ s;refine Wt (Xd u1 e1 Wq ?_);have g1:=Rk (U2 (·.setIfInBounds 0 (W9 0))) u1 (Sv (RF e1 _));have k1:=RF e1 (·.setIfInBounds 0 (W9 0));refine Wt (Xd g1 k1 Wq ?_);refine Wt (m:=newExc (.type "StopIteration") []) ?_;simp only [newExc,newTuple];refine Wt (WQ ?_ (by size_fits));refine Wt (m:=Xz _ _) (XR (a:=RW) (by first | rfl | (simp only [Xz];rfl)) ?_);refine WQ ?_ (by size_fits);simp only [raiseNew];refine Wt (wpAny_handled ?_);rw [show A.in1.handled=none from hh];refine Wt (Ww (wpAny_throw ?_));refine Wt (XX (T:="StopIteration") (b:=true) ⟨_,Qa _ rfl,rfl⟩ isSubtype_stop ?_);exact Ww (hQ _ ((((Rz ..).trans (Rz ..)).extBut.push _).push _))
end
theorem Ek:Slot "set_iterator" "__iter__" "set_iterator.__iter__":=
 .of (owner:="set_iterator") (n:="__iter__") (by rw [typeLookup_type,builtinLookup_eq_fast];kernel_rfl) td td td
  (by first | exact .inl td | exact .inr td) (by rw [isSubtype_type];kernel_rfl)
theorem KJ:entryFor table "set_iterator.__iter__"=some Builtin.«dict_keyiterator.__iter__»:=entryFor_alias (id':="dict_keyiterator.__iter__") (by kernel_rfl) rfl td (by kernel_rfl)
theorem KL(a:Ws):argsOk "set_iterator.__iter__" ⟨[a],[]⟩:=by
 unfold argsOk;rw [signature?_of (id:="set_iterator.__iter__") (n:=['_','_','r','e','t','i','_','_']) (o:=['r','o','t','a','r','e','t','i','_','t','e','s']) (by kernel_rfl) Ee];kernel_rfl
theorem mq.at{h h':WG}{it f i a n ep}(x:mq h it f i a n ep)(e:∀o,h.get? it=some o->h'.get? it=some o):mq h' it f i a n ep:=let ⟨o,ho,r⟩:=x;⟨o,e _ ho,r⟩
section
variable {P:WH} {w:WJ} {A:WL} {E:Ws->Wv->Prop} {s:Wv} {a:Wu} {o:Obj} {es:Array (Int×Ws)} {ep:Nat} {t:XI}
theorem El{it:Wu}{f:Ws}{i n:Nat}{Q:Ws->Wv->Prop}(hit:mq s.heap it f i a n ep)(h:Q (.ref it) s):Wx (Wy P w) A (pyIter (.ref it)) Q E s:=by
 refine wpAny_pyIter_slot hit.typeIs Ek (WV Ek hit.typeIs KJ ?_ (KL _));exact Wt (m:=slotArgs _ _ _) (Ww (Ww ⟨_,rfl,"set_iterator",_,hit.typeIs,nQ.lookup,h⟩))
theorem Em(hh:A.handled=none)(it:Wu)(hne:a≠it)(d1:o.data= .set es ep t)(f1:t.fits es.size=true)(vs:List Ws)(hl:vs.length=es.size)(sl:Nat->Nat)
 (nx:∀(s:Wv) (i:Nat) (h:i < vs.length) E' Q',s.heap.get? a=some o->Q' (some (vs[i],sl (i+1))) s->Wx (Wy P w) A.in1 (XO a (sl i) i ep) Q' E' s)
 (nd:∀(s:Wv) E' Q',s.heap.get? a=some o->Q' none s->Wx (Wy P w) A.in1 (XO a (sl es.size) es.size ep) Q' E' s):
 Walks P w A it [it,a] [it] es.size (λi v=>vs[i]?=some v) (λi h=>mq h it (.int (sl i:Nat) 0) i a es.size ep/\h.get? a=some o) where
 sub:=λb hb=>by rw [Q9] at hb;simp [hb]
 frame:=λ_ _ _ st hk=>⟨st.1.at λo e=>hk it Wq o e,hk a Wq o st.2⟩
 item:=λi s Q E hi st hQ=>by
  have hi':i < vs.length:=Ce
  refine KD st.1 st.2 d1 f1 (λE' Q' q=>nx s i hi' E' Q' st.2 q) λh' it' sb=>?_;exact hQ _ h' s.toks (by simp [hi']) ⟨it',by rw [sb.2 a hne];exact st.2⟩ λb u hb e=>sb.extBut b u (λz=>hb (by simp [z])) e
 done:=λs Q E st hQ=>KH hh st.1 st.2 d1 f1 (λE' Q' q=>nd s E' Q' st.2 q) λh' he=>hQ h' s.toks λb u hb e=>he b u (λz=>hb (by simp [z])) e
 self:=λ_ _ _ _ st hQ=>El st.1 hQ
theorem KN(hh:A.handled=none)(it pl:Wu)(hne:a≠it)(hnp:pl≠it)(d1:o.data= .set es ep t)(f1:t.fits es.size=true)(vs:List Ws)(ks:List Nat){ol:Obj}{nl:Nat}(l2:ol.data= .seq (ks.map λ(k:Nat)=>TL (k:Int) 0).toArray nl)
 (hl:ks.length=es.size)(hv:∀i k:Nat,ks[i]?=some k->∃h x,es[k]?=some (h,x)/\vs[i]?=some x):
 Walks P w A it [it,a,pl] [it] es.size (λi v=>vs[i]?=some v) (λi h=>mq h it (.ref pl) i a es.size ep/\h.get? a=some o/\h.get? pl=some ol) where
 sub:=λb hb=>by rw [Q9] at hb;simp [hb]
 frame:=λ_ _ _ st hk=>⟨st.1.at λo e=>hk it Wq o e,hk a Wq o st.2.1,hk pl Wq ol st.2.2⟩
 item:=λi s Q E hi st hQ=>by
  have hi':i < ks.length:=Ce
  obtain⟨h,x,e1,e2⟩:=hv i ks[i] (by simp [hi']);refine KG st.1 st.2.1 d1 f1 st.2.2 l2 (k:=ks[i]) (by simp [hi']) e1 λh' it' sb=>?_;exact hQ _ h' s.toks e2 ⟨it',by rw [sb.2 a hne];exact st.2.1,by rw [sb.2 pl hnp];exact st.2.2⟩ λb u hb e=>sb.extBut b u (λz=>hb (by simp [z])) e
 done:=λs Q E st hQ=>KI hh st.1 st.2.1 d1 f1 st.2.2 l2 (by simp [hl]) λh' he=>hQ h' s.toks λb u hb e=>he b u (λz=>hb (by simp [z])) e
 self:=λ_ _ _ _ st hQ=>El st.1 hQ
theorem En{j k:Nat}:Tt #[j] k=if j < k then 1 else 0:=by
 unfold Tt;show Vt #[j] k 1 0 1=_;simp [Vt]
theorem KO{ss:List Str}{Q:Ws->Wv->Prop}(hh:A.handled=none)(hS:kM P w s.heap a ss)
 (q:∀(I:Wu) (h1:WG) (d1:Drawn) (vs:List Ws) (fp wr:List Wu) (n:Nat) (St:Nat->WG->Prop),(∀b u,s.heap.get? b=some u->h1.get? b=some u)->(∃ss',W0 vs ss'/\ss'.Perm ss)->n=ss.length->
  Walks P w A I fp wr n (λi v=>vs[i]?=some v) St->St 0 h1->(∀b∈fp,b=a\/s.heap.objs.size<=b)->(∀b∈wr,s.heap.objs.size<=b)->vs.length=n->(∀b∈fp,b < h1.objs.size)->Q (.ref I) {s with heap:=h1,drawn:=d1}):
 Wx (Wy P w) A (pyIter (.ref a)) Q E s:=by
 obtain⟨o,o1,x1,es,ep,t,d1,el,⟨ss',s1,s2⟩,b1,f1,l1,p1⟩:=hS;have hT:s.TypeIs (.ref a) "set":=⟨o,o1,x1.1⟩;have la:a < s.heap.objs.size:=PQ o1;have ln:es.size=ss.length:=by rw [<-s2.length_eq,<-tK s1,PB,PY]
 refine wpAny_pyIter_slot hT UP (WV UP hT KA ?_ (PySem.F.args_set_iter_1 _));unfold Builtin.«frozenset.__iter__»;refine Wt (m:=Builtin.Frozenset.slot0 _ _) (Ww ?_);refine Wt (m:=Builtin.Frozenset.sizeOf a) (Wt (Xt o1 d1 f1 (Ww ?_)));refine Wt (m:=setDrawn a) ?_;unfold setDrawn setsByText;refine Wt (Xk o1 d1 f1 (Wt (Wt (Xq (Ww (Ww ?_))))));show Wx _ _ (if (!(mn w) && (!t.plain && decide (es.size > 1)))=true then _ else _) _ _ _;have lastly:∀(f:Ws)(h1:WG)(d:Drawn),h1.get? a=some o->(∀I h2,h2=h1.push {cls:= .type "set_iterator",data:= .fields #[f,.int (0:Nat) 0,.ref a,.int es.size 0,.int ep 0]}->I=h1.objs.size->Q (.ref I) {s with heap:=h2,drawn:=d})->
  Wx (Wy P w) A.in1 (setEpoch a >>=λe=>newFields "set_iterator" [f,W9 0,.ref a,W9 es.size,W9 e] >>=λv=>ret v)
   (λfin s'=>∃v,fin= .done (.ret v)/\∃T' r,s'.TypeIs v T'/\typeLookup (.type T') "__next__"=pure (some r)/\Q v s') E {s with heap:=h1,drawn:=d}:=by
  intro f h1 d e1 k;refine Wt (wpAny_setEpoch_of (s:={s with heap:=h1,drawn:=d}) e1 d1 f1 ?_);refine Wt (WQ (Ww ?_));exact⟨_,rfl,"set_iterator",_,⟨_,Qa _ rfl,rfl⟩,nQ.lookup,k _ _ rfl rfl⟩
 have szp:∀(h:WG)(ob:Obj),(h.push ob).objs.size=h.objs.size+1:=λ_ _=>RX _ _;have n0:a≠s.heap.objs.size:=QF la;by_cases hdr:(!(mn w) && (!t.plain && decide (es.size > 1)))=true
 ·rw [Wn hdr];refine Wt (Eg es.size (Rx es.size) s _ Wq λks d hp=>Wt (m:=newTuple _) (WQ ?_ ?_))
  ·have lk:ks.length=es.size:=by rw [hp.length_eq,SW]
   refine lastly _ (s.heap.push _) d (Py _ o1) λI h2 e2 eI=>?_;subst e2 eI;have k1:a≠(s.heap.push {cls:= .type "tuple",data:= .seq (ks.map λ(i:Nat)=>W9 i).toArray}).objs.size:=by rw [szp];exact QF (RL la)
   have k2:s.heap.objs.size≠(s.heap.push {cls:= .type "tuple",data:= .seq (ks.map λ(i:Nat)=>W9 i).toArray}).objs.size:=by rw [szp];exact QF (Sk _)
   have pm:(ks.map λk=>((es[k]?).map (·.2)).getD .none).Perm (es.toList.map (·.2)):=by
    refine(hp.map _).trans (.of_eq ?_);apply VC Wq;intro i a b;simp at a b⊢;rw [Te a];rfl
   obtain⟨ss2,q3,q4⟩:=uY pm s1;refine q _ _ d _ _ _ es.size _ (λb u e=>Py _ (Py _ e)) ⟨ss2,q3,q4.trans s2⟩ ln
    (KN hh _ _ k1 k2 d1 f1 _ ks rfl lk (λi k e=>?_)) ⟨⟨_,Qa _ rfl,rfl,rfl⟩,Py _ (Py _ o1),Py _ (Qa _ rfl)⟩ (λb hb=>?_) (λb hb=>?_) (by simp [lk]) (λb hb=>?_)
   ·have hk:k < es.size:=by
     have:=hp.mem_iff.mp (Rp e);simpa using this
    refine⟨es[k].1,es[k].2,by simp [hk],?_⟩;rw [Ru,e];simp [hk]
   ·simp only [Pz,PV,or_false] at hb;rcases hb with rfl | rfl | rfl
    ·right;rw [szp];exact SD _
    ·left;rfl
    ·right;exact PL _
   ·rw [Q9] at hb;rw [hb,szp];exact SD _
   ·simp only [Pz,PV,or_false] at hb;rw [szp,szp];rcases hb with rfl | rfl | rfl
    ·rw [szp];exact Sk _
    ·exact RL (RL la)
    ·exact RL (Sk _)
  ·unfold sizeOk;simp [hp.length_eq];have:Xx=4096:=rfl;have:WA=16777216:=by first | rfl | exact WI
   omega
 ·rw [Wm hdr];refine Wt (Ww ?_);have e0:s={s with heap:=s.heap,drawn:=s.drawn}:=by cases s;rfl
  show Wx _ _ _ _ _ {s with heap:=s.heap,drawn:=s.drawn};refine lastly _ s.heap s.drawn o1 λI h2 e2 eI=>?_;subst e2 eI;have fpa:∀b∈[s.heap.objs.size,a],b=a\/s.heap.objs.size<=b:=λb hb=>by
   simp only [Pz,PV,or_false] at hb;rcases hb with rfl | rfl
   ·right;exact PL _
   ·left;rfl
  have wra:∀b∈[s.heap.objs.size],s.heap.objs.size<=b:=λb hb=>by rw [Q9] at hb;rw [hb];exact PL _
  have fpl:∀(ob:Obj),∀b∈[s.heap.objs.size,a],b < (s.heap.push ob).objs.size:=λob b hb=>by
   rw [szp];simp only [Pz,PV,or_false] at hb;rcases hb with rfl | rfl
   ·exact Sk _
   ·exact RL la
  cases hb:mn w with
  | true=>
   have pm:=KC (w.params.setOrder a ep) es;obtain⟨ss2,q3,q4⟩:=uY (pm.map (·.2)) s1;have lp:((Ye (w.params.setOrder a ep) es).toList.map (·.2)).length=es.size:=by rw [PB,pm.length_eq,PY]
   refine q _ _ s.drawn _ _ _ es.size _ (λb u e=>Py _ e) ⟨ss2,q3,q4.trans s2⟩ ln
    (Em hh _ n0 d1 f1 _ lp (λ_=>0) (λs i hi E' Q' g z=>Ei hb g d1 f1 ?_) (λs E' Q' g z=>Ei hb g d1 f1 ?_)) ⟨⟨_,Qa _ rfl,rfl,rfl⟩,Py _ o1⟩ fpa wra lp (fpl _)
   ·have hi':i < (Ye (w.params.setOrder a ep) es).size:=by rw [<-PY,<-PB (f:=(·.2))];exact hi
    rw [Te hi'];simpa using z
   ·have:(Ye (w.params.setOrder a ep) es).size=es.size:=by rw [<-PY,pm.length_eq,PY]
    rw [TH Ce];exact z
  | false=>
   have hled:t.led=true:=by
    rcases l1 with l1 | l1
    ·rw [hb] at l1;cases l1
    ·exact l1
   have hsz:es.size<=1:=by
    rcases Vg 1 es.size with z | z
    ·exfalso;apply hdr;rw [hb,p1 Ce];simpa using z
    ·exact z
   have hpl:t.place.size=es.size:=by
    simp only [SetTable.fits,P6,beq_iff_eq] at f1;exact f1.1
   have lp:(es.toList.map (·.2)).length=es.size:=by rw [PB,PY]
   refine q _ _ s.drawn _ _ _ es.size _ (λb u e=>Py _ e) ⟨ss',s1,s2⟩ ln
    (Em hh _ n0 d1 f1 _ lp (λi=>if i=0 then 0 else t.place.getD 0 0+1) (λs i hi E' Q' g z=>Ej hb g d1 f1 hsz hled ?_) (λs E' Q' g z=>Ej hb g d1 f1 hsz hled ?_)) ⟨⟨_,Qa _ rfl,rfl,rfl⟩,Py _ o1⟩ fpa wra lp (fpl _)
   ·have i0:i=0:=Ce
    subst i0;have h1:es.size=1:=Ce
    obtain⟨j,hj⟩:∃j,t.place=#[j]:=by
     have:t.place.toList.length=1:=by rw [PY];omega
     match hq:t.place.toList,this with
     | [j],_=>exact⟨j,by rw [<-UY (xs:=t.place),hq]⟩
    rw [hj] at z⊢;rw [Wn rfl,En,Wm Ce];have:es[0]?=some es[0]:=by simp [h1]
    rw [this];simpa using z
   ·have hn:es[Tt t.place (if es.size=0 then 0 else t.place.getD 0 0+1)]?=none:=by
     by_cases h0:es.size=0
     ·rw [TH Ce]
     ·have h1:es.size=1:=Ce
      obtain⟨j,hj⟩:∃j,t.place=#[j]:=by
       have:t.place.toList.length=1:=by rw [PY];omega
       match hq:t.place.toList,this with
       | [j],_=>exact⟨j,by rw [<-UY (xs:=t.place),hq]⟩
      rw [hj,Wm h0,En,Wn Wq];rw [TH Ce]
    rw [hn];exact z
end
section
variable {P:WH} {w:WJ} {A:WL} {E:Ws->Wv->Prop} {s:Wv} {a:Wu}
theorem KP{Q:Bool->Wv->Prop}(hT:s.TypeIs (.ref a) "set")(h:Q false s):Wx (Wy P w) A (T2 (.ref a)) Q E s:=by
 unfold T2;refine Wt (wpAny_specialOf hT PySem.F.slot_set_len.lookup ?_);generalize hid:("set.__len__":String)=id0
 wp_delta
 rw [show splitId id0=some ("set","__len__") from by subst hid;decide+kernel];subst hid;refine Wt (XX (T:="set") (b:=true) hT (by rw [isSubtype_type];kernel_rfl) ?_);refine X5 (λz=>absurd z tx) (λ_=>?_);refine X5 (λ_=>?_) (λz=>absurd td z);exact Wt (X4 hT (Ww h))
theorem KQ{ss:List Str}{R:Yc->Wv->Prop}(hh:A.handled=none)(hS:kM P w s.heap a ss)(S:Wu)(hSa:S≠a)(res:Ws)(c₀:Nat)(l1:s.heap.get? S=some {cls:= .type "list",data:= .seq #[] c₀})(hn:ss.length<=4096)
 (hR:∀h' tk d acc c',(∀b u,b≠S->s.heap.get? b=some u->h'.get? b=some u)->h'.get? S=some {cls:= .type "list",dict:=none,data:= .seq acc c',slots:=#[]}->(∃ss',W0 acc.toList ss'/\ss'.Perm ss)->R (.ok (.ret res)) {s with heap:=h',toks:=tk,drawn:=d}):
 Wx (Wy P w) A.in1 (T3 (.ref S) (.ref a) res)
  (λfin s'=>match fin with | .done f=>R (.ok f) s' | .again c'=>c'.quiet=true/\Xo (Wy P w) A c' R s') (λe s'=>R (.error e) s') s:=by
 obtain⟨o,o1,x1,rest⟩:=id hS;have hT:s.TypeIs (.ref a) "set":=⟨o,o1,x1.1⟩;have lS:S < s.heap.objs.size:=PQ l1;unfold T3;refine Wt (X4 hT ?_);have e1:Ut (.ref S) (.ref a)=false:=by simp [Ut,hSa]
 have e2:(S7 "set"==S7 "list")=false:=tx
 have e3:(S7 "set"==S7 "tuple")=false:=tx
 simp only [e1,e2,e3,QB,PZ,if_false];refine Wt (KO (A:=A.in1) hh hS λI h1 d1 vs fp wr n St k1 sv en W st hf hw hlv hfl=>?_);have nf:S ∉ fp:=λz=>by
  rcases hf S z with e | e
  ·exact hSa e
  ·exact absurd lS (Nat.not_lt.mpr e)
 have key:∀(h:WG)(c₁ tk:Nat),St 0 h->(∀b u,b≠S->s.heap.get? b=some u->h.get? b=some u)->
  h.get? S=some {cls:= .type "list",data:= .seq #[] c₁}->Xo (Wy P w) A (.builtin "list.extend.loop" ⟨[.ref S,.ref I,res],[]⟩) R {s with heap:=h,toks:=tk,drawn:=d1}:=by
  intro h c₁ tk hst hk g;refine codeAny_extend_loopS W.toS (Qt (by omega:n<=4096) tx) S nf res n 0 _ #[] c₁ rfl (Rt _) hst g (ItemsOf.nil _) λs' acc c' m gq hacc=>?_;obtain⟨h',g',d',tk',os'⟩:=s';obtain rfl:g'=s.gens:=m.gens;obtain rfl:d'=d1:=m.drawn;obtain rfl:os'=s.os:=m.os;refine hR h' tk' d' acc c' (λb u hb e=>m.heap b u (λz=>?_) (hk b u hb e)) gq ?_
  ·rcases Pz.mp z with e' | z
   ·exact hb e'
   ·exact absurd (PQ e) (Nat.not_lt.mpr (hw b z))
  ·have ea:acc.toList=vs:=by
    apply List.ext_getElem?;intro i;rcases Vg i n with z | z
    ·have hz:i < acc.size:=by rw [hacc.1];exact z
     have:acc[i]?=some acc[i]:=Te hz;rw [UO,this,hacc.2 i _ this]
    ·rw [Sd (by rw [PY,hacc.1];exact z),Sd Ce]
   rw [ea];exact sv
 have g1:=k1 S _ l1;refine Wt (WX (KP (s:={s with heap:=h1,drawn:=d1}) ⟨o,k1 a o o1,x1.1⟩ ?_));refine X5 (λ_=>?_) (λ_=>Ww ⟨XS Um _,key _ c₀ _ st (λb u _ e=>k1 b u e) g1⟩);refine Wt (XA (Wt ?_));show Wx _ _ (updateSeq S (·.push .none) >>=λ_=>updateSeq S (·.pop)) _ _ {s with heap:=h1,drawn:=d1};refine Wt (wpAny_updateSeq g1 rfl ?_);have g2:=Rk (Tr (·.push RW)) g1 rfl;refine wpAny_updateSeq (hz:=by seq_fits) g2 rfl ?_;have g3:=Rk (Tr (·.pop)) g2 rfl;refine Ww ⟨XS Um _,key _ _ _ (W.frame 0 _ _ st λb hb u e=>?_) (λb u hb e=>?_) g3⟩
 ·have hbS:b≠S:=λz=>nf (z▸hb);exact(RG _ _ (Ne.symm hbS)).trans ((RG _ _ (Ne.symm hbS)).trans e)
 ·exact(RG _ _ (Ne.symm hb)).trans ((RG _ _ (Ne.symm hb)).trans (k1 b u e))
theorem KR{ss:List Str}{R:List Ws->Wv->Prop}(hh:A.handled=none)(hS:kM P w s.heap a ss)(hn:ss.length<=4096)
 (h:∀(h':WG) (tk:Nat) (d:Drawn) (vs:List Ws),(∀b u,s.heap.get? b=some u->h'.get? b=some u)->(∃ss',W0 vs ss'/\ss'.Perm ss)->R vs {s with heap:=h',toks:=tk,drawn:=d}):
 Wx (Wy P w) A (collect (.ref a)) R E s:=by
 have la:a < s.heap.objs.size:=by obtain⟨o,o1,_⟩:=id hS;exact PQ o1
 unfold collect;refine Wt (wpAny_runValue (Xh entry_proto_collect' ?_));rw [SA PySem.F.plain_proto_collect _];refine Wt (m:=newList []) (WQ ?_);refine Ww ⟨XS Ux _,Xh entry_list_iadd' ?_⟩;rw [SA Ux _];have g1:(s.heap.push {cls:= .type "list",data:= .seq ([]:List Ws).toArray}).get? s.heap.objs.size=some {cls:= .type "list",data:= .seq #[]}:=Qa _ rfl;have key:=KQ (A:=A) (s:={s with heap:=s.heap.push {cls:= .type "list",data:= .seq ([]:List Ws).toArray}})
  (R:=λ(q:Yc) (s':Wv)=>∃(h':WG)(tk:Nat)(d:Drawn)(acc:Array Ws)(c':Nat),q= .ok (.ret (.ref s.heap.objs.size))/\s'={s with heap:=h',toks:=tk,drawn:=d}/\
   (∀b u,s.heap.get? b=some u->h'.get? b=some u)/\h'.get? s.heap.objs.size=some {cls:= .type "list",dict:=none,data:= .seq acc c',slots:=#[]}/\(∃ss',W0 acc.toList ss'/\ss'.Perm ss))
  hh (hS.stay λu e=>Py _ e) s.heap.objs.size (Sr la) (.ref s.heap.objs.size) 0 g1 hn
  (λh' tk d acc c' hk g' hacc=>⟨h',tk,d,acc,c',rfl,rfl,λb u e=>hk b u (QF (PQ e)) (Py _ e),g',hacc⟩)
 refine WR key (λfin s' x=>?_) λe s' x=>?_
 ·cases fin with
  | done f=>
   obtain⟨h',tk,d,acc,c',e,rfl,hk,g',hacc⟩:=x;cases e;exact Wt (m:=load s.heap.objs.size) (wpAny_load g' (Ww (h h' tk d acc.toList hk hacc)))
  | again c₁=>
   refine⟨x.1,Xe x.2 λq s₂ y=>?_⟩;obtain⟨h',tk,d,acc,c',rfl,rfl,hk,g',hacc⟩:=y;exact Wt (m:=load s.heap.objs.size) (wpAny_load g' (Ww (h h' tk d acc.toList hk hacc)))
 ·obtain⟨_,_,_,_,_,e',_⟩:=x;cases e'
theorem KS{ss:List Str}{Q:Ws->Wv->Prop}(hh:A.handled=none)(hS:kM P w s.heap a ss)(hn:ss.length < 64)
 (h:∀(h' h2:WG) (tk:Nat) (d:Drawn) (out:Array Ws) (e:Nat) (ss':List Str),(∀b o,s.heap.get? b=some o->h'.get? b=some o)->(∀b o,h'.get? b=some o->h2.get? b=some o)->h2.get? h'.objs.size=some (seqObj "list" out e)->W0 out.toList ss'->ss'.Perm ss->sortedS ss'=true->Q (.ref h'.objs.size) {s with heap:=h2,toks:=tk,drawn:=d}):
 Wx (Wy P w) A (call (.builtin "sorted") [.ref a]) Q E s:=by
 refine Calls.call_function_entry kind_sorted plain_sorted entry_sorted (args_sorted1 _) ?_;unfold Builtin.«sorted»;refine Wt (m:=checkCount "sorted" 1 1 _) (Ww ?_);refine Wt (KR (A:=A.in1) hh hS Ce λh' tk d vs hk ⟨s1,sv,sp⟩=>?_);have hl:vs.length=ss.length:=by rw [tK sv,sp.length_eq]
 refine Wt (wpAny_newList ?_);have hoL:(h'.push (seqObj "list" vs.toArray 0)).get? h'.objs.size=some (seqObj "list" vs.toArray 0):=Qa _ rfl;refine Wt (WX (WV slot_list_sort ⟨_,hoL,rfl⟩ entry_list_sort (list_sort_treeK (s:={s with heap:=h'.push (seqObj "list" vs.toArray 0),toks:=tk,drawn:=d}) strKind_oneLt hoL sv.keysOf (λv₁ v₂ rest e=>keyKind_strs (by rw [<-e];exact sv)) (by rw [hl];exact hn) λst' a1 a2=>⟨_,rfl,?_⟩) (args_list_sort _)));obtain⟨ss',h1,h2,h3⟩:=sorted_out_str sv a1 a2;obtain⟨e,he⟩:=sortedHeap_at (n:=0) (vs:=vs) (out:=(arrOf st').map (·.2)) hoL;refine Ww ⟨_,rfl,h h' _ tk d _ e ss' hk (λb o q=>?_) he h1 (h2.trans sp) h3⟩;have hlt:b < h'.objs.size:=PQ q;rw [sortedHeap_old (QF hlt) (by rw [size_push'];exact RL hlt),Heap.get?_push_ne _ _ _ (QF hlt)];exact q
end
def As(P:WH)(w:WJ)(a:Wu)(ss:List Str):HO:= .ext λh=>kM P w h a ss
theorem ag.drw{X:Cx}{Yn:List (Wu×Obj)}{σ:List (Option V)}{H:Hp}{s:Wv}{d:Drawn}(I:ag X Yn σ H s):ag X Yn σ H {s with drawn:=d}:=⟨I.ok,I.os,I.bare,I.base,I.loc,I.cell,I.free,I.freeC,I.pin,I.hok,I.len⟩
theorem KU{X:Cx}:kA X (.type "set") (λxs H Q=>X.calm=true/\∃(p:Wu)(ss:List Str),xs=[.ref p]/\bf X.K H p (ss.map V.str)/\ss.length < 64/\∀l,H l=none->Q (.ref l) (ao H l (As X.prog X.w l (ss.foldl kC [])))):=by
 intro Yn s σ H xs us Q I r h;obtain⟨hc,p,ss,rfl,hq,h64,q⟩:=h;obtain⟨u,rfl,rx⟩:=lh r;cases rx;obtain⟨its,rv,pl,hz⟩:=I.list hq;have hlen:=rv.length;rw [PB] at hlen;refine Kz (I.ok.hd hc) pl.isList (by simpa using Ag rv) (by have:Xx=4096:=rfl;simp;omega) λh' tk S' k'=>?_;refine⟨.ref _,_,I.laid (t':=tk) (o:=As X.prog X.w _ (ss.foldl kC [])) k' (PL _) ?_,rfl,q _ (I.hok.fresh (PL _))⟩;obtain⟨o,e,_⟩:=id S';exact⟨S',⟨o,e⟩,λh1 h2 x k=>x.stay k⟩
theorem KW{X:Cx}:kA X (.builtin "sorted") (λxs H Q=>X.calm=true/\∃(a:Wu)(ss:List Str),xs=[.ref a]/\H a=some (As X.prog X.w a ss)/\ss.length < 64/\∀l,H l=none->Q (.ref l) (ao H l (.lst ((kX ss).map V.str)))):=by
 intro Yn s σ H xs us Q I r h;obtain⟨hc,a,ss,rfl,ha,h64,q⟩:=h;obtain⟨u,rfl,rx⟩:=lh r;cases rx;obtain⟨hS,_⟩:=I.hok a _ ha;refine KS (I.ok.hd hc) hS h64 λh' h2 tk d out e ss' k1 k2 at2 s1 s2 s3=>?_;have es:ss'=kX ss:=Af s2 (Dz _ s3);subst es;have hl2:(kX ss).length=ss.length:=s2.length_eq;have I1:ag X Yn σ H {s with heap:=h',toks:=tk,drawn:=d}:=(I.kept (t':=tk) k1).drw;refine⟨.ref _,_,I1.laid (t':=tk) (o:= .lst ((kX ss).map V.str)) k2 (PL _) ?_,rfl,q _ (I1.hok.fresh (PL _))⟩;refine⟨by rw [PB,hl2];exact Qt (SX h64) tx,out.toList,e,Ah s1,?_⟩;rw [at2]
theorem Eo:∀(l ss:List Str),(l.foldl kC ss).length<=ss.length+l.length
 | [],ss=>by simp
 | a::l,ss=>by
  have:=Eo l (kC ss a);have h:(kC ss a).length<=ss.length+1:=by unfold kC;split <;> simp
  simp only [R4,Pu];omega
theorem KY:WO "set"=some (.type "set"):=td
section
variable {X:Cx} {H0:Hp} {O0:Ex}
def fH(t:DA):DA:=λδ Q=>t δ λds=>∃ss:List Str,ds=[.list (ss.map .str)]/\ss.length < 64/\Q ((kX (ss.foldl kC [])).map .str)
theorem KZ{a:WC}{t:DA}{np p np' p':Pos}(hc:X.calm=true)(hg:Gl X "sorted")(hm:X.mg "sorted"=none)(hv:WO "sorted"=some (.builtin "sorted"))(hg':Gl X "set")(hm':X.mg "set"=none)(ha:PA X [a] (mD X.K H0 O0 t))
 (he:WB [a] X.env=(false,eval a X.env)::WB [] X.env:=by rfl)(hpl:(WU p' (WB [] X.env)).any (·.1)=false:=by rfl)
 (he':WB [.Call (.Name "set" np') [a] [] p'] X.env=(false,eval (.Call (.Name "set" np') [a] [] p') X.env)::WB [] X.env:=by rfl)(hpl':(WU p (WB [] X.env)).any (·.1)=false:=by rfl):
 FE X H0 O0 (.Call (.Name "sorted" np) [.Call (.Name "set" np') [a] [] p'] [] p) (fH t):=
 (aR KW hg hm hv (aQ (cf KU hg' hm' KY ha (he:=he) (hpl:=hpl)) bJ he') (he:=he') (hpl:=hpl')).imp λσ H Q ⟨O,δ,Qd,w,q,k⟩=>⟨O,δ,_,w,q,λds vs H1 uu10 s1 r1=>by
  obtain⟨ss,e,h64,q1⟩:=uu10;subst e;cases r1 with
  | cons h r=>
   cases r;obtain⟨a,us,rfl,h1,d1⟩:=h.lst;cases d1.strs;refine⟨hc,a,ss,rfl,h1,h64,λl hl=>⟨hc,l,_,rfl,bu,by have:=Eo ss [];simp at this;omega,λl2 hl2=>?_⟩⟩;exact k _ _ _ _ q1 (s1.trans (aq.new hl)) hl2 (au.ofStrs _)⟩
def jB(i:Nat)(t:DA):DS:=λE δ=>∃ds,δ[i]?=some (some (.o ds))/\t δ λes=>ds.length+es.length<=WA/\E.nx (δ.set i (some (.o (ds++es))))
end
theorem au.intsL{K:Pq}{H:Hp}{O:Ex}:∀{ns:List Int}{vs:List V},au K H O vs (ns.map PN)->vs=ns.map V.int
 | [],_,r=>by rw [Qc] at r;cases r;rfl
 | b::bs,_,r=>by
  rw [Pw] at r;cases r with
  | cons h r=>cases h;rw [Pw,au.intsL r]
def jC:List Wr->(Wr->Prop)->Prop:=λds Q=>∃ns:List Int,ds=[.list (ns.map .int)]/\ns≠[]/\∀M,M∈ns->(∀a∈ns,a<=M)->Q (.int M)
section
variable {X:Cx} {H0:Hp} {O0:Ex}
def jD(i:Nat)(dg:DG)(tb:DS):DS:=λE δ=>∃kd,δ[i]?=some (some (.k kd))/\pz dg tb E (kd.map λp=>pH p.1) (δ.set i none)
end
def cZ:List (DT×DT)->Dl->(List (Wr×Wr)->Prop)->Prop
 | [],_,Q=>Q []
 | (a,b)::r,δ,Q=>a δ λx=>b δ λy=>cZ r δ λps=>Q ((x,y)::ps)
section
variable {X:Cx} {H0:Hp} {O0:Ex}
def jE(trs:List (DT×DT)):tJ:=λδ Q=>cZ trs δ λps=>∃kd:List (bp×Wr),ps=kd.map (λp=>(pH p.1,p.2))/\kd.length<=15/\(∀p∈kd,cH p.2=true)/\Q (kd.foldl (λa p=>D7 a p.1 p.2) [])
def jF(i j k:Nat)(t:DA):DS:=λE δ=>t δ λds=>∃x y z,ds=[x,y,z]/\E.nx (((δ.set i (some (.v x))).set j (some (.v y))).set k (some (.v z)))
end
def Au(p q:Int×Str):Bool:=decide (p.1 < q.1) || (decide (p.1=q.1) && decide (p.2.cps.toList < q.2.cps.toList))
section
variable {X:Cx} {Yn:List (Wu×Obj)} {σ:St} {H:Hp} {s:Wv}
theorem ag.track{o:HO}{D:Wu}{ch:List Wu}{t':Nat}{h':WG}(I:ag X Yn σ H s)(hD:D∈ch)(f:∀b∈ch,mN X Yn H b)(k:∀b u,b ∉ ch->s.heap.get? b=some u->h'.get? b=some u)(new:bI X.prog X.w (ao H D o) h' D o):ag X Yn σ (ao H D o) {s with heap:=h',toks:=t'}:=by
 have nC:∀b u,H b=some u->b ∉ ch:=λb u e z=>by rw [(f b z).1] at e;cases e
 have nD:∀b u,H b=some u->b≠D:=λb u e z=>nC b u e (by rw [z];exact hD);refine I.step (g':=s.gens) (d':=s.drawn) (ch:=ch) (λb hb=>?_) (λb o _ _ hc e _=>k b o hc e) (λb o _ _ hc e _=>⟨o.slots,k b o hc e⟩) (λb o hc _ n=>by rw [ay (λz=>hc (by rw [z];exact hD))];exact n)
  (λb o hc e=>⟨o,k b o hc e⟩) (λb xs e=>by rw [ay (nD _ _ e)];exact e) (λb u xs e=>by rw [ay (nD _ _ e)];exact e) (λb ps e=>⟨#[],by rw [ay (nD _ _ e),e];simp⟩) (λm hm=>hm.at' λo e=>k _ o (λz=>(f _ z).2.1 rfl) e) (λb u e=>?_) I.bare
 ·obtain⟨f0,f1,f2,f3,f4,f5⟩:=f b hb;exact⟨f3,f1,f4,f5⟩
 ·by_cases hb:b=D
  ·subst hb;rw [bu] at e;cases e;exact new
  ·rw [ay hb] at e;refine(I.hok b u e).stay (λc v hc q=>k c v (λz=>?_) q) (λc q=>by rw [ay (nD _ _ q)];exact q) (λc xs q=>by rw [ay (nD _ _ q)];exact q) (λc xs q=>by rw [ay (nD _ _ q)];exact q);rcases hc with r | r
   ·subst r;exact nC _ _ e z
   ·exact nC _ _ r z
def tL(p:Int×Str):Wr:= .tuple [.int p.1,.str p.2]
end
section
variable {X:Cx} {H0:Hp} {O0:Ex}
def jG(t:DA):DA:=λδ Q=>t δ λds=>∃ps:List (Int×Str),ds=[.list (ps.map tL)]/\ps.length < 64/\ps.Nodup/\∀ps':List (Int×Str),ps'.Perm ps->ps'.Pairwise (λa b=>Au a b=true)->Q (ps'.map tL)
def jH(F:List Wr->(Wr->Prop)->Prop)(kf:Wr->Int×Str)(t:DA):DA:=λδ Q=>t δ λds0=>∃ds,ds0=[.list ds]/\(∀d∈ds,∀R:Wr->Prop,R (tL (kf d))->F [d] R)/\ds.length < 64/\(ds.map kf).Nodup/\∀ds',ds'.Perm ds->ds'.Pairwise (λa b=>Au (kf a) (kf b)=true)->Q ds'
end
section
open PySem.SeqAt
open PySem.AutoSeq1 (wpAny_loadPart')
open PySem.MeetsSeq PySem.MeetsSeq2 PySem.MeetsSeq3
end
def jI:Wr->Wr->(Wr->Prop)->Prop:=λx y Q=>∃p q:Int×Str,x=tL p/\y=tL q/\Q (.bool (Au p q))
section
variable {X:Cx} {H0:Hp} {O0:Ex}
def K0(tc:DB)(tb:DS):DS:=λE δ=>∃W:Nat->Dl->Prop,(∃m,W m δ)/\∀m δ,W m δ->tc δ λb=>if b=true then tb {E with nx:=λδ'=>∃m',m' < m/\W m' δ',ct:=λδ'=>∃m',m' < m/\W m' δ',bk:=E.nx} δ else E.nx δ
theorem Av{c:WC}{body:List WK}{tc:DB}{tb:DS}{pos:Pos}(hp:XH (Wy X.prog X.w) X.A X.env X.xe)(hc:PT X c (cQ X.K H0 O0 tc))(hb:bG X body (cg X.K H0 O0 tb)):PS X (.While c body [] pos) (cg X.K H0 O0 (K0 tc tb)):=
 (B3 hp hc hb).imp λD σ H uu11=>by
  obtain⟨O,δ,E,w,⟨W,⟨m0,w0⟩,st⟩,k1,k2,k3,k4⟩:=uu11;refine⟨λm σ' H'=>∃O' δ',Wd X.K H0 O0 H' O' σ' δ'/\aT H H' O O'/\W m δ',⟨m0,O,δ,w,aT.refl _ _,w0⟩,λm σ1 H1 ⟨O1,δ1,w1,S1,q1⟩=>⟨O1,δ1,_,w1,st m δ1 q1,λb H2 q2 s2=>?_⟩⟩;cases b with
  | false=>
   rw [Wm Wq] at q2⊢;exact k1 O1 δ1 σ1 H2 q2 (w1.mono s2) (S1.trans (.same s2))
  | true=>
   rw [Wn rfl] at q2⊢;refine⟨λσ' H'=>∃O' δ' m',m' < m/\Wd X.K H0 O0 H' O' σ' δ'/\aT H H' O O'/\W m' δ',λσ' H' uu13=>by obtain⟨O',δ',m',lt,w',S',q'⟩:=uu13;exact⟨m',lt,O',δ',w',S',q'⟩,O1,δ1,_,w1.mono s2,q2,?_,k2,?_,?_⟩
   ·rintro O' δ' σ' H' ⟨m',lt,q'⟩ w' S';exact⟨O',δ',m',lt,w',S1.trans ((aT.same s2).trans S'),q'⟩
   ·intro O' δ' σ' H' q' w' S';exact k1 O' δ' σ' H' q' w' (S1.trans ((aT.same s2).trans S'))
   ·rintro O' δ' σ' H' ⟨m',lt,q'⟩ w' S';exact⟨O',δ',m',lt,w',S1.trans ((aT.same s2).trans S'),q'⟩
abbrev Ep(ks:List Str)(ds:List Wr):Wr:=C5 (ks.map .str) ds
def jJ(i:Nat)(t:DS):DS:=λE δ=>∃kd,δ[i]?=some (some (.k kd))/\∃ks:List Str,kd.map (·.1)=ks.map Tp/\t E (δ.set i (some (.v (Ep ks (kd.map (·.2))))))
def Aw:List Str->List Wr->Str->Option Wr
 | k::ks,d::ds,z=>if k=z then some d else Aw ks ds z
 | _,_,_=>none
def jK(to tk:DT):DT:=λδ Q=>to δ λx=>∃ks ds,x=Ep ks ds/\tk δ λy=>∃z,y= .str z/\∃d,Aw ks ds z=some d/\Q d
def jL(to t:DT):DT:=λδ Q=>to δ λx=>∃ss:List Str,x= .list (ss.map .str)/\t δ λy=>∃z,y= .str z/\z∈ss/\Q (.int (ss.idxOf z:Nat))
def jM(t:DA):DA:=λδ Q=>t δ λds=>∃n k:Int,ds=[.int 0,.int n,.int k]/\0<=n/\n < 1000/\0 < k/\k < 1000/\∀js:List Int,(∀j∈js,0<=j/\j < n)->js.length<=1000->Q (js.map .int)
def jN(t:DT)(g:DG)(tc:DB)(te:DT)(k:Nat)(fr:List Nat):DA:=λδ Q=>cO t g tc te k fr δ Q\/cV t g tc te k fr δ Q
end
theorem K1{fr:List Nat}{σ:St}{v u:Option V}:pf (bF 2 fr σ) (((bF 2 fr σ).set 0 v).set 1 u):=by
 refine⟨Wq,λi w h=>?_⟩
 match i with
 | 0=>simp [bF,PH] at h
 | 1=>simp [bF,PH] at h
 | i+2=>simpa [bF,PH] using h
theorem K2{K:Pq}{n:Nat}:oB (sA K n (qL (nh 0) (qL (nh 1) sr))) 2:=λfr σ v H' R uu14=>by obtain⟨a,xs,e,h1,h2,x,r,e1,y,r2,e2,e3,h⟩:=uu14;exact⟨a,xs,e,h1,h2,x,r,e1,y,r2,e2,e3,K1,h⟩
section
variable {X:Cx} {H0:Hp} {O0:Ex}
theorem mJ{T:String}{a c:WC}{t:DT}{np p:Pos}{K':Pq}(hK:X.K=K')(hg:Gl X "isinstance")(hm:X.mg "isinstance"=none)(hv:WO "isinstance"=some (.builtin "isinstance"))(ha:DF X H0 O0 a t)(hc:PE X c (tC (.ty T)))
 (hs:WB [a,c] X.env=(false,eval a X.env)::WB [c] X.env:=by rfl)(hs2:WB [c] X.env=[(false,eval c X.env)]:=by rfl)(hb:(WU p (WB [c] X.env)).any (·.1)=false:=by rfl):DE X H0 O0 (.Call (.Name "isinstance" np) [a,c] [] p) (cW K' T t):=by
 subst hK;exact Jr hg hm hv ha hc hs hs2 hb
end
def Er(K:Pq):R2:=λx y H Q=>∃a b xs ys,x= .ref a/\y= .ref b/\aY K H a xs/\aY K H b ys/\xs.length+ys.length<=WA/\(xs=[]->Q (.ref b) H)/\(xs≠[]->xP K x y H Q)
theorem nR{X:Cx}:bC X (W7 .Add) (Er X.K):=by
 intro Yn s σ H x y v u Q I rx ry h;obtain⟨a,b,xs,ys,rfl,rfl,ha,hb,hz,q0,q1⟩:=h;by_cases hx:xs=[]
 ·subst hx;cases rx;cases ry;obtain⟨its,r1,⟨⟨c1,d1,da1,s1⟩,o1,k1,n1,e1⟩,_⟩:=I.tuple ha;obtain⟨its2,r2,⟨⟨c2,d2,da2,s2⟩,o2,k2,n2,e2⟩,_⟩:=I.tuple hb;simp only at k1 e1 k2 e2;subst k1 e1 k2 e2;cases r1;exact concat_meets ⟨_,o1,rfl⟩ ⟨_,o2,rfl⟩ Yk seq_tuple_add TB Tu (Th _ _)
   (tuple_addW0 a b _ its2.toArray n1 n2 d1 d2 s1 s2 Wq) ⟨o1,o2,.ref b,H,I,rfl,q0 rfl⟩
 ·exact HS Yn s σ H _ _ v u Q I rx ry (q1 hx)
def fJ:Wr->Wr->(Wr->Prop)->Prop:=λx y Q=>∃xs ys,x= .tuple xs/\y= .tuple ys/\xs.length+ys.length<=WA/\Q (.tuple (xs++ys))
theorem nS{K:Pq}:cS K (Er K) fJ:=λH O x y dx dy Qd R tr hx hy uu15 k=>by
 obtain⟨xs,ys,e1,e2,hz,q⟩:=uu15;subst e1 e2;have hx0:=hx;have hy0:=hy;obtain⟨a,vs,rfl,h1,d1⟩:=hx.tup;obtain⟨b,us,rfl,h2,d2⟩:=hy.tup;refine⟨a,b,vs,us,rfl,rfl,h1,h2,by rw [d1.length,d2.length];exact hz,λz=>?_,λz=>?_⟩
 ·subst z;cases d1;rw [P2] at q;cases hy0 with
  | dt hy0=>exact k _ _ H q (aq.refl _) hy0
 ·exact Jo H O _ _ _ _ Qd R tr hx0 hy0 ⟨xs,ys,rfl,rfl,λe=>z (by subst e;cases d1;rfl),hz,q⟩ k
def Es(f:Str)(d:Wr):List (Str×Wr)->List (Str×Wr)
 | []=>[(f,d)]
 | (g,x)::r=>if g=f then(g,d)::r else(g,x)::Es f d r
section
variable {X:Cx} {H0:Hp} {O0:Ex}
def jO(C:Wu)(i:Nat)(f:Str)(t:DT):DS:=λE δ=>t δ λd=>∃l fd,δ[i]?=some (some (.i l C fd))/\fd.length < 1000/\E.nx (δ.set i (some (.i l C (Es f d fd))))
end
section
variable {X:Cx} {H0:Hp} {O0:Ex}
def jP(C:Wu)(f:Str)(t:DT):DT:=λδ Q=>t δ λx=>∃ks ds d,x=C4 C (ks.map .str) ds/\Aw ks ds f=some d/\Q d
end
def K3(ss:List Int)(x:Int):List Int:=if x∈ss then ss else ss++[x]
section
variable {X:Cx} {H0:Hp} {O0:Ex}
def jQ(t:DA):DA:=λδ Q=>t δ λds=>∃ss:List Int,ds=[.list (ss.map .int)]/\ss.length < 4000/\(ss.foldl K3 []).length < 64/\∀ns:List Int,(∀z,z∈ns↔z∈ss)->ns.Pairwise (· < ·)->Q (ns.map .int)
end
def Ax(K:Pq)(a:Wu):It:=
 ⟨λi H=>∃xs x,bf K H a xs/\xs[i]?=some x,λi H x H'=>∃p v,H p=none/\x= .ref p/\H'=ao H p (.tup [.int (i:Int),v])/\∀xs,bf K H a xs->xs[i]?=some v,λi H=>∃xs,bf K H a xs/\xs.length<=i⟩
theorem K4{P:WH}{w:WJ}{K:Pq}{elts:List WC}{k0}{pos:Pos}(a it e:Wu)(hei:e≠it):pX P w K (.Tuple elts k0 pos) (Ax K a) [e,it] e (λi h=>(∃old,IsEnum h e it (i:Int) old)/\h.IsListIter it a i) where
 mem:=Wq
 obj:=λi h st b hb=>by
  simp only [Pz,PV,or_false] at hb;obtain⟨⟨old,he⟩,o,eo,c,d⟩:=st;rcases hb with rfl | rfl
  ·exact⟨_,he,λv z=>by cases z⟩
  ·exact⟨o,eo,λv z=>by rw [d] at z;cases z⟩
 keep:=λi h h' st k=>⟨let ⟨old,he⟩:=st.1;⟨old,k e Wq _ he⟩,st.2.at λo q=>k it Wq o q⟩
 item:=by
  intro X hP hw hK hc i Yn s σ H E I hf st hg;subst hP hw hK;obtain⟨xs,x,hq,hx⟩:=hg;obtain⟨its,rv,p,hz⟩:=I.list hq;obtain⟨u,hu,ru⟩:=rv.get hx;obtain⟨⟨old,he⟩,hit⟩:=st;refine wpAny_pyNext_enum_item he hit p.isList (x:=u) (by simpa using hu) hei λh' ho hit' hT hsz hk=>?_;have hT0:H s.heap.objs.size=none:=I.hok.fresh (PL _);have lte:e < s.heap.objs.size:=PQ he;have lti:it < s.heap.objs.size:=by obtain⟨_,q,_⟩:=hit;exact PQ q
  have I1:ag X Yn σ (ao H s.heap.objs.size (.tup [.int (i:Int),x])) {s with heap:=h',toks:=s.toks+1}:=by
   refine I.track (t':=s.toks+1) (ch:=[s.heap.objs.size,e,it]) Wq (λb hb=>?_) (λb v hb q=>hk b v (λz=>hb (by simp [z])) (λz=>hb (by simp [z])) q) ?_
   ·rcases Pz.mp hb with z | z
    ·rw [z];exact I.fpOk (PL _) hT0
    ·exact hf b z
   ·exact⟨by rw [WI,Pu,Pu,P1];decide,[.int (i:Int) s.toks,u],.cons ⟨_,rfl⟩ (.cons ru .nil),_,hT,rfl,0,rfl⟩
  refine⟨_,rfl,wpAny_letOwnedTupleGo_enum ho λh2 he2 sb=>?_⟩;obtain⟨f0,f1,f2,f3,f4,f5⟩:=hf e Wq;have ne:s.heap.objs.size≠e:=Sr lte;have I2:ag X Yn σ (ao H s.heap.objs.size (.tup [.int (i:Int),x])) {s with heap:=h2,toks:=s.toks+1}:=I1.turned (t':=s.toks+1) (λb o hb q=>(sb.2 b hb).trans q) (by rw [ay (Ne.symm ne)];exact f0) f1 f3 f4 f5;refine⟨.ref s.heap.objs.size,_,I2,rfl,⟨_,x,hT0,rfl,rfl,λys hy=>by rw [I.list_inj hy hq];exact hx⟩,⟨⟨_,by simpa using he2⟩,hit'.at λo q=>(sb.2 it (Ne.symm hei)).trans q⟩,λb hb=>?_⟩;rw [ay λz=>?_]
  ·exact(hf b hb).1
  ·simp only [Pz,PV,or_false] at hb;rcases hb with y | y
   ·rw [<-z,y] at lte;exact RP _ lte
   ·rw [<-z,y] at lti;exact RP _ lti
 done:=by
  intro X hP hw hK hc i Yn s σ H E I hf st hg;subst hP hw hK;obtain⟨xs,hq,hx⟩:=hg;obtain⟨its,rv,p,hz⟩:=I.list hq;obtain⟨⟨old,he⟩,hit⟩:=st;obtain⟨f0,f1,f2,f3,f4,f5⟩:=hf it Wq;have hl:=rv.length;exact wpAny_pyNext_enum_end (I.ok.hd hc) he hit p.isList (by simp;omega) λh' eb=>⟨rfl,I.turned (t':=s.toks) (λb o hb e=>eb b o hb e) f0 f1 f3 f4 f5⟩
 self:=λA i s Q E st h=>by
  obtain⟨⟨old,he⟩,_⟩:=st;exact wpAny_pyIter_enum he h
def K5(K:Pq)(ta:TA):TI:=λσ H R=>ta σ H λvs H1=>∃a xs,vs=[.ref a]/\Rd H1 a (.lst xs)/\R (Ax K a) H1
theorem K6{X:Cx}{elts:List WC}{k0}{tp:Pos}{a:WC}{ta:TA}{p pos:Pos}(hg:Gl X "enumerate")(hm:X.mg "enumerate"=none)(ha:PA X [a] ta)(hs:WB [a] X.env=[(false,eval a X.env)]:=by rfl):PI X (.Tuple elts k0 tp) (.Call (.Name "enumerate" p) [a] [] pos) (K5 X.K ta):=by
 intro Yn s σ H R I h;refine Call_ (pW I hg hm boot_enumerate (R3 (aC (ha pos Yn s σ H _ I h) λus s1 ⟨vs,H1,I1,r1,q1⟩=>?_) hs rfl));obtain⟨b,xs,e,hr,q⟩:=q1;subst e;cases r1 with
 | cons r rr=>
  cases rr;cases r;have ho:∃(its:List Ws)(n:Nat),s1.heap.get? b=some {cls:= .type "list",dict:=none,data:= .seq its.toArray n,slots:=#[]}:=by
   rcases hr with hr | ⟨o,hr⟩
   ·obtain⟨_,its,n,_,z⟩:=I1.hok b _ hr;exact⟨its,n,z⟩
   ·obtain⟨_,_,its,n,_,z⟩:=I1.hok b _ hr;exact⟨its,n,z⟩
  obtain⟨its,n,ho⟩:=ho;refine call_enumerate_1 ho λh' he hit hsz hk=>wpAny_pyIter_enum he ?_;have I2:ag X Yn σ H1 {s1 with heap:=h'}:=I1.kept (t':=s1.toks) hk;refine⟨s1.heap.objs.size+1,[s1.heap.objs.size+1,s1.heap.objs.size],_,_,H1,rfl,I2,K4 b s1.heap.objs.size (s1.heap.objs.size+1) (Sr (Sk _)),⟨⟨_,he⟩,hit⟩,λc hc=>?_,q⟩;simp only [Pz,PV,or_false] at hc;rcases hc with rfl | rfl
  ·exact I1.fpOk (SD _) (I1.hok.fresh (SD _))
  ·exact I1.fpOk (PL _) (I1.hok.fresh (PL _))
def nT:Nat->List Wr->List Wr
 | _,[]=>[]
 | k,x::r=>.tuple [.int (k:Int),x]::nT (k+1) r
theorem vb:∀(k:Nat)(xs:List Wr),(nT k xs).length=xs.length
 | _,[]=>rfl
 | k,x::r=>by rw [nT,Pu,vb,Pu]
theorem vc:∀(k:Nat)(xs:List Wr)(i:Nat),(nT k xs)[i]?=(xs[i]?).map λx=>.tuple [.int ((k+i:Nat):Int),x]
 | _,[],i=>by simp [nT]
 | k,x::r,0=>by simp [nT]
 | k,x::r,i+1=>by
  rw [nT,PM,PM,vc (k+1) r i,show k+1+i=k+(i+1) by omega]
theorem K7{K:Pq}{H0:Hp}{O0:Ex}{a:Wu}{vs:List V}{xs:List Wr}{g:TG}{dg:DG}{tb:DS}{D:nI}{E:qh}{σ:St}{H:Hp}{O:Ex}{δ:Dl}(hr:Rd H a (.lst vs))(ho:¬O a)(gd:GD K g dg)
 (r:au K H O vs xs)(w:Wd K H0 O0 H O σ δ)(q:pz dg tb E (nT 0 xs) δ)
 (k1:∀O' δ' σ' H',E.nx δ'->Wd K H0 O0 H' O' σ' δ'->aT H H' O O'->D.nx σ' H')(k2:∀d v H',E.rt d->aq H0 H'->Dt K H' O0 v d->D.rt v H'):FR (Ax K a) g (cg K H0 O0 tb) D σ H:=by
 obtain⟨Iv,q0,qs,qe⟩:=q;have hl:=r.length;have sq:∀H' O',aT H H' O O'->bf K H' a vs:=λH' O' S=>.inl (hr.same λo e=>S.keep _ o e ho);refine⟨λi m σ' H'=>∃O' δ',m=vs.length - i/\i<=vs.length/\Wd K H0 O0 H' O' σ' δ'/\aT H H' O O'/\Iv i δ',⟨vs.length,O,δ,Wq,Rt _,w,aT.refl _ _,q0⟩,?_⟩;rintro i m σ1 H1 ⟨O1,δ1,rfl,hi,w1,S1,q1⟩;by_cases hlt:i < vs.length
 ·refine .inr ⟨⟨vs,vs[i],sq _ _ S1,by simp [hlt]⟩,λσ' H'=>∃O' δ',Wd K H0 O0 H' O' σ' δ'/\aT H H' O O'/\Iv (i+1) δ',λσ' H' uu17=>by obtain⟨O',δ',w',S',q'⟩:=uu17;exact⟨vs.length - (i+1),Ce,O',δ',rfl,hlt,w',S',q'⟩,λx H' y=>?_⟩;obtain⟨p,v,hp,rfl,rfl,hv⟩:=y;obtain⟨d,ed,rd⟩:=r.get (hv vs (sq _ _ S1));have sm:aq H1 (ao H1 p (.tup [.int (i:Int),v])):=aq.new hp;have w2:=w1.mono sm;have np:¬O1 p:=λz=>w1.trk p z hp;have dt:Dt K (ao H1 p (.tup [.int (i:Int),v])) O1 (.ref p) (.tuple [.int (i:Int),d]):= .tup (.inl bu) np (.cons (.int _) (.cons ((rd.step S1).mono sm) .nil));have S2:aT H (ao H1 p (.tup [.int (i:Int),v])) O O1:=S1.trans (.same sm);have e2:(nT 0 xs)[i]?=some (.tuple [.int (i:Int),d]):=by rw [vc,ed];simp
  refine gd H0 O0 _ O1 σ1 δ1 _ _ _ _ w2 dt (qs i _ δ1 e2 q1) λδ2 σ2 q2 w2=>?_;exact⟨O1,δ2,_,w2,q2,λO' δ' σ' H' z w' S'=>⟨O',δ',w',S2.trans S',z⟩,k2,λO' δ' σ' H' z w' S'=>k1 O' δ' σ' H' z w' (S2.trans S'),λO' δ' σ' H' z w' S'=>⟨O',δ',w',S2.trans S',z⟩⟩
 ·have e:i=vs.length:=Ce
  subst e;refine .inl ⟨⟨vs,sq _ _ S1,PL _⟩,?_⟩;rw [hl,<-vb 0 xs] at q1;exact k1 O1 δ1 σ1 H1 (qe δ1 q1) w1 S1
section
variable {X:Cx} {H0:Hp} {O0:Ex}
def fK(t:DA)(g:DG)(tb:DS):DS:=λE δ=>t δ λds=>∃xs,ds=[.list xs]/\pz g tb E (nT 0 xs) δ
theorem Et{elts:List WC}{k0}{tp:Pos}{a:WC}{body:List WK}{p pos pos':Pos}{ta:DA}{g:TG}{dg:DG}{tb:DS}(hp:XH (Wy X.prog X.w) X.A X.env X.xe)(hc:X.calm=true)(hgl:Gl X "enumerate")(hm:X.mg "enumerate"=none)(ha:PA X [a] (mC X.K H0 O0 ta))(hg:PG X (.Tuple elts k0 tp) g)(gd:GD X.K g dg)(hb:bG X body (cg X.K H0 O0 tb))
 (hst:WB [a] X.env=[(false,eval a X.env)]:=by rfl)(hs:∀x,WN (.Call (.Name "enumerate" p) [a] [] pos') X.env x=pure x:=by intro _;rfl):
 PS X (.For (.Tuple elts k0 tp) (.Call (.Name "enumerate" p) [a] [] pos') body [] pos) (cg X.K H0 O0 (fK ta dg tb)):=
 (sI hp hc (K6 hgl hm ha hst) hg hb hs).imp λD σ H uu18=>by obtain⟨O,δ,E,w,q,k1,k2,k3,k4⟩:=uu18;exact⟨O,δ,_,w,q,λds vs H1 uu19 s1 r1=>by
  obtain⟨xs,e,q1⟩:=uu19;subst e;cases r1 with
  | cons h r=>
   cases r;cases h with
   | lst h n r=>
    exact⟨_,_,rfl,h,K7 h n gd r (w.mono s1) q1 (λO' δ' σ' H' z w' S=>k1 O' δ' σ' H' z w' (aT.trans (.same s1) S)) k2⟩⟩
end
def jR:List Wr->(Wr->Prop)->Prop:=λds Q=>∃i j:Int,ds=[.int i,.int j]/\cu i j/\Q (.tuple [.int (i / j),.int (i % j)])
def fL:List Wr->(Wr->Prop)->Prop:=λds Q=>∃ns:List Int,ds=[.list (ns.map .int)]/\Q (.int ns.sum)
theorem Eu{K:Pq}:nk K (λxs H Q=>∃(a:Wu)(ns:List Int),xs=[.ref a]/\bf K H a (ns.map V.int)/\Q (.int ns.sum) H) fL:=λH O xs ds Qd R tr hs uu20 k=>by
 obtain⟨ns,e,q⟩:=uu20;subst e;cases hs with
 | cons h r=>
  cases r;obtain⟨a,vs,rfl,h1,d1⟩:=h.lst;cases d1.intsL;exact⟨a,ns,rfl,h1,k _ _ H q (aq.refl _) (.int _)⟩
def jS:List Wr->(Wr->Prop)->Prop:=λds Q=>∃ns:List Int,ds=[.list (ns.map .int)]/\ns≠[]/\∀M,M∈ns->(∀a∈ns,M<=a)->Q (.int M)
def jT(c:Int->Int->Prop):Wr->Wr->(Wr->Prop)->Prop:=λx y Q=>∃i j:Int,x= .int i/\y= .int j/\c i j/\∀r:Int,Q (.int r)
section
variable {X:Cx} {H0:Hp} {O0:Ex}
def jU(n:Nat)(t:DA):DA:=λδ Q=>t δ λds=>ds.length<=1000/\Q (PH n ds).flatten
theorem au.rep{K:Pq}{H:Hp}{O:Ex}{vs:List V}{ds:List Wr}(h:au K H O vs ds):∀n:Nat,au K H O (PH n vs).flatten (PH n ds).flatten
 | 0=>.nil
 | n+1=>by rw [R6,R6,R1,R1];exact h.append (au.rep h n)
def jV(i:Nat)(t:DT):DS:=λE δ=>∃ds,δ[i]?=some (some (.o ds))/\t δ λd=>∃es,d= .list es/\ds.length+es.length<=WA/\E.nx (δ.set i (some (.o (ds++es))))
end
end L2
namespace Day
def nG(y:Int):Bool:=decide (y % 400=0) || (decide (y % 4=0) && !decide (y % 100=0))
def ld(y:Int):Int:=if nG y=true then 1 else 0
def Ay:List Int:=[31,28,31,30,31,30,31,31,30,31,30,31]
def bh(y m:Int):Int:=if m=2/\nG y=true then 29 else Ay.getD (m - 1).toNat 0
def lb(y:Int):Int:=(y - 1)/ 4 - (y - 1)/ 100+(y - 1)/ 400
def br(y:Int):Int:=365*(y - 2000)+lb y - lb 2000
def aL(y m:Int):Int:=((Rx (m - 1).toNat).map λ(i:Nat)=>bh y (1+(i:Int))).sum
def lU(y m n:Int):Int:=br y+aL y m+n - 1
structure lH (d y m n:Int):Prop where
 m1:1<=m
 m12:m<=12
 n1:1<=n
 nl:n<=bh y m
 eq:lU y m n=d
theorem K8(y:Int):0<=ld y/\ld y<=1:=by unfold ld;split <;> omega
theorem Az(y:Int):nG y=true↔(y % 400=0\/(y % 4=0/\y % 100≠0)):=by
 unfold nG;simp
theorem vd(y:Int):br (y+1)=br y+365+ld y:=by
 unfold br lb ld;by_cases h:nG y=true
 ·rw [Wn h];have:=(Az y).mp h;omega
 ·rw [Wm h];have:=mt (Az y).mpr h;omega
theorem ve{a b:Int}(h:a+1<=b):br (a+1)<=br b:=by
 unfold br lb;omega
theorem AA(y:Int):bh y 2=28+ld y:=by
 unfold bh ld;by_cases h:nG y=true
 ·rw [Wn ⟨rfl,h⟩,Wn h];rfl
 ·rw [Wm (λz=>h z.2),Wm h];rfl
theorem Ew{y m:Int}(h:m≠2):bh y m=Ay.getD (m - 1).toNat 0:=by
 unfold bh;rw [Wm (λz=>h z.1)]
theorem vf(y:Int):bh y 1=31/\bh y 3=31/\bh y 4=30/\bh y 5=31/\bh y 6=30/\bh y 7=31/\bh y 8=31/\bh y 9=30/\bh y 10=31/\bh y 11=30/\bh y 12=31:=by
 refine⟨?_,?_,?_,?_,?_,?_,?_,?_,?_,?_,?_⟩ <;> (rw [Ew tx];rfl)
theorem AB{m:Int}(h1:1<=m)(h2:m<=12):m=1\/m=2\/m=3\/m=4\/m=5\/m=6\/m=7\/m=8\/m=9\/m=10\/m=11\/m=12:=by
 obtain⟨k,e⟩:=Q0 (show 0<=m - 1 by omega);have e:m=(k:Int)+1:=Ce
 have hk:k < 12:=Ce
 have key:∀k:Fin 12,((k.1:Nat):Int)+1=1\/((k.1:Nat):Int)+1=2\/((k.1:Nat):Int)+1=3\/((k.1:Nat):Int)+1=4\/((k.1:Nat):Int)+1=5\/((k.1:Nat):Int)+1=6\/((k.1:Nat):Int)+1=7\/((k.1:Nat):Int)+1=8\/((k.1:Nat):Int)+1=9\/((k.1:Nat):Int)+1=10\/((k.1:Nat):Int)+1=11\/((k.1:Nat):Int)+1=12:=td
 rw [e];exact key ⟨k,hk⟩
theorem rA{y m:Int}(h1:1<=m)(h2:m<=12):28<=bh y m/\bh y m<=31:=by
 obtain⟨m1,m3,m4,m5,m6,m7,m8,m9,m10,m11,m12⟩:=vf y;have m2:28<=bh y 2/\bh y 2<=31:=by
  have:=K8 y;rw [AA];clear m1 m3 m4 m5 m6 m7 m8 m9 m10 m11 m12 h1 h2;omega
 have k:∀{z:Int},z=31\/z=30->28<=z/\z<=31:=λh=>by rcases h with h | h <;> rw [h] <;> decide
 rcases AB h1 h2 with h | h | h | h | h | h | h | h | h | h | h | h <;> subst h
 ·exact k (.inl m1)
 ·exact m2
 ·exact k (.inl m3)
 ·exact k (.inr m4)
 ·exact k (.inl m5)
 ·exact k (.inr m6)
 ·exact k (.inl m7)
 ·exact k (.inl m8)
 ·exact k (.inr m9)
 ·exact k (.inl m10)
 ·exact k (.inr m11)
 ·exact k (.inl m12)
theorem rB(y:Int):aL y 1=0:=rfl
theorem lx{y m:Int}(h:1<=m):aL y (m+1)=aL y m+bh y m:=by
 unfold aL;have e:(m+1 - 1).toNat=(m - 1).toNat+1:=Ce
 rw [e,SQ,RE,UC];have e2:(1:Int)+(((m - 1).toNat:Nat):Int)=m:=Ce
 simp only [Pw,Qc,R8,Vj,e2];omega
theorem K9{a b c:Int}(l:Int)(h:a+b=c):a+(b+l)=c+l:=Ce
theorem nU{a b c:Int}(l:Int)(h:a+b=c):a+l+b=c+l:=Ce
theorem tM(y:Int):aL y 1=0/\aL y 2=31/\aL y 3=59+ld y/\aL y 4=90+ld y/\aL y 5=120+ld y/\aL y 6=151+ld y/\aL y 7=181+ld y/\aL y 8=212+ld y/\aL y 9=243+ld y/\aL y 10=273+ld y/\aL y 11=304+ld y/\aL y 12=334+ld y/\aL y 13=365+ld y:=by
 obtain⟨m1,m3,m4,m5,m6,m7,m8,m9,m10,m11,m12⟩:=vf y;have e2:aL y 2=31:=by rw [show aL y 2=aL y 1+bh y 1 from lx (m:=1) tx,m1];rfl
 have e3:aL y 3=59+ld y:=by rw [show aL y 3=aL y 2+bh y 2 from lx (m:=2) tx,e2,AA];exact K9 _ rfl
 have e4:aL y 4=90+ld y:=by rw [show aL y 4=aL y 3+bh y 3 from lx (m:=3) tx,e3,m3];exact nU _ rfl
 have e5:aL y 5=120+ld y:=by rw [show aL y 5=aL y 4+bh y 4 from lx (m:=4) tx,e4,m4];exact nU _ rfl
 have e6:aL y 6=151+ld y:=by rw [show aL y 6=aL y 5+bh y 5 from lx (m:=5) tx,e5,m5];exact nU _ rfl
 have e7:aL y 7=181+ld y:=by rw [show aL y 7=aL y 6+bh y 6 from lx (m:=6) tx,e6,m6];exact nU _ rfl
 have e8:aL y 8=212+ld y:=by rw [show aL y 8=aL y 7+bh y 7 from lx (m:=7) tx,e7,m7];exact nU _ rfl
 have e9:aL y 9=243+ld y:=by rw [show aL y 9=aL y 8+bh y 8 from lx (m:=8) tx,e8,m8];exact nU _ rfl
 have e10:aL y 10=273+ld y:=by rw [show aL y 10=aL y 9+bh y 9 from lx (m:=9) tx,e9,m9];exact nU _ rfl
 have e11:aL y 11=304+ld y:=by rw [show aL y 11=aL y 10+bh y 10 from lx (m:=10) tx,e10,m10];exact nU _ rfl
 have e12:aL y 12=334+ld y:=by rw [show aL y 12=aL y 11+bh y 11 from lx (m:=11) tx,e11,m11];exact nU _ rfl
 have e13:aL y 13=365+ld y:=by rw [show aL y 13=aL y 12+bh y 12 from lx (m:=12) tx,e12,m12];exact nU _ rfl
 exact⟨rB y,e2,e3,e4,e5,e6,e7,e8,e9,e10,e11,e12,e13⟩
theorem Ey{y m:Int}(h1:1<=m):∀k:Nat,m+k<=13->aL y m<=aL y (m+k)
 | 0,_=>by simp
 | k+1,h=>by
  have ih:=Ey (y:=y) h1 k Ce;have e:m+((k+1:Nat):Int)=(m+k)+1:=Ce
  rw [e,lx Ce];have:=rA (y:=y) (m:=m+k) Ce Ce;omega
theorem AD{y m m':Int}(h1:1<=m)(h2:m<=m')(h3:m'<=13):aL y m<=aL y m':=by
 have:=Ey (y:=y) h1 (m' - m).toNat Ce;rw [show m+(((m' - m).toNat:Nat):Int)=m' by omega] at this;exact this
theorem vg{y m:Int}(h1:1<=m)(h2:m<=12):0<=aL y m/\aL y m+bh y m<=365+ld y:=by
 have a:=AD (y:=y) (m:=1) (m':=m) tx h1 Ce;have b:=AD (y:=y) (m:=m+1) (m':=13) Ce Ce tx;rw [lx h1] at b;have c:=(tM y).1;have e:=(tM y).2.2.2.2.2.2.2.2.2.2.2.2;omega
theorem Ez{y m m':Int}(h1:1<=m)(h2:m < m')(h3:m'<=12):aL y m+bh y m<=aL y m':=by
 have b:=AD (y:=y) (m:=m+1) (m':=m') Ce Ce Ce;rw [lx h1] at b;exact b
theorem lH.in{d y m n:Int}(h:lH d y m n):br y<=d/\d < br (y+1):=by
 have:=vg (y:=y) h.m1 h.m12;have:=h.n1;have:=h.nl;have e:=h.eq;have:=vd y;unfold lU at e;omega
theorem lH.uniq{d y m n y' m' n':Int}(h:lH d y m n)(h':lH d y' m' n'):y=y'/\m=m'/\n=n':=by
 have a:=h.in;have b:=h'.in;have ey:y=y':=by
  rcases Vu y y' with z | z | z
  ·have:=ve (a:=y) (b:=y') Ce;omega
  ·exact z
  ·have:=ve (a:=y') (b:=y) Ce;omega
 subst ey;have e:=h.eq;have e':=h'.eq;unfold lU at e e';have em:m=m':=by
  rcases Vu m m' with z | z | z
  ·have:=Ez (y:=y) h.m1 z h'.m12;have:=h.nl;have:=h'.n1;omega
  ·exact z
  ·have:=Ez (y:=y) h'.m1 z h.m12;have:=h'.nl;have:=h.n1;omega
 subst em;exact⟨rfl,rfl,Ce⟩
def qw(d:Int):Int:=
 if d < br (2000+d*400 / 146097) then 2000+d*400 / 146097 - 1
 else if br (2000+d*400 / 146097+1)<=d then 2000+d*400 / 146097+1
 else 2000+d*400 / 146097
theorem EA(d:Int):br (qw d)<=d/\d < br (qw d+1):=by
 unfold qw;have e:2000+d*400 / 146097 - 1+1=2000+d*400 / 146097:=Ce
 by_cases h:d < br (2000+d*400 / 146097)
 ·rw [Wn h,e];refine⟨?_,h⟩;unfold br lb at*;omega
 ·rw [Wm h];by_cases h2:br (2000+d*400 / 146097+1)<=d
  ·rw [Wn h2];refine⟨h2,?_⟩;unfold br lb at*;omega
  ·rw [Wm h2];omega
theorem La(y:Int):365*(y - 2000)+(y - 2000+3)/ 4 - (y - 2000+99)/ 100+(y - 2000+399)/ 400=br y:=by
 unfold br lb;omega
theorem Lb{d:Int}(h:0<=d):br (2000+d / 366)<=d:=by
 unfold br lb;omega
theorem vh{d y m n:Int}(h:lH d y m n)(h0:0<=d)(h1:d < br 10000):2000<=y/\y<=9999:=by
 have a:=h.in;have e0:br 2000=0:=tx
 constructor
 ·by_cases z:2000<=y
  ·exact z
  ·have:=ve (a:=y) (b:=2000) Ce;omega
 ·by_cases z:y<=9999
  ·exact z
  ·have m1:br 10000<=br y:=by
    have:=ve (a:=9999) (b:=y) Ce;exact this
   omega
end Day
namespace L2
open PySem PySem.Spec PyProof.Rows PySem.W
def d2(m:Nat):List Nat:=[48+m / 10,48+m % 10]
def d4(y:Nat):List Nat:=[48+y / 1000,48+y / 100 % 10,48+y / 10 % 10,48+y % 10]
theorem AE:∀m:Fin 100,Txt.zfill (Pp (toString (m.val:Int))) 2=⟨(d2 m.val).toArray⟩:=td
theorem rC:∀m:Fin 100,Ts ⟨(d2 m.val).toArray⟩=some (m.val:Int):=td
theorem Lc:∀d:Fin 10,(V1 d.val).toNat=48+d.val:=tx
theorem vi{d:Nat}(h:d < 10):(V1 d).toNat=48+d:=Lc ⟨d,h⟩
theorem vj{y:Nat}(h1:1000<=y)(h2:y < 10000):Pp (toString (y:Int))=⟨(d4 y).toArray⟩:=by
 have e:=KIN.signs_num y;rw [Tv tx Ce,Tv tx Ce,Tv tx Ce,Nat.toDigits_of_lt_base Ce] at e;simp only [P7,P2,Pw,Qc] at e;rw [vi Ce,vi Ce,vi Ce,vi Ce] at e;rw [show y / 10 / 10 / 10=y / 1000 by omega,show y / 10 / 10 % 10=y / 100 % 10 by omega] at e;show _=(⟨(d4 y).toArray⟩:Str);cases hs:Pp (toString (y:Int)) with
 | mk c=>
  rw [hs] at e;congr 1;apply VL;rw [e];rfl
theorem AF{y:Nat}(h1:1000<=y)(h2:y < 10000):Ts ⟨(d4 y).toArray⟩=some (y:Int):=by
 rw [<-vj h1 h2];exact KIN.num_reads Ce Ce
def rD(y m n:Nat):List Nat:=d4 y++45::(d2 m++45::d2 n)
def lC(y m n:Int):Str:=⟨(rD y.toNat m.toNat n.toNat).toArray⟩
theorem Str.ext_list{a b:Str}(h:a.cps.toList=b.cps.toList):a=b:=by
 cases a;cases b;congr 1;exact VL h
theorem AG(a b:Str):(a++b).cps.toList=a.cps.toList++b.cps.toList:=by
 show(a.cps++b.cps).toList=_;exact Sj
theorem Ld{y m n:Int}(hy:1000<=y/\y < 10000)(hm:0<=m/\m < 100)(hn:0<=n/\n < 100):
 TM++Pp (toString y)++Pp "-"++Txt.zfill (Pp (toString m)) 2++Pp "-"++Txt.zfill (Pp (toString n)) 2=lC y m n:=by
 obtain⟨y,rfl⟩:=Q0 (show 0<=y by omega);obtain⟨m,rfl⟩:=Q0 hm.1;obtain⟨n,rfl⟩:=Q0 hn.1;have e1:=vj (y:=y) Ce Ce;have e2:=AE ⟨m,Ce⟩;have e3:=AE ⟨n,Ce⟩;simp only at e2 e3;rw [e1,e2,e3];apply Str.ext_list;simp only [AG];have h1:(Pp "-").cps.toList=[45]:=td
 have h2:Str.empty.cps.toList=[]:=rfl;rw [h1,h2];simp [lC,rD]
def kD(c:Nat):List Nat->List (List Nat)
 | []=>[[]]
 | x::xs=>if x=c then []::kD c xs else match kD c xs with | []=>[[x]] | p::ps=>(x::p)::ps
def lI(c:Nat):List (List Nat)->List Nat
 | []=>[]
 | [p]=>p
 | p::q::r=>p++c::lI c (q::r)
theorem AH(c:Nat):∀l,kD c l≠[]
 | []=>by simp [kD]
 | x::xs=>by
  unfold kD;split
  ·simp
  ·split <;> simp
theorem AI(c:Nat):∀p:List Nat,c ∉ p->kD c p=[p]
 | [],_=>rfl
 | x::xs,h=>by
  have hx:x≠c:=λe=>h (by simp [e]);have hr:c ∉ xs:=λe=>h (by simp [e]);unfold kD;rw [Wm hx,AI c xs hr]
theorem vk(c:Nat)(l:List Nat):∀p:List Nat,c ∉ p->kD c (p++c::l)=p::kD c l
 | [],_=>by show kD c (c::l)=_;rw [kD,Wn rfl]
 | x::xs,h=>by
  have hx:x≠c:=λe=>h (by simp [e]);have hr:c ∉ xs:=λe=>h (by simp [e]);show kD c (x::(xs++c::l))=_;rw [kD,Wm hx,vk c l xs hr]
theorem AJ(c:Nat):∀ps:List (List Nat),ps≠[]->(∀p∈ps,c ∉ p)->kD c (lI c ps)=ps
 | [],h,_=>absurd rfl h
 | [p],_,h=>AI c p (h p Wq)
 | p::q::r,_,h=>by
  show kD c (p++c::lI c (q::r))=_;rw [vk c _ p (h p Wq),AJ c (q::r) Wq (λx hx=>h x (by simp at hx⊢;exact .inr hx))]
theorem qx(c:Nat):∀ps:List Str,(SJ ⟨#[c]⟩ ps).cps.toList=lI c (ps.map λp=>p.cps.toList)
 | []=>rfl
 | [p]=>rfl
 | p::q::r=>by
  have ih:=qx c (q::r);show((p++⟨#[c]⟩++SJ ⟨#[c]⟩ (q::r)):Str).cps.toList=_;rw [AG,AG,ih];show p.cps.toList++[c]++lI c _=p.cps.toList++c::lI c _;simp
theorem rE(x:Str)(c:Nat):(Txt.split x ⟨#[c]⟩).map (λp=>p.cps.toList)=kD c x.cps.toList:=by
 have hj:=T4 x ⟨#[c]⟩;have hf:=StrLaws.split_free x c;by_cases hn:Txt.split x ⟨#[c]⟩=[]
 ·exfalso
  revert hn
  unfold Txt.split;split
  ·simp
  ·split
   ·simp
   ·intro h;have:=T4 x ⟨#[c]⟩;have hl:=congrArg Tb h;rw [PyProof.Rows.len_partsBetween] at hl;simp at hl
 ·rw [<-hj,qx,AJ c _ (by simpa using hn) (λp hp=>by
   obtain⟨q,hq,rfl⟩:=QG.mp hp;exact hf q hq)]
  rw [hj]
theorem Le{y m n:Int}:Txt.split (lC y m n) (Pp "-")=[⟨(d4 y.toNat).toArray⟩,⟨(d2 m.toNat).toArray⟩,⟨(d2 n.toNat).toArray⟩]:=by
 have e:Pp "-"=⟨#[45]⟩:=td
 rw [e];have h:=rE (lC y m n) 45;have e2:(lC y m n).cps.toList=d4 y.toNat++45::(d2 m.toNat++45::d2 n.toNat):=by simp [lC,rD]
 rw [e2,vk 45 _ _ (by simp [d4];omega),vk 45 _ _ (by simp [d2];omega),AI 45 _ (by simp [d2];omega)] at h;have inj:∀{a b:List Str},a.map (λp=>p.cps.toList)=b.map (λp=>p.cps.toList)->a=b:=λ{a b} h=>by
  induction a generalizing b with
  | nil=>cases b with
   | nil=>rfl
   | cons _ _=>simp at h
  | cons x xs ih=>cases b with
   | nil=>simp at h
   | cons z zs=>
    simp only [Pw,PK] at h;rw [Str.ext_list h.1,ih h.2]
 exact inj (h.trans Wq)
theorem EB(y m n:Int):(lC y m n).length=10:=by simp [lC,rD,d4,d2,Str.length]
section
variable {X:Cx} {H0:Hp} {O0:Ex}
theorem Lf:sQ X "str.join" (λx xs H Q=>∃(O:Ex)(z:Str)(a:V)(ys:List Str),x= .str z/\xs=[a]/\Sh X.K H O a (.tuple (ys.map .str))/\(ys.map (·.length)).sum+ys.length*z.length<=16777216/\Q (.str (Txt.join z ys)) H):=by
 intro Yn s σ H x xs v us Q I rx rs h;obtain⟨O,z,a,ys,rfl,rfl,ha,hz,q⟩:=h;obtain⟨t,rfl⟩:=rx;obtain⟨u,rfl,ru⟩:=lh rs;obtain⟨l,vs,rfl,hl,dl⟩:=ha.tup;cases ru;obtain⟨its,rv,pl,_⟩:=I.tuple hl;exact join_tuple pl (by simpa using Dk dl rv) hz λt' k=>⟨.str _,H,I.tok _,⟨_,rfl⟩,q⟩
def fM(to:DT)(t:DT):DT:=λδ Q=>to δ λx=>∃z:Str,x= .str z/\t δ λy=>∃(ys:List Str),y= .tuple (ys.map .str)/\(ys.map (·.length)).sum+ys.length*z.length<=16777216/\Q (.str (Txt.join z ys))
theorem EC{o e:WC}{to t:DT}{apos cpos:Pos}(ho:DE X H0 O0 o to)(ha:DF X H0 O0 e t)(hbase:Xi o "join" X.env (eval o X.env)=eval o X.env:=by rfl)
 (hfew:((WU cpos (WB [e] X.env)).all (λx=>!x.1) && (X6 cpos (XF [] X.env)).all (λx=>x.1.isSome) && decide ([e].length+([]:List Xv).length+(if ([]:List Xv).isEmpty then 0 else 1) < 30))=true:=by rfl)
 (hline:(apos.endLine==cpos.line)=true:=by rfl)(hst:WB [e] X.env=(false,eval e X.env)::WB [] X.env:=by rfl)(hplain:(WU cpos (WB [] X.env)).any (·.1)=false:=by rfl):
 DE X H0 O0 (.Call (.Attribute o "join" apos) [e] [] cpos) (fM to t):=
 (sR SS UJ UK Lf ho (aQ ha bJ hst) hbase hfew hline hst hplain).imp λσ H Q uu21=>by obtain⟨O,δ,Qd,w,q,k⟩:=uu21;exact⟨O,δ,_,w,q,λx v H1 uu22 s1 r1=>by
  obtain⟨z,e,q1⟩:=uu22;subst e;cases r1;exact⟨rfl,O,δ,_,w.mono s1,q1,λy u H2 uu23 s2 r2=>by obtain⟨ys,e,hz,q2⟩:=uu23;subst e;exact⟨O,z,u,ys,rfl,rfl,r2,hz,k _ _ H2 q2 (s1.trans s2) (.str _)⟩⟩⟩
def fN(t:DA)(u:DT):DA:=λδ Q=>t δ λds=>ds.length<=1000/\u δ λy=>∃i:Int,y= .int i/\0<=i/\i<=1000/\Q (PH i.toNat ds).flatten
theorem Lg{e f:WC}{t:DA}{u:DT}{pos:Pos}(h:FE X H0 O0 e t)(hf:DE X H0 O0 f u):FE X H0 O0 (.BinOp e .Mult f pos) (fN t u):=
 (bY Im h hf).imp λσ H Q ⟨O,δ,Qd,w,q,k⟩=>⟨O,δ,_,w,q,λds vs p H1 q1 s1 hp r1=>⟨O,δ,_,w.mono (s1.trans (aq.new hp)),q1.2,λy v H2 uu25 s2 r2=>by
  obtain⟨i,e,i0,i1,q2⟩:=uu25;subst e;cases r2;refine⟨p,i,vs,rfl,rfl,s2 _ _ bu,Ce,Ce,?_,λp' hp'=>k _ _ p' _ q2 ((s1.trans (aq.new hp)).trans s2) hp' ((r1.rep i.toNat).mono ((aq.new hp).trans s2))⟩;have h1:=r1.length;have h2:(WA:Nat)=16777216:=tx
  have h3:=q1.1;have h4:vs.length*i.toNat<=1000*1000:=Nat.mul_le_mul Ce Ce;omega⟩⟩
end
open PySem PySem.Spec PyProof.Rows PySem.W PySem.Calls
section
variable {prog:WH} {w:WJ} {A:WL} {E:Ws->Wv->Prop} {s:Wv}
theorem ED{j t:Wu}{i:Nat}{its:Array Ws}{x:Ws}{Q:Ws->Wv->Prop}(hi:s.heap.IsTupleIter j t i)(ht:s.heap.IsTuple t its)(hx:its[i]?=some x)
 (k:∀h2,h2.IsTupleIter j t (i+1)->Sq j s.heap h2->Q x {s with heap:=h2}):Wx (Wy prog w) A (RJ (.ref j)) Q E s:=by
 obtain⟨oi,e1,c1,d1⟩:=id hi;obtain⟨ot,e2,_,n2,d2⟩:=ht;unfold RJ;refine Wt (WS (name:=Pp "__next__") hi.typeIs F.slot_tuple_iterator_next (WV F.slot_tuple_iterator_next hi.typeIs F.entry_tuple_iterator_next ?_ (F.args_tuple_iterator_next_1 _)))
 (show Wx _ _ (field (.ref j) 0 >>=_) _ _ s);refine Wt (WY e1 d1 (x:= .ref t) rfl ?_)
 (show Wx _ _ (if (Qy t==RW)=true then _ else _) _ _ s);rw [Wm (show ¬((Qy t==RW)=true) from Qr)]
 (show Wx _ _ (field (.ref j) 1 >>=_) _ _ s);refine Wt (WY e1 d1 (x:= .int i 0) rfl ?_)
 (show Wx _ _ (seqItems? (.ref t) >>=_) _ _ s);refine Wt (W8 e2 d2 ?_)
 simp only [Q7,hx];refine Wt (Xd e1 d1 Wq (Ww ⟨x,rfl,Ww (k _ ?_ (Rz ..))⟩));exact⟨_,Rk _ e1 (Sv (RF d1 _)),(Tw ..).trans c1,by rw [RF d1];simp [W9]⟩
theorem Lh{j t:Wu}{i:Nat}{its:Array Ws}{Q:Ws->Wv->Prop}(hh:A.handled=none)(hi:s.heap.IsTupleIter j t i)(ht:s.heap.IsTuple t its)(hx:its[i]?=none)
 (k:∀h2 e,Vx j s.heap h2->(∃o,h2.get? e=some o/\o.cls= .type "StopIteration")->E (.ref e) {s with heap:=h2}):Wx (Wy prog w) A (RJ (.ref j)) Q E s:=by
 obtain⟨oi,e1,c1,d1⟩:=id hi;obtain⟨ot,e2,_,n2,d2⟩:=ht;unfold RJ;refine Wt (WS (name:=Pp "__next__") hi.typeIs F.slot_tuple_iterator_next (WV F.slot_tuple_iterator_next hi.typeIs F.entry_tuple_iterator_next ?_ (F.args_tuple_iterator_next_1 _)))
 (show Wx _ _ (field (.ref j) 0 >>=_) _ _ s);refine Wt (WY e1 d1 (x:= .ref t) rfl ?_)
 (show Wx _ _ (if (Qy t==RW)=true then _ else _) _ _ s);rw [Wm (show ¬((Qy t==RW)=true) from Qr)]
 (show Wx _ _ (field (.ref j) 1 >>=_) _ _ s);refine Wt (WY e1 d1 (x:= .int i 0) rfl ?_)
 (show Wx _ _ (seqItems? (.ref t) >>=_) _ _ s);refine Wt (W8 e2 d2 ?_)
 simp only [Q7,hx];refine Wt (XA (Wt (Xd e1 d1 Wq ?_)))
 (show Wx _ _ (newExc (.type "StopIteration") [] >>=_) _ _ _);refine Wt ?_;simp only [newExc,newTuple]
 refine Wt (WQ ?_ (by size_fits));refine Wt (m:=Xz _ _) (XR (a:=RW) (by first | rfl | (simp only [Xz];rfl)) ?_);refine WQ ?_ (by size_fits);simp only [raiseNew];refine Wt (wpAny_handled ?_)
 first | rw [show A.in1.handled=none from hh] | rw [hh]
 refine Wt (Ww (wpAny_throw ?_));exact k _ _ (((Rz ..).extBut.push _).push _) ⟨_,Qa _ rfl,rfl⟩
theorem Li{z TI TO i1 i2 l1 l2:Wu}{k1 k2:Nat}{xs ys:Array Ws}{x y a b:Ws}{Q:Ws->Wv->Prop}(D:X8 z TI TO i1 i2 l1 l2)
 (hz:XG s.heap z TI TO .none)(hI:Xc s.heap TI (.ref i1) (.ref i2))(hO:Xc s.heap TO a b)(h1:s.heap.IsTupleIter i1 l1 k1)(h2:s.heap.IsTupleIter i2 l2 k2)(t1:s.heap.IsTuple l1 xs)(t2:s.heap.IsTuple l2 ys)(hx:xs[k1]?=some x)(hy:ys[k2]?=some y)
 (k:∀g,XG g z TI TO (W9 s.heap.objs.size)->Xc g TO x y->g.IsTupleIter i1 l1 (k1+1)->g.IsTupleIter i2 l2 (k2+1)->Xc g s.heap.objs.size x y->g.objs.size=s.heap.objs.size+1->
  (∀c o,c≠z->c≠TO->c≠i1->c≠i2->s.heap.get? c=some o->g.get? c=some o)->Q (.ref s.heap.objs.size) {s with heap:=g}):
 Wx (Wy prog w) A (Builtin.«zip.__next__» ⟨[.ref z],[]⟩) (λfin s'=>∃v,fin= .done (.ret v)/\Q v s') E s:=by
 (show Wx _ _ (field (.ref z) 2 >>=_) _ _ _);refine Wt (WY hz rfl (x:= .bool false) rfl ?_)
 (show Wx _ _ (field (.ref z) 3 >>=_) _ _ _);refine Wt (WY hz rfl (x:= .ref TI) rfl ?_);refine Wt (W8 hI rfl ?_)
 (show Wx _ _ (RY (.ref z) >>=_) _ _ _);refine Wt ?_;unfold RY
 refine Wt (WY hz rfl (x:= .none) rfl (Ww ?_));simp only [if_true];refine Wt (XA ?_);refine Wt (WY hz rfl (x:= .ref TO) rfl ?_);refine Wt (Xy hz Wq λg1 z1 b1=>?_)
 replace z1:XG g1 z TI TO .ellipsis:=z1
 refine Wt ?_;simp only [VD,VN,UB,UI];refine Wt (Wt (Yi ?_));(show Wx _ _ (RJ (.ref i1) >>=_) _ _ _);refine Wt (ED (h1.extBut b1.extBut D.i1z) (t1.extBut b1.extBut D.l1z) hx λg2 j2 b2=>Ww ?_);have o2:Xc g2 TO a b:=b2.extBut _ _ D.TOi1 (b1.extBut _ _ D.TOz hO);refine Wt (W8 o2 rfl ?_);refine Wt (wpAny_updateSeq_pair o2 λg3 o3 b3=>?_)
 replace o3:Xc g3 TO x b:=o3
 refine Wt (wpAny_letGo (Ww ?_));refine Wt (Wt (Yi ?_));(show Wx _ _ (RJ (.ref i2) >>=_) _ _ _);refine Wt (ED (((h2.extBut b1.extBut D.i2z).extBut b2.extBut D.i12.symm).extBut b3.extBut D.TOi2.symm) (((t2.extBut b1.extBut D.l2z).extBut b2.extBut D.l2i1).extBut b3.extBut D.l2TO) hy λg4 j4 b4=>Ww ?_);have o4:Xc g4 TO x b:=b4.extBut _ _ D.TOi2 o3;refine Wt (W8 o4 rfl ?_);refine Wt (wpAny_updateSeq_pair o4 λg5 o5 b5=>?_)
 replace o5:Xc g5 TO x y:=o5
 refine Wt (wpAny_letGo (Ww (Ww ?_)));refine Wt (W8 o5 rfl ?_);refine Wt (wpAny_newTuple ?_);have sz:g5.objs.size=s.heap.objs.size:=by rw [b5.1,b4.1,b3.1,b2.1,b1.1]
 have z5:XG g5 z TI TO .ellipsis:=b5.extBut _ _ D.TOz.symm (b4.extBut _ _ D.i2z.symm (b3.extBut _ _ D.TOz.symm (b2.extBut _ _ D.i1z.symm z1)));have k5:∀c o,c≠z->c≠TO->c≠i1->c≠i2->s.heap.get? c=some o->g5.get? c=some o:=λc o c1 c2 c3 c4 e=>b5.extBut _ _ c2 (b4.extBut _ _ c4 (b3.extBut _ _ c2 (b2.extBut _ _ c3 (b1.extBut _ _ c1 e))));have j15:g5.IsTupleIter i1 l1 (k1+1):=((j2.extBut b3.extBut D.TOi1.symm).extBut b4.extBut D.i12).extBut b5.extBut D.TOi1.symm;have j25:g5.IsTupleIter i2 l2 (k2+1):=j4.extBut b5.extBut D.TOi2.symm;have zl:z < g5.objs.size:=PQ z5
 (show Wx _ _ (To (.ref z) (.ref g5.objs.size) >>=_) _ _ _);refine Wt ?_;unfold To
 have z6:XG (g5.push {cls:= .type "tuple",data:= .seq #[x,y]}) z TI TO .ellipsis:=Py _ z5;refine Wt (Xy z6 Wq λg7 z7 b7=>?_)
 replace z7:XG g7 z TI TO (W9 g5.objs.size):=z7
 refine Xy z7 Wq λg8 z8 b8=>?_
 replace z8:XG g8 z TI TO (W9 g5.objs.size):=z8
 have up:∀c o,c≠z->g5.get? c=some o->g8.get? c=some o:=λc o c1 e=>b8.extBut _ _ c1 (b7.extBut _ _ c1 (Py _ e));have p8:Xc g8 g5.objs.size x y:=b8.extBut _ _ (Sr zl) (b7.extBut _ _ (Sr zl) (Qa _ rfl));have s8:g8.objs.size=g5.objs.size+1:=by rw [b8.1,b7.1,RX]
 rw [sz] at z8 p8 s8;refine Ww ⟨_,rfl,?_⟩;(show Q (.ref g5.objs.size) _);rw [sz];have at1:∀{j t i},g5.IsTupleIter j t i->j≠z->g8.IsTupleIter j t i:=λh hj=>let ⟨o,e,r⟩:=h;⟨o,up _ o hj e,r⟩
 exact k g8 z8 (up _ _ D.TOz o5) (at1 j15 D.i1z) (at1 j25 D.i2z) p8 s8 λc o c1 c2 c3 c4 e=>up c o c1 (k5 c o c1 c2 c3 c4 e)
theorem Lj{z TI TO i1 i2 l1 l2:Wu}{k1:Nat}{xs:Array Ws}{Q:Fin->Wv->Prop}(hh:A.handled=none)(D:X8 z TI TO i1 i2 l1 l2)
 (hz:XG s.heap z TI TO .none)(hI:Xc s.heap TI (.ref i1) (.ref i2))(h1:s.heap.IsTupleIter i1 l1 k1)(t1:s.heap.IsTuple l1 xs)(hx:xs[k1]?=none)
 (k:∀g e,(∀c o,c≠z->c≠i1->s.heap.get? c=some o->g.get? c=some o)->(∃o,g.get? e=some o/\o.cls= .type "StopIteration")->E (.ref e) {s with heap:=g}):
 Wx (Wy prog w) A (Builtin.«zip.__next__» ⟨[.ref z],[]⟩) Q E s:=by
 (show Wx _ _ (field (.ref z) 2 >>=_) _ _ _);refine Wt (WY hz rfl (x:= .bool false) rfl ?_)
 (show Wx _ _ (field (.ref z) 3 >>=_) _ _ _);refine Wt (WY hz rfl (x:= .ref TI) rfl ?_);refine Wt (W8 hI rfl ?_)
 (show Wx _ _ (RY (.ref z) >>=_) _ _ _);refine Wt ?_;unfold RY
 refine Wt (WY hz rfl (x:= .none) rfl (Ww ?_));simp only [if_true];refine Wt (XA ?_);refine Wt (WY hz rfl (x:= .ref TO) rfl ?_);refine Wt (Xy hz Wq λg1 z1 b1=>?_)
 replace z1:XG g1 z TI TO .ellipsis:=z1
 refine Wt ?_;simp only [VD,VN,UB,UI];refine Wt (Wt (Yi ?_));(show Wx _ _ (RJ (.ref i1) >>=_) _ _ _);refine Wt (Lh hh (h1.extBut b1.extBut D.i1z) (t1.extBut b1.extBut D.l1z) hx λg2 e b2 he=>?_);obtain⟨oe,hoe,hce⟩:=he;have z2:XG g2 z TI TO .ellipsis:=b2 _ _ D.i1z.symm z1;have ez:e≠z:=λq=>by subst q;rw [z2] at hoe;cases hoe;simp at hce
 exact Xy z2 Wq λg3 _ b3=>k g3 e (λc o c1 c3 q=>b3.extBut _ _ c1 (b2 _ _ c3 (b1.extBut _ _ c1 q))) ⟨oe,b3.extBut _ _ ez hoe,hce⟩
theorem Lk{z TI TO i1 i2 l1 l2:Wu}{k1 k2:Nat}{xs ys:Array Ws}{x y a b:Ws}{Q:Option Ws->Wv->Prop}(D:X8 z TI TO i1 i2 l1 l2)
 (hz:XG s.heap z TI TO .none)(hI:Xc s.heap TI (.ref i1) (.ref i2))(hO:Xc s.heap TO a b)(h1:s.heap.IsTupleIter i1 l1 k1)(h2:s.heap.IsTupleIter i2 l2 k2)(t1:s.heap.IsTuple l1 xs)(t2:s.heap.IsTuple l2 ys)(hx:xs[k1]?=some x)(hy:ys[k2]?=some y)
 (k:∀g,XG g z TI TO (W9 s.heap.objs.size)->Xc g TO x y->g.IsTupleIter i1 l1 (k1+1)->g.IsTupleIter i2 l2 (k2+1)->Xc g s.heap.objs.size x y->g.objs.size=s.heap.objs.size+1->
  (∀c o,c≠z->c≠TO->c≠i1->c≠i2->s.heap.get? c=some o->g.get? c=some o)->Q (some (.ref s.heap.objs.size)) {s with heap:=g}):Wx (Wy prog w) A (Xj (.ref z)) Q E s:=by
 have ty:s.TypeIs (.ref z) "zip":=⟨_,hz,rfl⟩;unfold Xj;exact Wt (XD (WS (name:=Pp "__next__") ty F.slot_zip_next (WV F.slot_zip_next ty F.entry_zip_next (Li D hz hI hO h1 h2 t1 t2 hx hy λg a1 a2 a3 a4 a5 a6 a7=>Ww (k g a1 a2 a3 a4 a5 a6 a7)) (F.args_zip_next_1 _))))
theorem Ll{z TI TO i1 i2 l1 l2:Wu}{k1:Nat}{xs:Array Ws}{Q:Option Ws->Wv->Prop}(hh:A.handled=none)(D:X8 z TI TO i1 i2 l1 l2)
 (hz:XG s.heap z TI TO .none)(hI:Xc s.heap TI (.ref i1) (.ref i2))(h1:s.heap.IsTupleIter i1 l1 k1)(t1:s.heap.IsTuple l1 xs)(hx:xs[k1]?=none)
 (k:∀g,(∀c o,c≠z->c≠i1->s.heap.get? c=some o->g.get? c=some o)->Q none {s with heap:=g}):Wx (Wy prog w) A (Xj (.ref z)) Q E s:=by
 have ty:s.TypeIs (.ref z) "zip":=⟨_,hz,rfl⟩;unfold Xj;refine Wt (XD (WS (name:=Pp "__next__") ty F.slot_zip_next (WV F.slot_zip_next ty F.entry_zip_next (Lj hh D hz hI h1 t1 hx λg e kk he=>?_) (F.args_zip_next_1 _))));obtain⟨oe,eo,ce⟩:=he;refine Wt (XX (T:="StopIteration") (b:=true) ⟨oe,eo,ce⟩ isSubtype_stop ?_);exact Ww (k _ kk)
abbrev vm(h:WG)(a:Wu):WG:=h.push {cls:= .type "tuple_iterator",data:= .fields #[.ref a,.int 0 0]}
abbrev vn(h:WG)(a b:Wu):WG:=(vm h a).push {cls:= .type "tuple_iterator",data:= .fields #[.ref b,.int 0 0]}
abbrev vo(h:WG)(a b:Wu):WG:=(vn h a b).push {cls:= .type "tuple",data:= .seq #[.ref h.objs.size,.ref (vm h a).objs.size]}
abbrev vp(h:WG)(a b:Wu):WG:=(vo h a b).push {cls:= .type "tuple",data:= .seq #[.none,.none]}
abbrev rF(h:WG)(a b:Wu):WG:=(vp h a b).push {cls:= .type "zip",data:= .fields #[.none,.bool false,.bool false,.ref (vn h a b).objs.size,.ref (vo h a b).objs.size]}
theorem Lm(a b:Wu)(xs ys:Array Ws):Meets (Builtin.«zip.__new__» ⟨[.type "zip",.ref a,.ref b],[]⟩) (λ_ R s=>s.heap.IsTuple a xs/\s.heap.IsTuple b ys/\R (.ok (.ret (.ref (vp s.heap a b).objs.size))) {s with heap:=rF s.heap a b}):=
 .of_wp λprog w A R s h=>by
  obtain⟨hp,g,d,tk,os⟩:=s;obtain⟨u1,u2,h⟩:=h;have hsub:=sub_zip;have v1:V7 (Wg ⟨hp,g,d,tk,os⟩) a xs:=u1;have v2:V7 (Wg ⟨hp.push {cls:= .type "tuple_iterator",data:= .fields #[.ref a,.int 0 0]},g,d,tk,os⟩) b ys:=V7.push u2 _
  wp_walk using Yb v1,Yb v2
  exact⟨_,rfl,h⟩
theorem Ln{a b:Wu}{xs ys:Array Ws}{Q:Ws->Wv->Prop}(ha:s.heap.IsTuple a xs)(hb:s.heap.IsTuple b ys)
 (k:∀g,XG g (s.heap.objs.size+4) (s.heap.objs.size+2) (s.heap.objs.size+3) .none->Xc g (s.heap.objs.size+2) (.ref s.heap.objs.size) (.ref (s.heap.objs.size+1))->Xc g (s.heap.objs.size+3) .none .none->
  g.IsTupleIter s.heap.objs.size a 0->g.IsTupleIter (s.heap.objs.size+1) b 0->(∀c o,s.heap.get? c=some o->g.get? c=some o)->Q (.ref (s.heap.objs.size+4)) {s with heap:=g}):Wx (Wy prog w) A (call (.type "zip") [.ref a,.ref b]) Q E s:=by
 refine callType_new F.called_zip tx (F.typeCall_zip_2 _ _) (F.newCall_zip_2 _ _) (λobj=>F.args_object_init_3 obj _ _) F.entry_zip_new (Lm a b xs ys) ⟨ha,hb,?_⟩;have n1:(vm s.heap a).objs.size=s.heap.objs.size+1:=RX ..;have n2:(vn s.heap a b).objs.size=s.heap.objs.size+2:=by rw [RX,n1]
 have n3:(vo s.heap a b).objs.size=s.heap.objs.size+3:=by rw [RX,n2]
 have n4:(vp s.heap a b).objs.size=s.heap.objs.size+4:=by rw [RX,n3]
 have ps:∀{h:WG}{x:Obj}{c:Wu}{o:Obj},h.get? c=some o->(h.push x).get? c=some o:=λe=>Py _ e;have g5:(rF s.heap a b).get? (vp s.heap a b).objs.size=some _:=Qa _ rfl;have g4:(rF s.heap a b).get? (vo s.heap a b).objs.size=some _:=ps (Qa _ rfl);have g3:(rF s.heap a b).get? (vn s.heap a b).objs.size=some _:=ps (ps (Qa _ rfl));have g2:(rF s.heap a b).get? (vm s.heap a).objs.size=some _:=ps (ps (ps (Qa _ rfl)));have g1:(rF s.heap a b).get? s.heap.objs.size=some _:=ps (ps (ps (ps (Qa _ rfl))));show _/\_;rw [n2,n3,n4] at g5;rw [n1,n2] at g3;rw [n3] at g4;rw [n1] at g2;rw [n4];exact⟨⟨_,g5,rfl⟩,k _ g5 g3 g4 ⟨_,g1,rfl,rfl⟩ ⟨_,g2,rfl,rfl⟩ λc o e=>ps (ps (ps (ps (ps e))))⟩
end
section
variable {X:Cx} {Yn:List (Wu×Obj)} {σ:St} {H:Hp} {s:Wv}
theorem ag.still{ch:List Wu}{t':Nat}{h':WG}(I:ag X Yn σ H s)(f:∀b∈ch,mN X Yn H b)(k:∀b u,b ∉ ch->s.heap.get? b=some u->h'.get? b=some u):ag X Yn σ H {s with heap:=h',toks:=t'}:=by
 have nC:∀b u,H b=some u->b ∉ ch:=λb u e z=>by rw [(f b z).1] at e;cases e
 refine I.step (g':=s.gens) (d':=s.drawn) (ch:=ch) (λb hb=>?_) (λb o _ _ hc e _=>k b o hc e) (λb o _ _ hc e _=>⟨o.slots,k b o hc e⟩) (λb o hc _ n=>n) (λb o hc e=>⟨o,k b o hc e⟩) (λb xs e=>e) (λb u xs e=>e) (λb ps e=>⟨#[],by rw [e];simp⟩) (λm hm=>hm.at' λo e=>k _ o (λz=>(f _ z).2.1 rfl) e) (λb u e=>?_) I.bare
 ·obtain⟨f0,f1,f2,f3,f4,f5⟩:=f b hb;exact⟨f3,f1,f4,f5⟩
 ·refine(I.hok b u e).stay (λc v hc q=>k c v (λz=>?_) q) (λc q=>q) (λc xs q=>q) (λc xs q=>q);rcases hc with r | r
  ·rw [r] at z;exact nC _ _ e z
  ·exact nC _ _ r z
end
def AK(K:Pq)(a b:Wu):It:=
 ⟨λi H=>∃xs ys x y,aY K H a xs/\aY K H b ys/\xs[i]?=some x/\ys[i]?=some y,λi H x H'=>∃p v u,H p=none/\x= .ref p/\H'=ao H p (.tup [v,u])/\(∀xs,aY K H a xs->xs[i]?=some v)/\∀ys,aY K H b ys->ys[i]?=some u,λi H=>∃xs,aY K H a xs/\xs.length<=i⟩
theorem Lo{P:WH}{w:WJ}{K:Pq}{elts:List WC}{k0}{pos:Pos}(a b z TI TO i1 i2:Wu)(D:X8 z TI TO i1 i2 a b):pX P w K (.Tuple elts k0 pos) (AK K a b) [z,TI,TO,i1,i2] z
 (λi h=>XG h z TI TO .none/\Xc h TI (.ref i1) (.ref i2)/\(∃u v,Xc h TO u v)/\h.IsTupleIter i1 a i/\h.IsTupleIter i2 b i) where
 mem:=Wq
 obj:=λi h st c hc=>by
  simp only [Pz,PV,or_false] at hc;obtain⟨a1,a2,⟨u,v,a3⟩,⟨o4,e4,c4,d4⟩,o5,e5,c5,d5⟩:=st;rcases hc with rfl | rfl | rfl | rfl | rfl
  ·exact⟨_,a1,λv z=>by cases z⟩
  ·exact⟨_,a2,λv z=>by cases z⟩
  ·exact⟨_,a3,λv z=>by cases z⟩
  ·exact⟨o4,e4,λv z=>by rw [d4] at z;cases z⟩
  ·exact⟨o5,e5,λv z=>by rw [d5] at z;cases z⟩
 keep:=λi h h' st k=>by
  obtain⟨a1,a2,⟨u,v,a3⟩,⟨o4,e4,r4⟩,o5,e5,r5⟩:=st;exact⟨k _ Wq _ a1,k _ Wq _ a2,⟨u,v,k _ Wq _ a3⟩,⟨o4,k _ Wq _ e4,r4⟩,o5,k _ Wq _ e5,r5⟩
 item:=by
  intro X hP hw hK hc i Yn s σ H E I hf st hg;subst hP hw hK;obtain⟨xs,ys,x,y,qa,qb,hx,hy⟩:=hg;obtain⟨ia,ra,pa,_⟩:=I.tuple qa;obtain⟨ib,rb,pb,_⟩:=I.tuple qb;obtain⟨u,hu,ru⟩:=ra.get hx;obtain⟨v,hv,rv⟩:=rb.get hy;obtain⟨a1,a2,⟨_,_,a3⟩,a4,a5⟩:=st;refine Lk D a1 a2 a3 a4 a5 (show s.heap.IsTuple a ia.toArray from pa) (show s.heap.IsTuple b ib.toArray from pb) (x:=u) (y:=v) (by simpa using hu) (by simpa using hv) λg b1 b2 b3 b4 b5 b6 hk=>?_;have T0:H s.heap.objs.size=none:=I.hok.fresh (PL _);have lts:∀c∈[z,TI,TO,i1,i2],c < s.heap.objs.size:=λc hc=>by
   simp only [Pz,PV,or_false] at hc;rcases hc with rfl | rfl | rfl | rfl | rfl
   ·exact PQ a1
   ·exact PQ a2
   ·exact PQ a3
   ·obtain⟨_,e,_⟩:=a4;exact PQ e
   ·obtain⟨_,e,_⟩:=a5;exact PQ e
  have I1:ag X Yn σ (ao H s.heap.objs.size (.tup [x,y])) {s with heap:=g}:=by
   refine I.track (t':=s.toks) (ch:=[s.heap.objs.size,z,TO,i1,i2]) Wq (λc hc=>?_) (λc o hc e=>hk c o (λq=>hc (by simp [q])) (λq=>hc (by simp [q])) (λq=>hc (by simp [q])) (λq=>hc (by simp [q])) e) ?_
   ·rcases Pz.mp hc with q | q
    ·rw [q];exact I.fpOk (PL _) T0
    ·refine hf c ?_;simp only [Pz,PV,or_false] at q⊢;rcases q with q | q | q | q <;> simp [q]
   ·exact⟨by rw [WI,Pu,Pu,P1];decide,[u,v],.cons ru (.cons rv .nil),_,b5,rfl,0,rfl⟩
  refine⟨_,rfl,wpAny_letOwnedTupleGo_zip b1 λg2 z2 sb=>?_⟩;obtain⟨f0,f1,f2,f3,f4,f5⟩:=hf z Wq;have nz:s.heap.objs.size≠z:=Sr (lts z Wq);have I2:ag X Yn σ (ao H s.heap.objs.size (.tup [x,y])) {s with heap:=g2}:=I1.turned (t':=s.toks) (λc o hc q=>(sb.2 c hc).trans q) (by rw [ay (Ne.symm nz)];exact f0) f1 f3 f4 f5;have at2:∀{j t i},g.IsTupleIter j t i->j≠z->g2.IsTupleIter j t i:=λh hj=>let ⟨o,e,r⟩:=h;⟨o,(sb.2 _ hj).trans e,r⟩
  refine⟨.ref s.heap.objs.size,_,I2,rfl,⟨_,x,y,T0,rfl,rfl,λus hus=>by rw [I.tuple_inj hus qa];exact hx,λus hus=>by rw [I.tuple_inj hus qb];exact hy⟩,⟨z2,(sb.2 _ D.TIz).trans (hk _ _ D.TIz D.TITO D.TIi1 D.TIi2 a2),⟨_,_,(sb.2 _ D.TOz).trans b2⟩,at2 b3 D.i1z,at2 b4 D.i2z⟩,λc hc=>?_⟩;rw [ay λq=>?_]
  ·exact(hf c hc).1
  ·have:=lts c hc;rw [q] at this;exact RP _ this
 done:=by
  intro X hP hw hK hc i Yn s σ H E I hf st hg;subst hP hw hK;obtain⟨xs,qa,hx⟩:=hg;obtain⟨ia,ra,pa,_⟩:=I.tuple qa;obtain⟨a1,a2,_,a4,_⟩:=st;have hl:=ra.length;obtain⟨f0,f1,f2,f3,f4,f5⟩:=hf z Wq;obtain⟨e0,e1,e2,e3,e4,e5⟩:=hf i1 Wq;refine Ll (I.ok.hd hc) D a1 a2 a4 (show s.heap.IsTuple a ia.toArray from pa) (by simp;omega) λg hk=>⟨rfl,?_⟩;exact I.still (ch:=[z,i1]) (t':=s.toks) (λc hc=>by
   simp only [Pz,PV,or_false] at hc;rcases hc with rfl | rfl
   ·exact hf _ Wq
   ·exact hf _ Wq) λc o hc e=>hk c o (λq=>hc (by simp [q])) (λq=>hc (by simp [q])) e
 self:=λA i s Q E st h=>wpAny_pyIter_zip st.1 h
theorem Lp{n u v:Nat}(hu:u < n)(hv:v < n):X8 (n+4) (n+2) (n+3) n (n+1) u v:=by constructor <;> (intro q;have q:(_:Nat)=_:=q;omega)
def Lq(K:Pq)(ta:TA):TI:=λσ H R=>ta σ H λvs H1=>∃a b xs ys,vs=[.ref a,.ref b]/\aY K H1 a xs/\aY K H1 b ys/\R (AK K a b) H1
theorem Lr{X:Cx}{elts:List WC}{k0}{tp:Pos}{a b:WC}{ta:TA}{p pos:Pos}(hg:Gl X "zip")(hm:X.mg "zip"=none)(ha:PA X [a,b] ta)(hs:WB [a,b] X.env=(false,eval a X.env)::WB [b] X.env:=by rfl)(hpl:(WU pos (WB [b] X.env)).any (·.1)=false:=by rfl):PI X (.Tuple elts k0 tp) (.Call (.Name "zip" p) [a,b] [] pos) (Lq X.K ta):=by
 intro Yn s σ H R I h;refine Call_ (pW I hg hm boot_zip (R3 (aC (ha pos Yn s σ H _ I h) λus s1 ⟨vs,H1,I1,r1,q1⟩=>?_) hs hpl));obtain⟨u,v,xs,ys,e,qa,qb,q⟩:=q1;subst e;cases r1 with
 | cons r rr=>
  cases rr with
  | cons r2 rr=>
   cases rr;cases r;cases r2;obtain⟨ia,ra,pa,_⟩:=I1.tuple qa;obtain⟨ib,rb,pb,_⟩:=I1.tuple qb;have la:u < s1.heap.objs.size:=by obtain⟨o,e,_⟩:=(show s1.heap.IsTuple u ia.toArray from pa);exact PQ e
   have lb:v < s1.heap.objs.size:=by obtain⟨o,e,_⟩:=(show s1.heap.IsTuple v ib.toArray from pb);exact PQ e
   refine Ln (show s1.heap.IsTuple u ia.toArray from pa) (show s1.heap.IsTuple v ib.toArray from pb) λg z1 z2 z3 z4 z5 hk=>wpAny_pyIter_zip z1 ?_;have I2:ag X Yn σ H1 {s1 with heap:=g}:=I1.kept (t':=s1.toks) hk;have D:X8 (s1.heap.objs.size+4) (s1.heap.objs.size+2) (s1.heap.objs.size+3) s1.heap.objs.size (s1.heap.objs.size+1) u v:=Lp la lb;refine⟨_,_,_,_,H1,rfl,I2,Lo u v _ _ _ _ _ D,⟨z1,z2,⟨_,_,z3⟩,z4,z5⟩,λc hc=>?_,q⟩;have le:s1.heap.objs.size<=c:=by
    simp only [Pz,PV,or_false] at hc;rcases hc with rfl | rfl | rfl | rfl | rfl <;> omega
   exact I1.fpOk le (I1.hok.fresh le)
def pI(xs ys:List Wr):List Wr:=List.zipWith (λx y=>.tuple [x,y]) xs ys
theorem EF{K:Pq}{H H':Hp}{a:Wu}{xs:List V}(s:∀o,H a=some o->H' a=some o)(h:aY K H a xs):aY K H' a xs:=by
 rcases h with h | h
 ·exact .inl (h.same s)
 ·exact .inr h
theorem Lu{K:Pq}{H0:Hp}{O0:Ex}{a b:Wu}{vs us:List V}{xs ys:List Wr}{g:TG}{dg:DG}{tc:TT}{dc:DB}{te:TE}{de:DT}{k:Nat}{fr:List Nat}{σ:St}{H:Hp}{O:Ex}{δ:Dl}{Qd:List Wr->Prop}{Q:VK}(qa:aY K H a vs)(qb:aY K H b us)(gd:GD K g dg)(hf:fr.Nodup)
 (hk:∀v:V,∀σ':St,∀H':Hp,∀R:St->Hp->Prop,g v (bF k fr σ) H' R->g v (bF k fr σ) H' λσ2 H2=>pf (bF k fr σ) σ2/\R σ2 H2)
 (hc:∀σ H Q,cQ K H0 O0 dc σ H Q->tc σ H Q)(he:∀σ H Q,up K H0 O0 de σ H Q->te σ H Q)
 (r1:au K H O vs xs)(r2:au K H O us ys)(hl:vs.length=us.length)(w:Wd K H0 O0 H O σ δ)(hz:vs.length<=WA)(q:mQ dg dc de (bx k fr δ) (pI xs ys) Qd)
 (k1:∀ds us p H',Qd ds->aq H H'->H' p=none->au K H' O us ds->Q (.ref p) (ao H' p (.lst us))):pj (AK K a b) g tc te k fr σ H Q:=by
 obtain⟨Iv,q0,qs,qe⟩:=q;intro D hD;have w0:Wd K H0 O0 H O (bF k fr σ) (bx k fr δ):=w.comp hf;have nD:¬O D:=λz=>w.trk D z hD;have D0:H0 D=none:=by
  cases e:H0 D with
  | none=>rfl
  | some o=>rw [w.same _ _ e] at hD;cases hD
 have ex:∀H',nM D H H'->H' D≠none->Wd K H0 O0 H' (λa=>O a\/a=D) (bF k fr σ) (bx k fr δ):=λH' s' hd=>by
  have S':aT H H' O (λa=>O a\/a=D):=⟨λb o e _=>s' b o e (ky e hD),λb hb hn z=>z.elim hn λq=>hb (by rw [q];exact hD)⟩;refine⟨λb o e=>s' b o (w.same b o e) (λz=>by rw [z,D0] at e;cases e),λl z=>.inl (w.sub l z),λl z=>z.elim (w.new l) λq=>.inr (by rw [q];exact D0),λl z=>?_,w0.len,λj y e=>?_,w0.dis⟩
  ·by_cases ql:l=D
   ·rw [ql];exact hd
   ·have hl:=w.trk l (z.resolve_right ql);cases e:H l with
    | none=>exact absurd e hl
    | some o=>rw [s' l o e ql];exact λz=>nomatch z
  ·exact(w0.sl j y e).go S' (λl o _ _ a1 _ a3=>⟨.inl a1,s' _ _ a3 (λz=>nD (by rw [<-z];exact a1))⟩) (λa o u a1 _ a3=>⟨.inl a1,s' _ _ a3 (λz=>nD (by rw [<-z];exact a1))⟩) λa o a1 a3=>s' _ _ a3 (λz=>nD (by rw [<-z];exact w.sub _ a1))
 have zl:(pI xs ys).length=vs.length:=by unfold pI;rw [List.length_zipWith,<-r1.length,<-r2.length,<-hl];exact Nat.min_self _
 have sq:∀H',nM D H H'->aY K H' a vs/\aY K H' b us:=λH' s'=>⟨EF (λo e=>s' _ _ e (ky e hD)) qa,EF (λo e=>s' _ _ e (ky e hD)) qb⟩;refine⟨λi m H'=>∃acc ws,m=vs.length - i/\i<=vs.length/\nM D H H'/\H' D=some (.lst ws)/\ws.length<=i/\au K H' (λa=>O a\/a=D) ws acc/\Iv i acc,⟨vs.length,[],[],Wq,Rt _,λb o e n=>by rw [ay n];exact e,bu,Rt _,.nil,q0⟩,?_⟩;rintro i m H1 ⟨acc,ws,rfl,hi,s1,e1,hy,ra,q1⟩;obtain⟨sa,sb⟩:=sq H1 s1;by_cases hlt:i < vs.length
 ·refine .inr ⟨⟨vs,us,vs[i],us[i]'Ce,sa,sb,by simp [hlt],by simp [show i < us.length by omega]⟩,λx H' y=>?_⟩;obtain⟨p,v,u,hp,rfl,rfl,hv,hu⟩:=y;obtain⟨d,ed,rd⟩:=r1.get (hv vs sa);obtain⟨e,ee,re⟩:=r2.get (hu us sb);have pD:p≠D:=λz=>by rw [z,e1] at hp;cases hp
  have s2:nM D H (ao H1 p (.tup [v,u])):=λb o e n=>by
   have e':=s1 b o e n;rw [ay (λz=>by rw [z,hp] at e';cases e')];exact e'
  have e2:(ao H1 p (.tup [v,u])) D=some (.lst ws):=by rw [ay (Ne.symm pD)];exact e1
  have w1:=ex _ s2 (by rw [e2];exact λz=>nomatch z);have sm:aq H1 (ao H1 p (.tup [v,u])):=aq.new hp;have S':aT H (ao H1 p (.tup [v,u])) O (λa=>O a\/a=D):=⟨λb o e _=>s2 b o e (ky e hD),λb hb hn z=>z.elim hn λq=>hb (by rw [q];exact hD)⟩;have np:¬(O p\/p=D):=λz=>z.elim (λz=>by
   have:=w.trk p z;cases eh:H p with
   | none=>exact this eh
   | some o=>rw [s1 p o eh pD] at hp;cases hp) pD
  have dt:Dt K (ao H1 p (.tup [v,u])) (λa=>O a\/a=D) (.ref p) (.tuple [d,e]):= .tup (.inl bu) np (.cons (rd.step S') (.cons (re.step S') .nil));have ez:(pI xs ys)[i]?=some (.tuple [d,e]):=by unfold pI;rw [List.getElem?_zipWith,ed,ee]
  refine hk (.ref p) σ _ _ (gd H0 O0 _ _ _ _ (.ref p) _ _ _ w1 dt (qs i _ acc ez q1) λδ2 σ2 q2 w2=>?_);refine hc σ2 _ _ ⟨_,δ2,_,w2,q2,λok H3 q3 s3=>?_⟩;cases ok with
  | true=>
   rw [Wn rfl];refine he σ2 H3 _ ⟨_,δ2,_,w2.mono s3,q3,λd' v' H4 q4 s4 r4=>?_⟩;have e4:=s4 _ _ (s3 _ _ e2);have sD:aT H4 (ao H4 D (.lst (ws++[v']))) (λa=>O a\/a=D) (λa=>O a\/a=D):=⟨λb o e n=>by rw [ay (λz=>n (.inr z))];exact e,λ_ _ n=>n⟩;refine⟨ws,e4,Ce,vs.length - (i+1),Ce,acc++[d'],ws++[v'],rfl,hlt,λb o e n=>by rw [ay n];exact s4 _ _ (s3 _ _ (s2 b o e n)),bu,by simpa using hy,?_,q4⟩;exact((ra.mono ((sm.trans s3).trans s4)).append (.cons r4 .nil)).step sD
  | false=>
   rw [Wm tx];exact⟨vs.length - (i+1),Ce,acc,ws,rfl,hlt,λb o e n=>s3 _ _ (s2 b o e n),s3 _ _ e2,Ce,ra.mono (sm.trans s3),q3⟩
 ·have e:i=vs.length:=Ce
  subst e;refine .inl ⟨⟨vs,sa,PL _⟩,?_⟩;rw [<-zl] at q1;have hrest:∃H2:Hp,H2 D=none/\aq H H2/\H1=ao H2 D (.lst ws):=by
   refine⟨λb=>if b=D then none else H1 b,Wq,λb o e=>?_,?_⟩
   ·have n:=ky e hD;show(if b=D then none else H1 b)=some o;rw [Wm n];exact s1 b o e n
   ·funext b;by_cases z:b=D
    ·rw [z,bu];exact e1
    ·rw [ay z];show H1 b=if b=D then none else H1 b;rw [Wm z]
  obtain⟨H2,h2,s2,rfl⟩:=hrest;refine k1 acc ws D H2 (qe acc q1) s2 h2 (ra.step ⟨λb o e n=>?_,λb _ n z=>n (.inl z)⟩);rw [ay (λz=>n (.inr z))] at e;exact e
def fO(ta:DA)(g:DG)(tc:DB)(te:DT)(k:Nat)(fr:List Nat):DA:=λδ Q=>ta δ λds=>∃xs ys,ds=[.tuple xs,.tuple ys]/\xs.length=ys.length/\xs.length<=WA/\mQ g tc te (bx k fr δ) (pI xs ys) Q
section
variable {X:Cx} {H0:Hp} {O0:Ex} {elts:List WC} {k0:Nat} {tp:Pos} {elt:WC} {ifs:List WC} {scope:WZ} {N':List Str} {k:Nat} {fr:List Nat} {g:TG} {dg:DG} {ta:DA} {tc:DB} {te:DT} {pos p ps:Pos} {a b:WC}
theorem Lv(hc:X.calm=true)(S:bO X.env.scope X.N N' k fr scope)(hgl:Gl X "zip")(hm:X.mg "zip"=none)(ha:PA X [a,b] (mD X.K H0 O0 ta))(gd:GD X.K g dg)(hk:oB g k)(hfr:fr.Nodup)
 (hg:∀fp C s H,PG (bR X scope N' fp C s H) (.Tuple elts k0 tp) g)(hf:∀fp C s H,l6 (bR X scope N' fp C s H) ifs (cQ X.K H0 O0 tc))(he:∀fp C s H,PE (bR X scope N' fp C s H) elt (up X.K H0 O0 te))
 (hst:WB [a,b] X.env=(false,eval a X.env)::WB [b] X.env:=by rfl)(hpl:(WU ps (WB [b] X.env)).any (·.1)=false:=by rfl)(hs:∀x,WN (.Call (.Name "zip" p) [a,b] [] ps) X.env x=pure x:=by intro _;rfl):
 FE X H0 O0 (.ListComp elt [⟨.Tuple elts k0 tp,(.Call (.Name "zip" p) [a,b] [] ps),ifs,0⟩] scope pos) (fO ta dg tc te k fr):=
 (qc hc S (Lr hgl hm ha hst hpl) hg hf he hs).imp λσ H Q uu27=>by obtain⟨O,δ,Qd,w,q,kk⟩:=uu27;exact⟨O,δ,_,w,q,λds vs H1 uu28 s1 r1=>by
  obtain⟨xs,ys,e,hl,hz,q1⟩:=uu28;subst e;cases r1 with
  | cons r1 r2=>
   cases r2 with
   | cons r2 r3=>
    cases r3;obtain⟨u,us,rfl,qa,ra⟩:=r1.tup;obtain⟨v,vs,rfl,qb,rb⟩:=r2.tup;exact⟨u,v,us,vs,rfl,qa,qb,λD hD=>Lu qa qb gd hfr (λv _ H' R h=>hk fr σ v H' R h) (λ_ _ _ z=>z) (λ_ _ _ z=>z) ra rb (by rw [ra.length,rb.length];exact hl) (w.mono s1) (by rw [ra.length];exact hz) q1 (λds us p H' z s' hp r'=>kk ds us p H' z (s1.trans s') hp r') D hD⟩⟩
end
theorem Lw(a b:Int):oZ (.int a) (.int b)=true:=rfl
theorem Lx(a b:Str):oZ (.str a) (.str b)=true:=rfl
theorem Ly(a b:Bool):oZ (.bl a) (.bl b)=true:=rfl
theorem Lz(b:Int):oZ .non (.int b)=true:=rfl
theorem LA(b:Int):oZ (.int b) .non=true:=rfl
section
variable {x y z w:Option Sl} {l:Dl} {i j k m:Nat} {P:Wr->Prop}
theorem jW:kT j ((x::l).set 0 y) P=kT j (y::l) P:=rfl
theorem jX:kT j ((x::l).set (i+1) y) P=kT j (x::l.set i y) P:=rfl
theorem jY:kT j (((x::l).set 0 y).set k z) P=kT j ((y::l).set k z) P:=rfl
theorem jZ:kT j (((x::l).set (i+1) y).set k z) P=kT j ((x::l.set i y).set k z) P:=rfl
theorem j3:kT j ((((x::l).set 0 y).set k z).set m w) P=kT j (((y::l).set k z).set m w) P:=rfl
theorem j5:kT j ((((x::l).set (i+1) y).set k z).set m w) P=kT j (((x::l.set i y).set k z).set m w) P:=rfl
end
section
variable {K:Pq} {mg:Str->Option Ws} {h:WG} {x q:Str} {st:WK} {f C:Wu} {fd:WD} {ps:List Str}
structure Fn (K:Pq) (mg:Str->Option Ws) (x:Str) (st:WK) (f:Wu) (fd:WD) (ps:List Str):Prop where
 F:lJ K x x st f fd
 m:mg x=some (.ref f)
 b:mz K fd ps []
structure Mn (K:Pq) (x q:Str) (st:WK) (f:Wu) (fd:WD) (ps:List Str):Prop where
 F:lJ K x q st f fd
 b:mz K fd ps []
structure DfT (K:Pq) (x:Str) (st:WK) (f:Wu) (fd:WD):Prop where
 a:Qe K WE x=some (some (.ref f))
 F:lJ K x x st f fd
structure DmT (K:Pq) (C:Wu) (x q:Str) (st:WK) (f:Wu) (fd:WD):Prop where
 a:Rn K (.ref C) x=some (some (.ref f))
 i:Vk K (.ref f)=true
 F:lJ K x q st f fd
theorem DfT.of{oc:Ws}{od an:Option Wu}{osl:Array (Option Ws)}{kV doc pm cdv ct:Ws}(a:Qe K WE x=some (some (.ref f)))(l:K.lookup f=some ⟨oc,od,.func (RT x x (nL st) (l3 st) (az st) .none kV doc pm an cdv ct),osl⟩)
 (c:Tq K cdv x=true)(k:Sb K (.ref f)=true):DfT K x st f (RT x x (nL st) (l3 st) (az st) .none kV doc pm an cdv ct):=⟨a,CD l c k⟩
theorem DmT.of{oc:Ws}{od an:Option Wu}{osl:Array (Option Ws)}{kV doc pm cdv ct:Ws}(a:Rn K (.ref C) x=some (some (.ref f)))(i:Vk K (.ref f)=true)(l:K.lookup f=some ⟨oc,od,.func (RT x q (nL st) (l3 st) (az st) .none kV doc pm an cdv ct),osl⟩)
 (c:Tq K cdv q=true)(k:Sb K (.ref f)=true):DmT K C x q st f (RT x q (nL st) (l3 st) (az st) .none kV doc pm an cdv ct):=⟨a,i,CD l c k⟩
theorem DfT.fn(D:DfT K x st f fd)(X:K.In h)(G:h.Ns WE mg)(hb:∀(kV doc pm:Ws) (an:Option Wu) (cdv ct:Ws) (us:List Ws),us.length=ps.length->bindArgs (RT x x (nL st) (l3 st) (az st) .none kV doc pm an cdv ct) ⟨us,[]⟩=pure (ps.zip us):=by walk_at "b"):Fn K mg x st f fd ps:=⟨D.F,Q5 X G D.a,D.F.binds hb⟩
theorem DmT.fn(D:DmT K C x q st f fd)(hb:∀(kV doc pm:Ws) (an:Option Wu) (cdv ct:Ws) (us:List Ws),us.length=ps.length->bindArgs (RT x q (nL st) (l3 st) (az st) .none kV doc pm an cdv ct) ⟨us,[]⟩=pure (ps.zip us):=by walk_at "b"):Mn K x q st f fd ps:=⟨D.F,D.F.binds hb⟩
theorem Fn.kp(N:Fn K mg x st f fd ps):Sb K (.ref f)=true:=N.F.kp
end
section
variable {X:Cx} {k:Nat} {f:Wu} {fd:WD} {ps:List Str} {sp:Sp} {st:WK} {x:Str} {p pos:Pos} {e:WC} {es:List WC} {t:TA}
theorem lN(F:aF X.prog X.w X.K X.mg X.base CX0 k f fd ps sp)(hr:bN k X.A)(hg:Gl X x)(N:Fn X.K X.mg x st f fd ps)
 (ha:PA X (e::es) t)(hdb:(x==("__debug__":Str))=false:=by decide)(he:WB (e::es) X.env=(false,eval e X.env)::WB es X.env:=by rfl)(hpl:(WU pos (WB es X.env)).any (·.1)=false:=by rfl):
 PE X (.Call (.Name x p) (e::es) [] pos) (sN sp [] E0 t):=HE F hr hg N.m N.kp N.b .nil CC ha hdb he hpl
end
theorem bO.of{sc:WZ}{N N':List Str}{k:Nat}{fr:List Nat}{scope:WZ}(a:scope.kind= .function:=by rfl)(b:∀y∈scope.names,y.2= .cell->scope.names.lookup y.1=some .cell:=by decide+kernel)(c:∀y∈scope.names,y.2= .local->scope.names.lookup y.1=some .local:=by decide+kernel)(d:N'.Nodup:=by decide+kernel)(e:fr.map (λj=>N[j]?)=(N'.drop k).map some:=by rfl)(f:∀x∈N'.drop k,scope.names.lookup x=some .free:=by decide+kernel)(g:∀y∈scope.names,y.2= .free->sc.names.lookup y.1=some .cell\/sc.names.lookup y.1=some .free:=by decide+kernel)(h:∀x∈N'.drop k,sc.names.lookup x=some .cell\/sc.names.lookup x=some .free:=by decide+kernel)(i:N'.length=k+fr.length:=by rfl):bO sc N N' k fr scope:=⟨a,b,c,d,e,f,g,h,i⟩
theorem aN.of{N P:List Str}{sc:WZ}(a:sc.kind= .function:=by rfl)(b:sc.isCoroutine=false:=by rfl)(c:sc.isGenerator=false:=by rfl)(d:N.Nodup:=by decide+kernel)(e:N.take P.length=P:=by rfl)(f:∀x∈P,sc.names.lookup x=some .local\/sc.names.lookup x=some .cell:=by decide+kernel)(g:∀y∈sc.names,y.2≠ .free:=by decide+kernel):aN N P sc:=⟨a,b,c,d,e,f,g⟩
section
variable {X:Cx} {H0:Hp} {O0:Ex} {pos:Pos} {a b e:WC} {es:List WC} {ta tb t:DT} {u:DA} {r:R2} {rd:Wr->Wr->(Wr->Prop)->Prop}
theorem aS{op:Operator}(ho:bC X (W7 op) r)(hd:cS X.K r rd)(ha:DE X H0 O0 a ta)(hb:DE X H0 O0 b tb):DE X H0 O0 (.BinOp a op b pos) (bE rd ta tb):=Jg ho hd (df ha) (df hb)
theorem aj(ho:qS X r)(hd:cS X.K r rd)(ha:DE X H0 O0 a ta)(hb:DE X H0 O0 b tb)(hs:∀v u,subscripted b false v u=operate [v,u] (X0 v u):=by intro _ _;rfl):DE X H0 O0 (.Subscript a b pos) (bE rd ta tb):=pA ho hd (df ha) (df hb) hs
theorem aD{op:CmpOp}(ho:bC X (WM op) r)(hd:cS X.K r rd)(ha:DE X H0 O0 a ta)(hb:DE X H0 O0 b tb)(hm:W6 op b=false):PT X (.Compare a [op] [b] pos) (cQ X.K H0 O0 (bS (bE rd ta tb))):=Jh ho hd (df ha) (df hb) hm
theorem aA(h:DE X H0 O0 e t)(hs:PA X es (mD X.K H0 O0 u))(he:WB (e::es) X.env=(false,eval e X.env)::WB es X.env:=by rfl):PA X (e::es) (mD X.K H0 O0 (cL t u)):=qT (df h) hs he
theorem ar{k j:Nat}{f:Wu}{fd:WD}{ps:List Str}{F:List Wr->(Wr->Prop)->Prop}{st:WK}{x:Str}{p:Pos}(G:aF X.prog X.w X.K X.mg X.base CX0 k f fd ps (bg X.K F))(hr:bN j X.A)(N:Fn X.K X.mg x st f fd ps)
 (ha:PA X (e::es) (mC X.K H0 O0 u))(hk:k<=j:=by decide)(hg:Gl X x:=by exact rfl)(hdb:(x==("__debug__":Str))=false:=by decide)(he:WB (e::es) X.env=(false,eval e X.env)::WB es X.env:=by rfl)(hpl:(WU pos (WB es X.env)).any (·.1)=false:=by rfl):
 DE X H0 O0 (.Call (.Name x p) (e::es) [] pos) (cN F u):=PE.imp (lN G (hr.mono hk) hg N ha hdb he hpl) C8
end
def EG(f:Obj->Obj):Prop:=∀o,(f o).dict=o.dict/\(o.isFreed=false->(f o).isFreed=false)
inductive QT {α:Type}:Sem α->Prop
 | pure (a:α):QT (.pure a)
 | raise (e:Ws):QT (.raise e)
 | uns (w:String):QT (.unsupported w)
 | rule {t:String} {k:Unit->Sem α}:(∀x,QT (k x))->QT (.rule t k)
 | at {p:Pos} {k:Unit->Sem α}:(∀x,QT (k x))->QT (.at p k)
 | load {a:Wu} {p:Option Ws} {k:Obj->Sem α}:(∀x,QT (k x))->QT (.load a p k)
 | update {a:Wu} {p:Option Ws} {f:Obj->Obj} {k:Unit->Sem α}:EG f->(∀x,QT (k x))->QT (.update a p f k)
 | alloc {o:Obj} {k:Wu->Sem α}:(∀x,QT (k x))->QT (.alloc o k)
 | alive {a:Wu} {k:Option Obj->Sem α}:(∀x,QT (k x))->QT (.loadIfAlive a k)
 | point {l:List Ws} {k:Unit->Sem α}:(∀x,QT (k x))->QT (.point l k)
 | reg {a:Wu} {k:Unit->Sem α}:QT (.register a k)
 | fresh {k:Tok->Sem α}:(∀x,QT (k x))->QT (.fresh k)
 | ask {k:Setting->Sem α}:(∀x,QT (k x))->QT (.ask k)
 | stack {k:List (Code×Pos)->Sem α}:(∀x,QT (k x))->QT (.stack k)
def DK(h h':WG):Prop:=∀b o,h.get? b=some o->∃o',h'.get? b=some o'/\o'.dict=o.dict
theorem DK.refl(h:WG):DK h h:=λb o e=>⟨o,e,rfl⟩
theorem DK.trans{h1 h2 h3:WG}(x:DK h1 h2)(y:DK h2 h3):DK h1 h3:=λb o e=>by
 obtain⟨o',e',d'⟩:=x b o e;obtain⟨o2,e2,d2⟩:=y b o' e';exact⟨o2,e2,d2.trans d'⟩
theorem QT.and{α:Type}{M:XM}{Γ:PySem.Ctx}{E:Ws->Pos->Wv->Prop}{Q:α->Pos->Wv->Prop}{t:Sem α}(h:QT t):∀{p:Pos}{s:Wv},Su M Γ t Q E p s->Su M Γ t (λa p' s'=>Q a p' s'/\DK s.heap s'.heap) (λe p' s'=>E e p' s'/\DK s.heap s'.heap) p s:=by
 have lift:∀{t:Sem α}{h0:WG}{p:Pos}{s:Wv},DK h0 s.heap->Su M Γ t (λa p' s'=>Q a p' s'/\DK s.heap s'.heap) (λe p' s'=>E e p' s'/\DK s.heap s'.heap) p s->Su M Γ t (λa p' s'=>Q a p' s'/\DK h0 s'.heap) (λe p' s'=>E e p' s'/\DK h0 s'.heap) p s:=λhd hw=>
  Sem.wp_mono _ _ _ (λa p' s' z=>⟨z.1,hd.trans z.2⟩) (λa p' s' z=>⟨z.1,hd.trans z.2⟩) _ _ hw
 induction h with
 | pure a=>intro p s w;rw [Su] at w⊢;exact⟨w,.refl _⟩
 | raise e=>intro p s w;rw [Su] at w⊢;exact⟨w,.refl _⟩
 | uns e=>intro p s w;rw [Su] at w;exact w.elim
 | rule _ ih=>intro p s w;rw [Su] at w⊢;exact ih _ w
 | «at» _ ih=>intro p s w;rw [Su] at w⊢;exact ih _ w
 | load _ ih=>
  intro p s w;rw [Su] at w⊢;obtain⟨o,e,w⟩:=w;exact⟨o,e,ih _ w⟩
 | @update a _ f _ hf _ ih=>
  intro p s w;rw [Su] at w⊢;refine⟨w.1,lift (λb o e=>?_) (ih _ w.2)⟩;by_cases hb:a=b
  ·subst hb;have fo:o.isFreed=false:=(Heap.get?_some_iff.mp e).2;exact⟨f o,Rk f e ((hf o).2 fo),(hf o).1⟩
  ·exact⟨o,(RG _ f hb).trans e,rfl⟩
 | alloc _ ih=>
  intro p s w;rw [Su] at w⊢;exact lift (λb o e=>⟨o,Py _ e,rfl⟩) (ih _ w)
 | alive _ ih=>intro p s w;rw [Su] at w⊢;exact ih _ w
 | point _ ih=>intro p s w;rw [Su] at w⊢;exact ih _ w
 | reg=>intro p s w;rw [Su] at w;exact w.elim
 | fresh _ ih=>intro p s w;rw [Su] at w⊢;exact ih _ w
 | ask _ ih=>intro p s w;rw [Su] at w⊢;exact ih _ w
 | stack _ ih=>intro p s w;rw [Su] at w⊢;exact ih _ w
theorem QT.bind{α β:Type}{x:Sem α}{f:α->Sem β}(h:QT x)(hf:∀a,QT (f a)):QT (x >>=f):=by
 show QT (Sem.bind x f)
 induction h with
 | pure a=>exact hf a
 | raise e=>exact .raise e
 | uns w=>exact .uns w
 | rule _ ih=>exact .rule ih
 | «at» _ ih=>exact .at ih
 | load _ ih=>exact .load ih
 | update k _ ih=>exact .update k ih
 | alloc _ ih=>exact .alloc ih
 | alive _ ih=>exact .alive ih
 | point _ ih=>exact .point ih
 | reg=>exact .reg
 | fresh _ ih=>exact .fresh ih
 | ask _ ih=>exact .ask ih
 | stack _ ih=>exact .stack ih
theorem LB(f:Array Ws->Array Ws):EG (U2 f):=λo=>by
 obtain⟨c,d,dt,sl⟩:=o;cases dt <;> exact⟨rfl,λh=>h⟩
theorem LC(v:Ws):QT (fieldsOf v):=by
 unfold fieldsOf;split
 ·refine .bind (.load λx=>.pure x) λo=>?_;split
  ·exact .pure _
  ·exact .uns _
 ·exact .uns _
theorem vq(v:Ws)(i:Nat):QT (Wh v i):=by
 unfold Wh;refine .bind (LC v) λvs=>?_;split
 ·exact .pure _
 ·exact .uns _
theorem AL(v:Ws)(i:Nat)(x:Ws):QT (setField v i x):=by
 unfold setField;split
 ·unfold updateField;refine .bind (.load λx=>.pure x) λo=>?_;split
  ·split
   ·exact .update (LB _) λx=>.pure x
   ·exact .uns _
  ·exact .uns _
 ·exact .uns _
theorem EH:∀l:List Env,QT (readyFrames l)
 | []=>.pure _
 | env::outer=>by
  unfold readyFrames;split
  ·refine .bind (.load λx=>.pure x) λo=>?_;split
   ·exact .pure _
   ·refine .bind ?_ λa=>.bind ?_ λb=>.bind (.update (λo=>⟨rfl,?_⟩) λx=>.pure x) λ_=>EH outer
    ·unfold behindIsImport;split
     ·exact .pure _
     ·split
      ·exact .pure _
      ·exact .bind (vq _ _) λ_=>.pure _
    ·unfold keptBack;split
     ·split
      ·exact .pure _
      ·unfold underTheClaimsCaller;exact .bind (.bind (.stack λx=>.pure x) λ_=>.pure _) λ_=>.pure _
     ·exact .pure _
    ·obtain⟨c,d,dt,sl⟩:=o;cases dt <;> exact λh=>h
  ·exact .uns _
theorem LD(env:Env):QT (U3 env):=by
 unfold U3 frameEnvs;refine .bind (.bind (.stack λx=>.pure x) λ_=>.pure _) λl=>.bind ?_ λo=>?_
 ·generalize l.dropWhile _=m;cases m with
  | nil=>exact .pure _
  | cons a r=>unfold frameObject;exact .bind (EH _) λ_=>.pure _
 ·split
  ·exact .pure _
  ·exact .uns _
theorem LG(f:Wu)(b:Bool):QT (entryPlaceOf f b):=by
 unfold entryPlaceOf;refine .bind (.stack λx=>.pure x) λacts=>?_;split <;> exact .pure _
theorem LH(a b c d e:Ws)(l:List Ws):QT (TV a b c d e l):=by
 have fin:∀x:Data,QT (newObjAsIs (.type "traceback") x):=λx=>by
  unfold newObjAsIs;exact .bind (.alloc λx=>.pure x) λ_=>.pure _
 have key:∀xs:Array Ws,QT (newObj (.type "traceback") (.fields xs)):=λxs=>by
  unfold newObj;dsimp only;split
  ·exact .bind (.uns _) λ_=>fin _
  ·exact fin _
 unfold TV newFields;exact key _
theorem EI(e:Ws)(env:Env):QT (X1 e env):=by
 unfold X1;split
 ·refine .bind (vq _ _) λh=>?_;have tail:∀f:Wu,QT (do setField e 1 (<-TV h (<-U3 env) .none (W9 f) .none (<-entryPlaceOf f (h != .none)))):=λf=>.bind (LD env) λ_=>.bind (LG _ _) λ_=>.bind (LH ..) λ_=>AL ..;split
  ·refine .bind (vq _ _) λg=>?_;split
   ·exact .pure _
   ·exact .bind (AL ..) λ_=>tail _
  ·exact tail _
 ·exact .uns _
theorem EJ(e:Ws)(o:Option Wu):QT (Yf e o):=by
 unfold Yf;refine .bind (vq _ _) λh=>?_;split
 ·exact AL ..
 ·exact .pure _
theorem LJ(env:Env)(e:Ws):QT (leaving env e):=by
 unfold leaving;exact .bind (EI _ _) λ_=>EJ _ _
theorem LK{M:XM}{A:WL}{env:Env}{e:Ws}{Q:Unit->Wv->Prop}{E:Ws->Wv->Prop}{s:Wv}(h:Wx M A (leaving env e) Q E s):Wx M A (leaving env e) (λa s'=>Q a s'/\DK s.heap s'.heap) (λv s'=>E v s'/\DK s.heap s'.heap) s:=
 fun Γ p hΓ=>(LJ env e).and (h Γ p hΓ)
def kq(P:WH)(w:WJ):kR:=λouter H s E ev s'=>∃(e:Wu)(cls a0:Ws)(B:WG)(H':Hp),ev= .ref e/\s'.os=s.os/\XJ s'.gens/\SH B outer e cls a0 s'.heap/\bQ P w H' B/\
 Un (cF outer) [] H H' s.heap s'.heap/\(∀b o,s.heap.get? b=some o->H b=none->b ∉ cF outer->B.get? b=some o)/\(∀b o,s.heap.get? b=some o->b ∉ cF outer->∃o',B.get? b=some o')/\∃oe,s'.heap.get? e=some oe/\E cls oe.dict H'
def mX(H:Hp)(e:Wu):Hp:=λb=>if b=e then none else H b
theorem rG{H:Hp}{e b:Wu}(h:b≠e):mX H e b=H b:=Wm h
theorem bQ.out{P:WH}{w:WJ}{H:Hp}{h:WG}(x:bQ P w H h){e:Wu}{φ:WG->Prop}(he:H e=some (.ext φ)):bQ P w (mX H e) h:=λa o q=>by
 have ne:a≠e:=λz=>by rw [z] at q;unfold mX at q;rw [Wn rfl] at q;cases q
 rw [rG ne] at q;have k:∀b u,H b=some u->(∀φ,u≠ .ext φ)->mX H e b=some u:=λb u hb hn=>by
  rw [rG (λz=>by rw [z,he] at hb;cases hb;exact hn φ rfl)];exact hb
 exact(x a o q).stay (λ_ _ _ z=>z) (λb z=>k b _ z λ_ y=>by cases y) (λb xs z=>k b _ z λ_ y=>by cases y) λb z y=>k b _ y λ_ y=>by cases y
section
variable {P:WH} {w:WJ} {K:Pq} {mg:Str->Option Ws} {base:WG} {N:List Str} {qual:Str} {scope:WZ} {f:Wu} {cd:Ws} {A:WL} {outer:List Env} {s:Wv} {H:Hp} {E:XK}
theorem LL{Yn:List (Wu×Obj)}{σ:St}{H1:Hp}{s1:Wv}{e:Wu}{oe:Obj}{vs:Array Ws}{a0:Ws}{φ:WG->Prop}
 (I:ag (j9 (kq P w) P w K mg base N qual scope f cd A outer s H E) Yn σ H1 s1)(he:s1.heap.get? e=some oe)(hd:oe.data= .fields vs)(h0:vs[0]?=some a0)(h1:vs[1]?=some .none)(ne0:s.heap.get? e=none)(hE:H1 e=some (.ext φ))
 (q:E oe.cls oe.dict (mX H1 e)):(j9 (kq P w) P w K mg base N qual scope f cd A outer s H E).xe (.ref e) s1:=by
 have st:=I.stack;have sf:=I.stkFree;have ub:Un (cF outer) [] H H1 s.heap s1.heap:=I.base;have fo:s1.heap.FunFrames base outer:=I.funs;have hin:∀env∈(j9 (kq P w) P w K mg base N qual scope f cd A outer s H E).stack,∀a,env.frame=some a->a∈e::cF (j9 (kq P w) P w K mg base N qual scope f cd A outer s H E).stack:=λenv he a hf=>Q2 _ (TY.mpr ⟨env,he,hf⟩);have bn:=hideAll_none (e::cF (j9 (kq P w) P w K mg base N qual scope f cd A outer s H E).stack) (h:=s1.heap) (b:=e) RC;show Wx (Wy P w) _ (leaving _ (.ref e)) _ _ _;refine WR (LK (Q:=λ_ s'=>∃h',s'={s1 with heap:=h'}/\Heap.LeftW (hideAll s1.heap (e::cF (j9 (kq P w) P w K mg base N qual scope f cd A outer s H E).stack)) (j9 (kq P w) P w K mg base N qual scope f cd A outer s H E).stack e oe.cls a0 s1.heap h') (wpAny_leaving_firstW I.ok.frames (funFrames_hide st hin) rfl he (λb o z=>of_hideAll _ z) bn hd h1 h0 λh' hL=>⟨h',rfl,hL⟩)) (λ_ s' hs=>?_) (λ_ _ z=>z.1);obtain⟨⟨h2,rfl,k1,⟨_,_,k2⟩,k3,k4⟩,dk⟩:=hs;have nst:∀b o,s.heap.get? b=some o->b ∉ cF outer->b ∉ e::cF (j9 (kq P w) P w K mg base N qual scope f cd A outer s H E).stack:=λb o eb hb hm=>by
  rcases Pz.mp hm with z | hm
  ·rw [z,ne0] at eb;cases eb
  rcases Pz.mp (I.stkSub b hm) with z | z
  ·have h1:=PQ eb;have h2:=I.ok.above;rw [<-z] at h2;exact absurd (QX h1 h2) (RP _)
  ·exact hb z
 have up:∀b∈cF outer,∀o,s1.heap.get? b=some o->∃sl,h2.get? b=some {o with slots:=sl}:=λb hb o eo=>by
  obtain⟨_,o',ho',hd⟩:=fo.mem hb;rw [eo] at ho';cases ho';exact k4 b o eo hd
 have out:∀b o,s.heap.get? b=some o->mX H1 e b=H1 b:=λb o eb=>rG λz=>by rw [z,ne0] at eb;cases eb
 have oux:∀b u,H1 b=some u->(∀φ,u≠ .ext φ)->mX H1 e b=some u:=λb u hb hn=>by
  rw [rG (λz=>by rw [z,hE] at hb;cases hb;exact hn φ rfl)];exact hb
 obtain⟨oe',he',dd⟩:=dk e oe he;refine⟨e,oe.cls,a0,_,mX H1 e,rfl,I.os,I.bare,⟨k1,bn,k2,k3⟩,(bQ.out I.hok hE).hide (λb hb=>?_),⟨λb o eb n hb hx'=>?_,λb o eb n hb hx'=>?_,λb o eb n hx'=>?_,λb o eb hx'=>?_,λb xs z=>oux b _ (ub.tups b xs z) λ_ y=>(by cases y),λb o u z=>oux b _ (ub.frzs b o u z) λ_ y=>(by cases y),λb ps z=>?_⟩,λb o eb n hb=>?_,λb o eb hb=>?_,oe',he',by rw [dd];exact q⟩
 ·rcases Pz.mp hb with z | z
  ·rw [z];exact Wn rfl
  ·unfold mX;split
   ·rfl
   ·exact sf b z
 ·exact k1 b o (X9 _ (ub.keep b o eb n hb hx') (nst b o eb hb))
 ·obtain⟨sl,es⟩:=ub.slot b o eb n hb hx';obtain⟨sl',es'⟩:=up b hb _ es;exact⟨sl',es'⟩
 ·rw [out b o eb];exact ub.free b o eb n hx'
 ·obtain⟨o',eo'⟩:=ub.there b o eb hx';by_cases hb:b∈cF outer
  ·obtain⟨sl',es'⟩:=up b hb _ eo';exact⟨_,es'⟩
  ·exact⟨o',k1 b o' (X9 _ eo' (nst b o eb hb))⟩
 ·obtain⟨more,hm⟩:=ub.tbls b ps z;exact⟨more,oux b _ hm λ_ y=>(by cases y)⟩
 ·exact X9 _ (ub.keep b o eb n hb Wq) (nst b o eb hb)
 ·obtain⟨o',eo'⟩:=ub.there b o eb Wq;exact⟨o',X9 _ eo' (nst b o eb hb)⟩
end
def kN(e:Wu)(C:Ws)(dd:Option Wu)(h:WG):Prop:=∃o,h.get? e=some o/\o.cls=C/\o.dict=dd/\notCls o=true
theorem EK{M:XM}{A:WL}{env:Env}{e:Ws}{Q:Unit->Wv->Prop}{E:Ws->Wv->Prop}{s:Wv}(h:Wx M A (X1 e env) Q E s):Wx M A (X1 e env) (λa s'=>Q a s'/\DK s.heap s'.heap) (λv s'=>E v s'/\DK s.heap s'.heap) s:=
 fun Γ p hΓ=>(EI e env).and (h Γ p hΓ)
theorem vt{M:XM}{A:WL}{e:Ws}{o:Option Wu}{Q:Unit->Wv->Prop}{E:Ws->Wv->Prop}{s:Wv}(h:Wx M A (Yf e o) Q E s):Wx M A (Yf e o) (λa s'=>Q a s'/\DK s.heap s'.heap) (λv s'=>E v s'/\DK s.heap s'.heap) s:=
 fun Γ p hΓ=>(EJ e o).and (h Γ p hΓ)
section
variable {X:Cx} {CX:kR} {k:Nat} {f C C':Wu} {fd:WD} {ps:List Str} {sp:Sp} {x c n:Str} {p cp ep np hp tp:Pos} {a:WC} {as:List WC} {b₀:WK} {suite:List WK} {t:TA} {i j:Nat} {ts:TS} {y:Str} {yp:Pos}
def LN(sp:Sp)(t:TA)(C:Wu)(i j:Nat)(ts:TS):TS:=λD σ H=>t σ H λvs H1=>sp vs H1 (λv H2=>D.nx (σ.set j (some v)) H2) (λcls dd H2=>cls= .ref C/\∀e,H2 e=none->
 ts {nx:=λσ' H'=>D.nx (σ'.set i none) H',rt:=λ_ _=>False} (σ.set i (some (.ref e))) (ao H2 e (.ext (kN e (.ref C) dd))))
end
open PySem PySem.Spec PyProof.Rows PySem.W PySem.Calls PySem.Builtin.ObjectAttr PySem.Builtin
section
variable {prog:WH} {w:WJ} {A:WL} {E:Ws->Wv->Prop} {s:Wv} {K:Pq} {x C:Wu} {ox:Obj} {od:Obj} {name:Str} {v:Ws}
theorem LO{tk:Tok}{Q:Fin->Wv->Prop}(Z:lP K C)(X:K.In s.heap)(J:SY s.heap x ox C (some od))(hf:findObj K C (some od) name=some (.value v))(hq:Q (.done (.ret v)) s):
 Wx (Wy prog w) A (Builtin.«object.__getattribute__» ⟨[.ref x,.str name tk],[]⟩) Q E s:=by
 obtain⟨hh,gg,dr,tt,os⟩:=s;have p:kS x (.ref C) hh:=⟨ox,J.at_,J.cls⟩;have L0:=kS.type (M:=Wy prog w) p;have LF:=looks_find (M:=Wy prog w) X J hf;unfold Builtin.«object.__getattribute__»
 repeat (first | with_reducible refine Wt (L0.at ?_) | with_reducible refine Wt (LF.at ?_) | wp_step)
 exact hq
theorem LP{tk:Tok}{R:Yc->Wv->Prop}(Z:lP K C)(X:K.In s.heap)(J:SY s.heap x ox C (some od))(hf:findObj K C (some od) name=some (.value v))(hq:R (.ok (.ret v)) s):
 Xo (Wy prog w) A (.call (.builtin "BaseException.__getattribute__") ⟨[.ref x,.str name tk],[]⟩) R s:=
 Xb F.excAttr_ValueError.ga.plain F.entry_bexc_ga (C2 Z X ⟨ox,J.at_,J.cls⟩ (LO Z X J hf hq))
theorem LQ{tk:Tok}{fill expr:Bool}{Q:Ws->Wv->Prop}(Z:lP K C)(X:K.In s.heap)(J:SY s.heap x ox C (some od))(hf:findObj K C (some od) name=some (.value v))(hv:handedIn v=true)(hq:Q v s):
 Wx (Wy prog w) A (getAttrBy (.ref x) (.str name tk) fill expr) Q E s:=by
 obtain⟨hh,gg,dr,tt,os⟩:=s;have p:kS x (.ref C) hh:=⟨ox,J.at_,J.cls⟩;have L0:=kS.type (M:=Wy prog w) p;have L1:=Xp (M:=Wy prog w) X Z.ga;have L2:=Xp (M:=Wy prog w) X Z.hk;have f3:=F.excAttr_ValueError.ga.bind (.ref x);have hx0:(expr && onTheHeap (R7 "BaseException.__getattribute__"))=false:=by cases expr <;> rfl
 have hx2:(R7 "BaseException.__getattribute__"==R7 "object.__getattribute__")=false:=td
 have hx1:(onTheHeap (Qy C) && R7 "BaseException.__getattribute__"==R7 "object.__getattribute__")=false:=by rw [hx2];rfl
 repeat (any_goals (first | assumption | with_reducible refine Wt (L0.at ?_) | with_reducible refine Wt (L1.at ?_) | with_reducible refine L2.at ?_ | wp_step))
 refine LP (s:=⟨hh,gg,dr,tt,os⟩) Z X J hf ?_
 repeat (any_goals (first | assumption | wp_step))
 show Wx _ _ (handedOut v) _ _ _;rw [handedOut_of hv];exact Ww hq
theorem LR{expr:Bool}{Q:Ws->Wv->Prop}(Z:lP K C)(X:K.In s.heap)(J:SY s.heap x ox C (some od))(hf:findObj K C (some od) name=some (.value v))(hv:handedIn v=true)(hq:Q v {s with toks:=s.toks+1}):
 Wx (Wy prog w) A (getAttr (.ref x) name expr) Q E s:=by
 obtain⟨hh,gg,dr,tt,os⟩:=s;unfold getAttr
 repeat (any_goals (first | assumption | with_reducible apply LQ (s:=⟨hh,gg,dr,tt+1,os⟩) Z X J hf hv | wp_step))
end
section
variable {X:Cx}
def AM(K:Pq)(ta:TE)(f:Str):TE:=λσ H Q=>ta σ H λx H1=>∃(e C d:Wu)(fs:List (Str×V))(v:V),x= .ref e/\H1 e=some (.ext (kN e (.ref C) (some d)))/\H1 d=some (.xd fs)/\lP K C/\hasDictIn K C=true/\Rn K (.ref C) f=some none/\fs.lookup f=some v/\(∀u,aJ v u->handedIn u=true)/\Q v H1
theorem EL{e:WC}{f:Str}{pos:Pos}{ta:TE}(he:PE X e ta)(hb:Xi e f X.env (eval e X.env)=eval e X.env):PE X (.Attribute e f pos) (AM X.K ta f):=by
 intro Yn s σ H Q I h;refine Hz hb (aC (he Yn s σ H _ I h) λu s1 ⟨x,H1,I1,rx,a,C,d,fs,v,ex,ea,ed,Z,hh,ha,l,hv,q⟩=>?_);subst ex;obtain rfl:u=Qy a:=rx;obtain⟨ob,ho,hc,hd,nc⟩:=(show bI X.prog X.w H1 s1.heap a (.ext (kN a (.ref C) (some d))) from I1.hok a _ ea).1;obtain⟨mA,n,r⟩:=(show bI X.prog X.w H1 s1.heap d (.xd fs) from I1.hok d _ ed);obtain⟨w',hw,rw'⟩:=qJ.some_of (v:=v) (o:=mA f) (by rw [<-l];exact r f);obtain⟨od,hod,hl⟩:=Ck n;have J:SY s1.heap a ob C (some od):=⟨ho,hc,nc,by rw [hd];exact hod⟩;exact LR Z I1.kIn J (findObj_own hh ha rfl (by rw [hl,hw])) (hv _ rw') ⟨v,H1,I1.tok _,rw',q⟩
theorem kN.plain{e:Wu}{C:Ws}{dd:Option Wu}{h:WG}(x:kN e C dd h):kS e C h:=let ⟨o,a,b,_⟩:=x;⟨o,a,b⟩
theorem LS:kA X (.builtin "isinstance") (λxs H Q=>∃(dd:Option Wu)(e C:Wu)(c:V)(cv:Ws)(b:Bool),xs=[.ref e,c]/\H e=some (.ext (kN e (.ref C) dd))/\lP X.K C/\(∀u,aJ c u->u=cv)/\SE X.K (.ref C) cv=some b/\Q (.bl b) H):=by
 intro Yn s σ H xs us Q I r h;obtain⟨dd0,e,C,c,cv,b,rfl,he,Z,hc,hk,q⟩:=h;obtain⟨u,w',rfl,rx,rt⟩:=p5 r;cases (show u=Qy e from rx);have:=hc _ rt;subst this;have p:kS e (.ref C) s.heap:=(show bI X.prog X.w H s.heap e (.ext (kN e (.ref C) dd0)) from I.hok e _ he).1.plain;exact RD (C3 Z) I.kIn p hk (λz=>nomatch z) λtk=>⟨.bl b,H,I.tok tk,rfl,q⟩
theorem LU:kA X (.builtin "isinstance") (λxs H Q=>∃(dd:Option Wu)(e C q:Wu)(cs:List Wu)(b:Bool),xs=[.ref e,.ref q]/\H e=some (.ext (kN e (.ref C) dd))/\H q=some (.tup (cs.map V.ref))/\lP X.K C/\S0 X.K (.ref C) (cs.map Qy)=some b/\Q (.bl b) H):=by
 intro Yn s σ H xs us Q I r h;obtain⟨dd0,e,C,q,cs,b,rfl,he,hq,Z,hk,k⟩:=h;obtain⟨u,w',rfl,rx,rt⟩:=p5 r;cases (show u=Qy e from rx);cases (show w'=Qy q from rt);have p:kS e (.ref C) s.heap:=(show bI X.prog X.w H s.heap e (.ext (kN e (.ref C) dd0)) from I.hok e _ he).1.plain;obtain⟨its,rv,⟨⟨oc,od,odt,osl⟩,eo,c,n,dd⟩,_⟩:=I.tuple (aY.of hq);have:=IW rv;subst this;simp only at c dd;subst c dd;exact PySem.W.kia_tup (C3 Z) I.kIn p eo hk (λz=>nomatch z) λtk=>⟨.bl b,H,I.tok tk,rfl,k⟩
end
section
variable {M:XM} {A:WL} {E:Ws->Wv->Prop} {env:Env}
variable {nm q:Str} {C N:Wu} {bs bm:List Ws} {hdct:Bool} {sn:List Str} {sub:List Ws} {ab:Bool} {col:Option Bool} {dd:Option Wu} {k0 k1 k2 k3 k5:Option Ws} {newId:String}
theorem LV{s:Wv}{x:Sem Ws}{Q:Flow->Wv->Prop}(hbase:bm.contains (.type "BaseException")=true)(hh:A.handled=none)
 (h:Wx M A x (λv s₁=>∃e oe vs,v= .ref e/\s₁.heap.get? C=some (W5 nm q C N bs bm hdct sn sub ab col dd k0 k1 k2 k3 k5 newId)/\
  s₁.heap.get? e=some oe/\oe.cls= .ref C/\oe.data= .fields vs/\vs[1]?=some .none/\E (.ref e) s₁) E s):Wx M A (raiseStmt env (some x) none) Q E s:=by
 have hcB:(Qy C::bm).contains (.type "BaseException")=true:=by rw [TZ,hbase,Ur]
 unfold raiseStmt;refine Wt (WR h (λv s₁ h₁=>?_) λ_ _ x=>x);obtain⟨e,oe,vs,rfl,hC,he,hc,hd,h1,hE⟩:=h₁;obtain⟨hp,g,d,tk,os⟩:=s₁;obtain⟨oc,odc,odt,osl⟩:=oe;dsimp only at hc hd;subst hc hd
 repeat (first | with_reducible refine WW he ?_ | with_reducible refine WW hC ?_ | (with_reducible refine Xs hC ?_;rw [hcB]) | wp_step)
 rw [h1]
 repeat (first | wp_step)
 exact wpAny_raiseNew_none hh hE
end
section
variable {prog:WH} {w:WJ} {A:WL} {E:Ws->Wv->Prop} {h:WG} {g:Array XT} {d:Drawn} {t:Nat} {os:OsState}
variable {nm q:Str} {C N:Wu} {bs bm bmB:List Ws} {hdct:Bool} {sn:List Str} {sub:List Ws} {ab:Bool} {col:Option Bool} {dd:Option Wu} {k0 k1 k2 k3 k5:Option Ws} {B newId initId:String}
theorem LW(F:Xr B newId initId bmB)(T:OwnTail h bmB bm){K:Pq}{rest:List Ws}{fI:Wu}{Q:Fin->Wv->Prop}
 (hC:h.get? C=some (W5 nm q C N bs bm hdct sn sub ab col dd k0 k1 k2 k3 k5 newId))(XK:K.In h)(hi:X2 K (.ref C) "__init__"=some (some (.ref fI)))(hf:typeIn K (.ref fI)=some (.type "function"))(hrest:rest.length<=WA)
 (hq:∀h' e,UQ h h' e (.ref C) rest->Wx (Wy prog w) A (call (.ref fI) (.ref e::rest)) (λr s'=>r= .none/\Q (.done (.ret (.ref e))) s') E ⟨h',g,d,t,os⟩):
 Wx (Wy prog w) A (Builtin.«type.__call__» ⟨.ref C::rest,[]⟩) Q E ⟨h,g,d,t,os⟩:=by
 repeat (first | with_reducible refine WW hC ?_ | with_reducible refine wpAny_madeBy_exc hC ?_ | wp_step)
 refine codeAny_call_builtin_code (Tj _ F.quiet) (wpAny_check_new_subT F T hC (codeAny_exc_new_subT F T hC ?_ hrest));show Wx _ _ _ _ _ _;have k:∀b o,h.get? b=some o->((h.push {cls:= .type "tuple",data:= .seq rest.toArray}).push {cls:= .ref C,data:= .fields #[.ref h.objs.size,.none,.none,.none,.bool false,.none]}).get? b=some o:=λb o e=>Py _ (Py _ e);have hget:((h.push {cls:= .type "tuple",data:= .seq rest.toArray}).push {cls:= .ref C,data:= .fields #[.ref h.objs.size,.none,.none,.none,.bool false,.none]}).get? (h.objs.size+1)=some {cls:= .ref C,data:= .fields #[.ref h.objs.size,.none,.none,.none,.bool false,.none]}:=by heap_get
 have htup:((h.push {cls:= .type "tuple",data:= .seq rest.toArray}).push {cls:= .ref C,data:= .fields #[.ref h.objs.size,.none,.none,.none,.bool false,.none]}).get? h.objs.size=some {cls:= .type "tuple",data:= .seq rest.toArray}:=Py _ (Vv rfl rfl);have hcC:(Qy C::bm).contains (.ref C)=true:=Wq
 have made:=λz=>hq ((h.push {cls:= .type "tuple",data:= .seq rest.toArray}).push {cls:= .ref C,data:= .fields #[.ref h.objs.size,.none,.none,.none,.bool false,.none]}) (h.objs.size+1) ⟨k,S8 (SD _),h.objs.size,hget,S8 (PL _),z⟩;have made:=made htup;have hC₁:=k _ _ hC;have X₁:K.In _:=λa o e=>k a o (XK a o e);have T₁:=T.keeps k;unfold isInstance
 repeat (first | with_reducible refine WW hget ?_ | (with_reducible refine Xs hC₁ ?_;rw [hcC]) | wp_step)
 show Wx _ _ (typeLookup (.ref C) _) _ _ _;refine(Xp (M:=Wy prog w) X₁ hi).at ?_;refine WX (Wt ?_);unfold bindSpecial;refine Wt ((looks_typeIn (M:=Wy prog w) X₁ hf).at ?_);rw [Wn tx];refine Ww (Wt (WR made (λr s' hr=>?_) λ_ _ x=>x));obtain⟨rfl,hQ⟩:=hr
 wp_walk
 exact hQ
theorem LX(F:Xr B newId initId bmB)(T:OwnTail h bmB bm){K:Pq}{rest:List Ws}{fI:Wu}{Q:Ws->Wv->Prop}
 (hC:h.get? C=some (W5 nm q C N bs bm hdct sn sub ab col dd k0 k1 k2 k3 k5 newId))(XK:K.In h)(hi:X2 K (.ref C) "__init__"=some (some (.ref fI)))(hf:typeIn K (.ref fI)=some (.type "function"))(hrest:rest.length<=WA)
 (hq:∀h' e,UQ h h' e (.ref C) rest->Wx (Wy prog w) (A.under (.builtin "type.__call__" ⟨.ref C::rest,[]⟩)) (call (.ref fI) (.ref e::rest)) (λr s'=>r= .none/\Q (.ref e) s') E ⟨h',g,d,t,os⟩):
 Wx (Wy prog w) A (call (.ref C) rest) Q E ⟨h,g,d,t,os⟩:=by
 have f1:=tc_lookup;have f2:=tc_bind (.ref C);have hT:(⟨h,g,d,t,os⟩:Wv).TypeIs (.ref C) "type":=⟨_,hC,rfl⟩;refine XN (codeAny_of_tree ?_);show Wx _ _ (callAny (.ref C) _) _ _ _
 repeat (any_goals (first | assumption | with_reducible refine WW hC ?_ | wp_step))
 refine⟨rfl,codeAny_call_builtin_at (Tj _ td) entry_typeCall (wpAny_check_type_call_sub hC (LW F T hC XK hi hf hrest λh' e hm=>hq h' e hm))⟩
end
theorem LY{h:WG}{bmB bm:List Ws}(T:OwnTail h bmB bm)(self:Ws)(what:Str):refuseLoop self what bm=refuseLoop self what bmB:=by
 induction T with
 | base=>rfl
 | own _ _ _ _ ih=>rw [refuseLoop_ref,ih]
section
variable {prog:WH} {w:WJ} {A:WL} {E:Ws->Wv->Prop} {h:WG} {g:Array XT} {d:Drawn} {t:Nat} {os:OsState} {K:Pq}
variable {nm q:Str} {C N x:Wu} {bs bm bmB:List Ws} {sn:List Str} {sub:List Ws} {ab:Bool} {col:Option Bool} {dd:Option Wu} {k0 k1 k2 k3 k5:Option Ws} {B newId sa owner:String} {name:Str} {v:Ws} {o:Obj} {vs:Array Ws}
structure AN (h h':WG) (x:Wu) (o:Obj) (name:Str) (v:Ws) (dx:Wu):Prop where
 at_:h'.get? x=some {cls:=o.cls,dict:=some dx,data:=o.data,slots:=o.slots}
 new:h.get? dx=none
 ne:dx≠x
 ns:h'.Ns1 dx λy=>if y=name then some v else none
 keep:∀b ob,b≠x->h.get? b=some ob->h'.get? b=some ob
theorem LZ{tk:Tok}{Q:Fin->Wv->Prop}(SF:StoreFacts B bmB sa owner)(X:K.In h)(T:OwnTail h bmB bm)
 (hC:h.get? C=some (W5 nm q C N bs bm true sn sub ab col dd k0 k1 k2 k3 k5 newId))(ha:X2 K (.ref C) name=some none)(hx:h.get? x=some o)(hc:o.cls= .ref C)(hd:o.data= .fields vs)(hdn:o.dict=none)
 (hq:∀h' tk' dx,AN h h' x o name v dx->Q (.done (.ret .none)) ⟨h',g,d,tk',os⟩):
 Wx (Wy prog w) A (Builtin.«object.__setattr__» ⟨[.ref x,.str name tk,v],[]⟩) Q E ⟨h,g,d,t,os⟩:=by
 have hpass:refuseLoop (.ref x) "__setattr__" bm=pure ():=(LY T _ _).trans (SF.passes (.ref x));have L:=Xp (M:=Wy prog w) X ha;unfold Builtin.«object.__setattr__»
 repeat (first | rw [refuse_eq] | (rw [refuseLoop_ref,hpass]) | (with_reducible refine WW hx ?_;rw [hc]) | with_reducible refine wpAny_mroOf_exc hC ?_ | with_reducible refine Wt (L.at ?_) | wp_step)
 rw [hdn,hd];dsimp only;rw [Wm (by simp [typeHasDict])];have hx₁:(h.push {cls:= .type "dict",data:= .dict #[]}).get? x=some o:=Py _ hx;have hxs:x≠h.objs.size:=QF (PQ hx);refine Wt (wpAny_alloc' (Wt (wpAny_update' hx₁ (Ww ?_))));have hgd:((h.push {cls:= .type "dict",data:= .dict #[]}).update x λo=>{cls:=o.cls,dict:=some h.objs.size,data:=o.data,slots:=o.slots}).get? h.objs.size=some {cls:= .type "dict",data:= .dict #[]}:=
  (U9 _ _ _ _ hxs.symm).trans (Vv rfl rfl)
 have hnd:((h.push {cls:= .type "dict",data:= .dict #[]}).update x λo=>{cls:=o.cls,dict:=some h.objs.size,data:=o.data,slots:=o.slots}).Ns h.objs.size (λ_=>none):=⟨_,#[],_,hgd,rfl,λe he=>absurd he Wq,λ_=>rfl⟩;show Wx _ _ (storeInDict h.objs.size (.str name tk) name v) _ _ _;unfold storeInDict newKeyGuard;refine Wt (Ww (Wt (wpAny_nsSet1 (Heap.Ns1.of_empty hnd) λh' hn' hs=>?_)));obtain⟨oD,esD,epD,hoD,hdD,hcD⟩:=hn'.count (Within.cons name v Within.nil);refine Wt (wpAny_lookBehind hoD (by rw [hdD];exact pastItsLine_dict (Qt hcD (by rw [Pu,P1,WI];omega))) ?_)
 wp_walk
 refine hq h' _ h.objs.size ⟨?_,S8 (PL _),hxs.symm,hn',λb ob hb e=>?_⟩
 ·refine(hs.2 x hxs).trans (Rk _ hx₁ ?_);obtain⟨oc,od,odt,osl⟩:=o;dsimp only at hd;subst hd;rfl
 ·exact(hs.2 b (QF (PQ e))).trans ((U9 _ _ _ _ hb).trans (Py _ e))
theorem L4{M:XM}{nameV:Ws}{Q:Unit->Wv->Prop}(SF:StoreFacts B bmB sa owner)(T:OwnTail h bmB bm)
 (hC:h.get? C=some (W5 nm q C N bs bm true sn sub ab col dd k0 k1 k2 k3 k5 newId))(hx:h.get? x=some o)(hc:o.cls= .ref C)(hq:Q () ⟨h,g,d,t,os⟩):
 Wx M A (XB sa ⟨[.ref x,nameV,v],[]⟩) Q E ⟨h,g,d,t,os⟩:=by
 have hcB:(Qy C::bm).contains (.type owner)=true:=by rw [TZ,T.hasType SF.hasOwner,Ur]
 have ha:=SF.args (.ref x) nameV v;simp only [XB,SF.kind,SF.split];refine Wt ?_;unfold isInstance
 repeat (first | (with_reducible refine WW hx ?_;rw [hc]) | (with_reducible refine Xs hC ?_;rw [hcB]) | wp_step)
 cases hsig:Manifest.signature? sa with
 | none=>exact Ww hq
 | some sig=>
  simp only [argsOk,hsig] at ha;show Wx M A (VT sa sig ⟨[.ref x,nameV,v],[]⟩) Q E _;rw [show VT sa sig ⟨[.ref x,nameV,v],[]⟩=pure () from ha];exact Ww hq
theorem L5{Q:Unit->Wv->Prop}(SF:StoreFacts B bmB sa owner)(X:K.In h)(T:OwnTail h bmB bm)
 (hC:h.get? C=some (W5 nm q C N bs bm true sn sub ab col dd k0 k1 k2 k3 k5 newId))(hs:X2 K (.ref C) "__setattr__"=some (some (.builtin sa)))(ha:X2 K (.ref C) name=some none)(hx:h.get? x=some o)(hc:o.cls= .ref C)(hd:o.data= .fields vs)(hdn:o.dict=none)
 (hq:∀h' tk' dx,AN h h' x o name v dx->Q () ⟨h',g,d,tk',os⟩):Wx (Wy prog w) A (setAttr (.ref x) name v) Q E ⟨h,g,d,t,os⟩:=by
 have f3:=SF.slot.bind (.ref x);have L:=Xp (M:=Wy prog w) X hs;unfold setAttr callSpecial? specialOf
 repeat (any_goals (first | assumption | (with_reducible refine WW hx ?_;rw [hc]) | with_reducible refine L.at ?_ | with_reducible refine Wt (L.at ?_) | wp_step))
 refine Xb SF.slot.plain SF.entry (L4 SF T hC hx hc (LZ SF X T hC ha hx hc hd hdn λh' tk' dx D=>?_))
 repeat (any_goals (first | assumption | wp_step))
 exact hq h' tk' dx D
end
section
variable {prog:WH} {w:WJ} {A:WL} {E:Ws->Wv->Prop} {h:WG} {g:Array XT} {d:Drawn} {t:Nat} {os:OsState}
variable {nm q:Str} {C N x:Wu} {bs bm bmB:List Ws} {hdct:Bool} {sn:List Str} {sub:List Ws} {ab:Bool} {col:Option Bool} {dd:Option Wu} {k0 k1 k2 k3 k5:Option Ws} {B newId initId:String} {o:Obj} {ta:Wu}
structure EM (h h':WG) (x:Wu) (o:Obj) (t0:Wu):Prop where
 at_:h'.get? x=some {o with data:= .fields #[.ref t0,.none,.none,.none,.bool false,.none]}
 keep:∀b ob,b≠x->h.get? b=some ob->h'.get? b=some ob
theorem L6{rest:List Ws}{Q:Ws->Wv->Prop}(F:Xr B newId initId bmB)(T:OwnTail h bmB bm)(hC:h.get? C=some (W5 nm q C N bs bm hdct sn sub ab col dd k0 k1 k2 k3 k5 newId))
 (hx:h.get? x=some o)(hc:o.cls= .ref C)(hd:o.data= .fields #[.ref ta,.none,.none,.none,.bool false,.none])(hr:rest.length<=WA)(hq:∀h' tk t0,EM h h' x o t0->Q .none ⟨h',g,d,tk,os⟩):
 Wx (Wy prog w) A (call (.builtin initId) (.ref x::rest)) Q E ⟨h,g,d,t,os⟩:=by
 refine XN (Xb F.init.plain F.initEntry (wpAny_check_init_subT F T hC hx hc ?_));obtain⟨oc,od,odt,osl⟩:=o;dsimp only at hc hd;subst hc hd
 wp_walk
 refine hq _ _ h.objs.size ⟨?_,λb ob hb e=>?_⟩
 ·exact Rk _ (Py _ hx) rfl
 ·exact(RG _ _ (Ne.symm hb)).trans (Py _ e)
theorem L7{K:Pq}{s:Wv}{C':Wu}{pl:Sem Bool}{Q:Ws×List Ws->Wv->Prop}(X:K.In s.heap)(hs:specialIn K (.ref C') "__getattribute__"=some (some (.builtin "type.__getattribute__")))(hr:readsIn K C' (.type "type")=true)
 (hf:findCls K (.ref C') (.type "type") "__init__"=some (.val (.builtin initId)))(hh:handedIn (.builtin initId)=true)(hq:Q (.builtin initId,[]) {s with toks:=s.toks+1}):Wx (Wy prog w) A (getMethod (.ref C') "__init__" pl) Q E s:=
 method_cls X hs (cls_value X hr hf hh hq)
end
def mK(e:Wu)(C:Ws)(h:WG):Prop:=∃ta,h.get? e=some {cls:=C,data:= .fields #[.ref ta,.none,.none,.none,.bool false,.none]}
def nV(e:Wu)(C:Ws)(d:Wu)(h:WG):Prop:=∃ta,h.get? e=some {cls:=C,dict:=some d,data:= .fields #[.ref ta,.none,.none,.none,.bool false,.none]}
def pJ(K:Pq)(C:Wu)(bmB:List Ws)(newId:String):Bool:=match K.lookup C with
 | some ⟨.type "type",_,.cls cd,sl⟩=>(match cd.mro,sl.toList with
  | .ref C'::bm,[_,_,_,_,some (.builtin n),_]=>C'==C && n==newId && !cd.hasDel && cd.hasDict && tailIn K bmB bm && nsOkIn K cd.ns
  | _,_=>false)
 | _=>false
theorem qy{K:Pq}{h:WG}{C:Wu}{bmB:List Ws}{newId:String}(X:K.In h)(q:pJ K C bmB newId=true):
 ∃(bm:List Ws)(nm qn:Str)(N:Wu)(bs:List Ws)(sn:List Str)(sub:List Ws)(ab:Bool)(col:Option Bool)(dd:Option Wu)(k0 k1 k2 k3 k5:Option Ws),
  h.get? C=some (W5 nm qn C N bs bm true sn sub ab col dd k0 k1 k2 k3 k5 newId)/\h.Ns N (h.nsMap N)/\OwnTail h bmB bm:=by
 unfold pJ at q;split at q
 ·rename_i dd cd sl ho;split at q
  ·rename_i C' bm k0 k1 k2 k3 n k5 hm hs;simp only [P6,beq_iff_eq,P5] at q;obtain⟨⟨⟨⟨⟨rfl,rfl⟩,hdel⟩,hdi⟩,ht⟩,hok⟩:=q;obtain⟨nm,bs,mro,ns,qn,hd,sn,sub,ab,col,del⟩:=cd;dsimp only at hm hdel hdi hok;subst hm hdel hdi;have hsl:sl=#[k0,k1,k2,k3,some (.builtin n),k5]:=by
    obtain⟨l⟩:=sl;simp only at hs;rw [hs]
   subst hsl;exact⟨bm,nm,qn,ns,bs,sn,sub,ab,col,dd,k0,k1,k2,k3,k5,X _ _ ho,.of_isNs (isNs_of_in X hok),tail_of_in X ht⟩
  ·cases q
 ·cases q
section
variable {X:Cx} {Yn:List (Wu×Obj)} {σ:St} {H:Hp} {s:Wv} {h':WG} {e C d:Wu} {f:Str} {v:V} {u:Ws}
theorem ag.reargs{tk:Tok}{o:Obj}{t0:Wu}(I:ag X Yn σ H s)(he:H e=some (.ext (mK e (.ref C))))(ho:∃ta,o={cls:= .ref C,data:= .fields #[.ref ta,.none,.none,.none,.bool false,.none]})(R:EM s.heap h' e o t0):ag X Yn σ (ao H e (.ext (mK e (.ref C)))) {s with heap:=h',toks:=tk}:=by
 obtain⟨ta,rfl⟩:=ho;exact I.write (by rw [he];exact RK) (.inl rfl) R.keep ⟨_,R.at_⟩ ⟨⟨t0,R.at_⟩,⟨_,R.at_⟩,λh1 h2 uu30 k=>by obtain⟨x,z⟩:=uu30;exact⟨x,k _ z⟩⟩
theorem ag.dicted{tk:Tok}{o:Obj}(I:ag X Yn σ H s)(he:H e=some (.ext (mK e (.ref C))))(ho:∃ta,o={cls:= .ref C,data:= .fields #[.ref ta,.none,.none,.none,.bool false,.none]})(rv:aJ v u)(D:AN s.heap h' e o f u d):
 ag X Yn σ (ao (ao H d (.xd [(f,v)])) e (.ext (nV e (.ref C) d))) {s with heap:=h',toks:=tk}:=by
 obtain⟨ta,rfl⟩:=ho;have hd0:H d=none:=by
  cases z:H d with
  | none=>rfl
  | some w'=>obtain⟨ob,hb⟩:=(I.hok d w' z).there;rw [D.new] at hb;cases hb
 have ne:∀b w',H b=some w'->(∀φ,w'≠ .ext φ)->b≠e/\b≠d:=λb w' z n=>⟨λy=>by rw [y,he] at z;cases z;exact n _ rfl,λy=>by rw [y,hd0] at z;cases z⟩;have oth:∀b,b≠e->b≠d->ao (ao H d (.xd [(f,v)])) e (.ext (nV e (.ref C) d)) b=H b:=λb h1 h2=>by rw [ay h1,ay h2]
 have keepX:∀b w',H b=some w'->(∀φ,w'≠ .ext φ)->ao (ao H d (.xd [(f,v)])) e (.ext (nV e (.ref C) d)) b=some w':=λb w' z n=>by
  obtain⟨h1,h2⟩:=ne b w' z n;rw [oth b h1 h2];exact z
 have nE:∀b,H b=none->b≠e:=λb n y=>by rw [y,he] at n;cases n
 refine I.un ⟨λb o eb n _ _=>D.keep b o (nE b n) eb,λb o eb n _ _=>⟨o.slots,D.keep b o (nE b n) eb⟩,λb o eb n _=>?_,λb o eb _=>?_,λb xs z=>keepX b _ z λ_ y=>(by cases y),λb o w' z=>keepX b _ z λ_ y=>(by cases y),λb ps z=>⟨#[],by rw [Vl];exact keepX b _ z λ_ y=>(by cases y)⟩⟩ λb w' z=>?_
 ·rw [oth b (nE b n) λy=>by rw [y,D.new] at eb;cases eb];exact n
 ·by_cases hb:b=e
  ·rw [hb];exact⟨_,D.at_⟩
  ·exact⟨o,D.keep b o hb eb⟩
 ·by_cases hb:b=e
  ·subst hb;rw [bu] at z;cases z;exact⟨⟨ta,D.at_⟩,⟨_,D.at_⟩,λh1 h2 uu31 k=>by obtain⟨x,z⟩:=uu31;exact⟨x,k _ z⟩⟩
  ·rw [ay hb] at z;by_cases hb2:b=d
   ·subst hb2;rw [bu] at z;cases z;refine⟨_,D.ns,λy=>?_⟩;by_cases hy:y=f
    ·subst hy;rw [Wn rfl,Q6,beq_self_eq_true];exact rv
    ·rw [Wm hy,Q6,show(y==f)=false from by simpa using hy];exact RK
   ·rw [ay hb2] at z;refine(I.hok b w' z).stay (λb' u' hb' q=>D.keep b' u' (λy=>?_) q) (λb' z'=>keepX b' _ z' λ_ y=>(by cases y)) (λb' xs z'=>keepX b' _ z' λ_ y=>(by cases y)) λb' xs z'=>keepX b' _ z' λ_ y=>(by cases y);rcases hb' with r | r
    ·exact hb (r.symm.trans y)
    ·rw [y,he] at r;cases r
end
section
variable {X:Cx} {C C':Wu} {c:Str} {np ap cp pos pos':Pos} {a:WC} {as:List WC} {ta:TA} {B newId initId:String} {bmB:List Ws} {pl:Sem Bool}
def EN(C:Wu)(ta:TA):TS:=λD σ H=>ta σ H λvs H1=>∃e rest,vs= .ref e::rest/\rest.length<=WA/\H1 e=some (.ext (mK e (.ref C)))/\D.nx σ (ao H1 e (.ext (mK e (.ref C))))
theorem L8(hmc:X.mg c=some (.ref C'))(hgc:Gl X c)(hs:specialIn X.K (.ref C') "__getattribute__"=some (some (.builtin "type.__getattribute__")))(hr:readsIn X.K C' (.type "type")=true)
 (hf:findCls X.K (.ref C') (.type "type") "__init__"=some (.val (.builtin initId)))(hh:handedIn (.builtin initId)=true)(F:Xr B newId initId bmB)(hO:pJ X.K C bmB newId=true)(ha:PA X (a::as) ta)
 (ht:eval (.Call (.Attribute (.Name c np) "__init__" ap) (a::as) [] cp) X.env=(do
  let ov<-eval (.Name c np) X.env
  standAt ap.atName
  let (f,first)<-XZ [ov] (getMethod ov "__init__" pl)
  callWith cp f first (WU cp (WB (a::as) X.env)) (X6 cp (XF [] X.env))):=by rfl)
 (hdc:(c==("__debug__":Str))=false:=by decide)(he:WB (a::as) X.env=(false,eval a X.env)::WB as X.env:=by rfl)(hpl:(WU cp (WB as X.env)).any (·.1)=false:=by rfl)
 (hsw:W2 (.Call (.Attribute (.Name c np) "__init__" ap) (a::as) [] cp) none pos.line X.env=pure false:=by rfl):
 PS X (.Expr (.Call (.Attribute (.Name c np) "__init__" ap) (a::as) [] cp) pos) (EN C ta):=by
 intro Yn s σ H D I h;refine wpAny_Expr_any (PySem.W.methodCall_KW (pl:=pl) (oW I hgc hmc ?_ hdc) ht) I.quiet hsw;refine L7 I.kIn hs hr hf hh ?_;have hA:=ha cp Yn _ σ H _ (I.tok (s.toks+1)) h;rw [he] at hA⊢;refine UE (by show(false || (WU cp (WB as X.env)).any (·.1))=false;rw [hpl];rfl) (UU ?_);refine aC hA λus s1 ⟨vs,H1,I1,r,e,rest,ev,hl,hE,q⟩=>?_;subst ev;cases r with
 | cons r0 r1=>
  cases r0;obtain⟨ta0,hx⟩:=(show bI X.prog X.w H1 s1.heap e (.ext (mK e (.ref C))) from I1.hok e _ hE).1;obtain⟨bm,nm,qn,N,bs,sn,sub,ab,col,dd,k0,k1,k2,k3,k5,hC,_,T⟩:=qy I1.kIn hO;obtain⟨hp,gg,dr,tk,os⟩:=s1;refine L6 F T hC hx rfl rfl (by rw [<-r1.length];exact hl) λh2 tk2 t0 R=>?_;exact⟨σ,_,I1.reargs hE ⟨ta0,rfl⟩ R,q⟩
def EO(C:Wu)(f:Str)(to tv:TE):TS:=λD σ H=>tv σ H λv H1=>to σ H1 λx H2=>∃e,x= .ref e/\H2 e=some (.ext (mK e (.ref C)))/\∀d,H2 d=none->d≠e->D.nx σ (ao (ao H2 d (.xd [(f,v)])) e (.ext (nV e (.ref C) d)))
theorem L9{o value:WC}{f:Str}{to tv:TE}{sa owner:String}(ho:PE X o to)(hv:PE X value tv)(SF:StoreFacts B bmB sa owner)(hO:pJ X.K C bmB newId=true)(hsa:X2 X.K (.ref C) "__setattr__"=some (some (.builtin sa)))(ha:X2 X.K (.ref C) f=some none)
 (hs:W2 value (some (.Attribute o f pos')) pos.line X.env=pure false:=by rfl):PS X (.Assign [.Attribute o f pos'] value pos) (EO C f to tv):=by
 intro Yn s σ H D I h;refine plainObj_wpAny_Assign_Attribute (aC (hv Yn s σ H _ I h) λu s1 ⟨y,H1,I1,ry,q⟩=>aC (ho Yn s1 σ H1 _ I1 q) λov s2 ⟨x,H2,I2,rx,e,ex,hE,q2⟩=>?_) hs;subst ex;obtain rfl:ov=Qy e:=rx;obtain⟨ta0,hx⟩:=(show bI X.prog X.w H2 s2.heap e (.ext (mK e (.ref C))) from I2.hok e _ hE).1;obtain⟨bm,nm,qn,N,bs,sn,sub,ab,col,dd,k0,k1,k2,k3,k5,hC,_,T⟩:=qy I2.kIn hO;obtain⟨hp,gg,dr,tk,os⟩:=s2;refine L5 SF I2.kIn T hC hsa ha hx rfl rfl rfl λh2 tk2 dx D2=>?_;have d0:H2 dx=none:=by
  cases z:H2 dx with
  | none=>rfl
  | some w'=>obtain⟨ob,hb⟩:=(I2.hok dx w' z).there;rw [D2.new] at hb;cases hb
 exact⟨σ,_,I2.dicted hE ⟨ta0,rfl⟩ ry D2,q2 dx d0 D2.ne⟩
end
structure MkX (K:Pq) (C f:Wu) (bmB:List Ws) (newId:String):Prop where
 seen:pJ K C bmB newId=true
 init:Rn K (.ref C) "__init__"=some (some (.ref f))
 fn:Vk K (.ref f)=true
 kp:Sb K (.ref C)=true
section
variable {X:Cx} {CX:kR} {k:Nat} {f C:Wu} {fd:WD} {ps:List Str} {sp:Sp} {x:Str} {np cpos pos:Pos} {e:WC} {es:List WC} {t:TA} {B newId initId:String} {bmB:List Ws}
theorem ag.raw{Yn:List (Wu×Obj)}{σ:St}{H:Hp}{s:Wv}{h':WG}{a:Wu}{args:List Ws}{tk:Tok}(I:ag X Yn σ H s)(hm:UQ s.heap h' a (.ref C) args):H a=none/\ag X Yn σ (ao H a (.ext (mK a (.ref C)))) {s with heap:=h',toks:=tk}:=by
 obtain⟨ta,he,_,_⟩:=hm.there;have h0:H a=none:=by
  cases z:H a with
  | none=>rfl
  | some w'=>obtain⟨ob,hb⟩:=(I.hok a w' z).there;rw [hm.new] at hb;cases hb
 have keepX:∀b w',H b=some w'->ao H a (.ext (mK a (.ref C))) b=some w':=λb w' z=>by
  rw [ay (λy=>by rw [y,h0] at z;cases z)];exact z
 refine⟨h0,I.un ⟨λb o eb n _ _=>hm.keeps b o eb,λb o eb n _ _=>⟨o.slots,hm.keeps b o eb⟩,λb o eb n _=>?_,λb o eb _=>⟨o,hm.keeps b o eb⟩,λb xs z=>keepX b _ z,λb o w' z=>keepX b _ z,λb ps z=>⟨#[],by rw [Vl];exact keepX b _ z⟩⟩ λb w' z=>?_⟩
 ·rw [ay (λy=>by rw [y,hm.new] at eb;cases eb)];exact n
 ·by_cases hb:b=a
  ·subst hb;rw [bu] at z;cases z;exact⟨⟨ta,he⟩,⟨_,he⟩,λh1 h2 uu35 k=>by obtain⟨x,z⟩:=uu35;exact⟨x,k _ z⟩⟩
  ·rw [ay hb] at z;exact(I.hok b w' z).stay (λb' u' _ q=>hm.keeps b' u' q) (λb' z'=>keepX b' _ z') (λb' xs z'=>keepX b' _ z') λb' xs z'=>keepX b' _ z'
theorem Ma{Yn:List (Wu×Obj)}{σ:St}{H:Hp}{s:Wv}{Q:VK}{us:List Ws}{vs:List V}(FB:Xr B newId initId bmB)(M:MkX X.K C f bmB newId)(F:aF X.prog X.w X.K X.mg X.base CX k f fd ps sp)(hr:bN (k+1) X.A)(hb:mz X.K fd ps [])
 (hx:qR CX X E0)(I:ag X Yn σ H s)(r:aM vs us)(hl:us.length<=WA)(hex:X.ex=[])
 (h:∀a,H a=none->X.s₀.heap.get? a=none->sp (.ref a::vs) (ao H a (.ext (mK a (.ref C)))) (λv H2=>v= .non/\Q (.ref a) H2) E0):
 Wx (Wy X.prog X.w) X.A (call (.ref C) us) (EP X Yn σ Q) X.xe s:=by
 obtain⟨bm,nm,qn,N,bs,sn,sub,ab,col,dd,k0,k1,k2,k3,k5,hC,_,T⟩:=qy I.kIn M.seen;obtain⟨hp,gg,dr,tk,os⟩:=s;refine LX FB T hC I.kIn M.init (beq_iff_eq.mp M.fn) hl λh' a hm=>?_;obtain⟨h0,I2⟩:=I.raw (tk:=tk) hm;have n0:X.s₀.heap.get? a=none:=by
  cases z:X.s₀.heap.get? a with
  | none=>rfl
  | some o=>
   obtain⟨o',z'⟩:=I.base.there a o z (by rw [hex];simp);have:=hm.new;rw [show(⟨hp,gg,dr,tk,os⟩:Wv).heap=hp from rfl] at z';rw [this] at z';cases z'
 have hq:=h a h0 n0;have r2:aM (V.ref a::vs) (Qy a::us):= .cons rfl r;have hl2:(Qy a::us++[]).length=ps.length:=by
  rw [PX,<-r2.length];exact F.len _ _ _ _ hq
 have bd:=hb _ (Qy a::us) I2.kIn hl2;rw [PX] at bd;refine XN (Xe (F.run _ X.stack _ _ ⟨Qy a::us,[]⟩ (Qy a::us) _ _ E0 (hr.make C us []) (I2.env0.make C us []) bd r2 hq) λr s' hq'=>?_);cases r with
 | error e=>exact hx Yn σ _ _ e s' I2 hq'
 | ok fl=>
  cases fl with
  | ret u=>
   obtain⟨v,H',I3,rv,ev,q3⟩:=I2.after hq';subst ev;exact⟨rv,⟨V.ref a,H',I3,rfl,q3⟩⟩
  | next=>exact Ry hq'
  | brk=>exact Ry hq'
  | cont=>exact Ry hq'
def ER(X:Cx)(C:Wu)(sp:Sp)(t:TA):TE:=λσ H Q=>t σ H λvs H1=>vs.length<=WA/\∀a,H1 a=none->X.s₀.heap.get? a=none->sp (.ref a::vs) (ao H1 a (.ext (mK a (.ref C)))) (λv H2=>v= .non/\Q (.ref a) H2) E0
theorem Mb(FB:Xr B newId initId bmB)(M:MkX X.K C f bmB newId)(F:aF X.prog X.w X.K X.mg X.base CX k f fd ps sp)(hr:bN (k+1) X.A)(hg:Gl X x)(hm:X.mg x=some (.ref C))(hb:mz X.K fd ps [])(hx:qR CX X E0)(hex:X.ex=[])
 (ha:PA X (e::es) t)(hdb:(x==("__debug__":Str))=false:=by decide)(he:WB (e::es) X.env=(false,eval e X.env)::WB es X.env:=by rfl)(hpl:(WU cpos (WB es X.env)).any (·.1)=false:=by rfl):
 PE X (.Call (.Name x np) (e::es) [] cpos) (ER X C sp t):=by
 intro Yn s σ H Q I h;refine Xf (oW I hg hm ?_ hdb);refine Tg (h₀:=X.base) I.ok.mod.kin M.kp (aC (ha cpos Yn s σ H _ I h) λus s1 ⟨vs,H1,I1,r,hl,q⟩=>⟨I1.kIn,?_⟩) he hpl;exact Ma FB M F hr hb hx I1 r (by show us.length<=WA;rw [<-r.length];exact hl) hex q
def Mc(X:Cx)(C:Wu)(sp:Sp)(t:TA)(Ex:Wu->Wu->Hp->Prop):TS:=λ_ σ H=>ER X C sp t σ H λv H2=>∃a d,v= .ref a/\X.s₀.heap.get? a=none/\H2 a=some (.ext (nV a (.ref C) d))/\Ex a d H2
theorem Md{Ex:Wu->Wu->Hp->Prop}(hc:X.calm=true)(FB:Xr B newId initId bmB)(M:MkX X.K C f bmB newId)(F:aF X.prog X.w X.K X.mg X.base CX k f fd ps sp)(hr:bN (k+1) X.A)(hg:Gl X x)(hm:X.mg x=some (.ref C))(hb:mz X.K fd ps [])(hx:qR CX X E0)(hex:X.ex=[])
 (ha:PA X (e::es) t)(hxe:∀(Yn:List (Wu×Obj)) (σ:St) (H:Hp) (s:Wv) (a d:Wu),ag X Yn σ H s->X.s₀.heap.get? a=none->H a=some (.ext (nV a (.ref C) d))->Ex a d H->X.xe (.ref a) s)
 (hdb:(x==("__debug__":Str))=false:=by decide)(he:WB (e::es) X.env=(false,eval e X.env)::WB es X.env:=by rfl)(hpl:(WU cpos (WB es X.env)).any (·.1)=false:=by rfl):
 PS X (.Raise (some (.Call (.Name x np) (e::es) [] cpos)) none pos) (Mc X C sp t Ex):=by
 intro Yn s σ H D I h;obtain⟨bm,nm,qn,N,bs,sn,sub,ab,col,dd,k0,k1,k2,k3,k5,hC,_,T⟩:=qy I.ok.mod.kin M.seen;rw [arm_exec_Raise];simp only [evalOpt,Option.map];refine Wt (Xu (LV (C:=C) (nm:=nm) (q:=qn) (N:=N) (bs:=bs) (bm:=bm) (hdct:=true) (sn:=sn) (sub:=sub) (ab:=ab) (col:=col) (dd:=dd) (k0:=k0) (k1:=k1) (k2:=k2) (k3:=k3) (k5:=k5) (newId:=newId) (T.hasType FB.hasBase) (I.ok.hd hc) ?_));refine Wt (aC (Mb FB M F hr hg hm hb hx hex ha hdb he hpl Yn s σ H _ I h) λv s1 ⟨y,H1,I1,r1,a,d,ey,n0,hE,q⟩=>Wt (Xu (Ww ?_)));subst ey;obtain rfl:v=Qy a:=r1;obtain⟨ta,hx1⟩:=(show bI X.prog X.w H1 s1.heap a (.ext (nV a (.ref C) d)) from I1.hok a _ hE).1;exact⟨a,_,_,rfl,I1.bk _ _ hC,hx1,rfl,rfl,rfl,hxe Yn σ H1 s1 a d I1 n0 hE q⟩
end
section
variable {P:WH} {w:WJ} {K:Pq} {mg:Str->Option Ws} {base:WG} {N:List Str} {qual:Str} {scope:WZ} {f:Wu} {cd:Ws} {A:WL} {outer:List Env} {s:Wv} {H:Hp} {E:XK}
theorem Me{Yn:List (Wu×Obj)}{σ:St}{H1:Hp}{s1:Wv}{a C d:Wu}(I:ag (j9 (kq P w) P w K mg base N qual scope f cd A outer s H E) Yn σ H1 s1)(n0:s.heap.get? a=none)(hE:H1 a=some (.ext (nV a (.ref C) d)))
 (q:E (.ref C) (some d) (mX H1 a)):(j9 (kq P w) P w K mg base N qual scope f cd A outer s H E).xe (.ref a) s1:=by
 obtain⟨ta,hx⟩:=(show bI P w H1 s1.heap a (.ext (nV a (.ref C) d)) from I.hok a _ hE).1;exact LL I hx rfl (a0:= .ref ta) rfl rfl n0 hE q
end
theorem ES(a b:Str):(a++b).length=a.length+b.length:=by
 obtain⟨x⟩:=a;obtain⟨y⟩:=b;show(x++y).size=x.size+y.size;exact Uj
section
variable {X:Cx}
def ET(i:Nat):TE:=λσ H Q=>∃n:Int,σ[i]?=some (some (.int n))/\n.natAbs.log2 < 1920/\(Pp (toString n)).length<=1000/\∀z:Str,Q (.str z) H
theorem Mf{i:Nat}{s0 x:Str}{j:Nat}{p1 p2 p3 pos:Pos}(h0:s0.length<=1000)(hx:PE X (.Name x p3) (n9 i)):PE X (.JoinedStr [.Constant (.str s0) j p1,.FormattedValue (.Name x p3) (-1) none p2] pos) (ET i):=by
 intro Yn s σ H Q I ⟨n,e,hn,hz,q⟩;have sl:=WI;refine JoinedStr_many (joinParts_cons (aC (wj Yn s σ H (λv H1=>v= .str s0/\H1=H) I ⟨rfl,rfl⟩) λv s1 ⟨y,H1,I1,r1,ey,eH⟩=>?_));subst ey eH;obtain⟨t1,rfl⟩:=r1;have l1:(TM++s0).length<=1000:=by rw [ES];show 0+s0.length<=1000;omega
 refine⟨Ce,joinParts_cons (FormattedValue_plain (aC (hx Yn s1 σ H1 (λv H2=>v= .int n/\H2=H1) I1 ⟨_,e,rfl,rfl⟩) λv s2 ⟨y,H2,I2,r2,ey,eH⟩=>?_))⟩;subst ey eH;obtain⟨t2,rfl⟩:=r2;refine formatField_int_small hn ?_;have l2:(TM++s0++Pp (toString n)).length<=WA:=by rw [ES];omega
 exact⟨l2,joinParts_nil (hsz:=l2) ⟨.str (TM++s0++Pp (toString n)),H2,(I2.tok _).tok _,⟨_,rfl⟩,q _⟩⟩
end
theorem Mg{H:Hp}{a:Wu}{o:HO}(h:H a=some o):ao H a o=H:=by
 funext b;by_cases e:b=a
 ·rw [e,bu,h]
 ·rw [ay e]
def AO(C:Wu)(f:Str):Sp:=λvs H Q _=>∃(a:Wu)(n:Int),vs=[.ref a,.int n]/\n.natAbs.log2 < 1920/\(Pp (toString n)).length<=1000/\H a=some (.ext (mK a (.ref C)))/\∀d,H d=none->d≠a->Q .non (ao (ao H d (.xd [(f,.int n)])) a (.ext (nV a (.ref C) d)))
section
variable {P:WH} {w:WJ} {K:Pq} {mg:Str->Option Ws} {base:WG}
theorem lJ.okNX{x qual f:Str}{st:WK}{fa C:Wu}{fd:WD}{N ps:List Str}{k:Nat}(Fu:lJ K x qual st fa fd)(S:aN N ps (az st))(h2:ps.length=2)(hN:N=ps)
 (hbody:∀(cdv:Ws) (A:WL) (outer:List Env) (s:Wv) (H:Hp) (E:XK),bN k (A.deeper (XC qual (az st) s.heap.objs.size fa cdv))->bG (j9 CX0 P w K mg base N qual (az st) fa cdv A outer s H E).nox (l3 st) (ui (EN C (sM (n9 0) (sM (ET 1) uy))) (EO C f (n9 0) (n9 1)))):
 aF P w K mg base CX0 (k+1) fa fd ps (AO C f):=by
 refine Fu.ok S (λvs H Q E uu40=>by obtain⟨a,n,e,_⟩:=uu40;rw [e,h2];rfl) λcdv A outer s H vs Q E hr ⟨a,n,ev,hn,hz,hE,q⟩=>⟨_,hbody cdv A outer s H E hr,?_⟩;subst ev hN;have st:start N [V.ref a,V.int n]=[some (V.ref a),some (V.int n)]:=by
  match N,h2 with
  | [y,z],_=>rfl
 rw [st];refine⟨.ref a,rfl,n,rfl,hn,hz,λz=>⟨a,[.str z],rfl,by rw [WI];show 1<=16777216;decide,hE,?_⟩⟩;rw [Mg hE];exact⟨.int n,rfl,.ref a,rfl,a,rfl,hE,λd hd ne=>q d hd ne⟩
end
abbrev vv:=List Wr->(Wr->Prop)->(Int->Prop)->Prop
inductive vw (K:Pq) (C:Wu) (f:Str) (F:vv) (vs:List V) (H:Hp) (Q:VK) (E:XK):Prop
 | mk (O:Ex) (ds:List Wr) (Qd:Wr->Prop) (R:Int->Prop):(∀l,O l->H l≠none)->au K H O vs ds->F ds Qd R->(∀d v H',Qd d->aq H H'->Dt K H' O v d->Q v H')->
  (∀n,R n->∀dd H',aq H H'->H' dd=some (.xd [(f,.int n)])->E (.ref C) (some dd) H')->vw K C f F vs H Q E
section
variable {P:WH} {w:WJ} {K:Pq} {mg:Str->Option Ws} {base:WG}
theorem lJ.okRd{x qual:Str}{st:WK}{f:Wu}{fd:WD}{N ps:List Str}{k:Nat}{sp:Sp}(F:lJ K x qual st f fd)(S:aN N ps (az st))(len:∀vs H Q E,sp vs H Q E->vs.length=ps.length)
 (hbody:∀(cdv:Ws) (A:WL) (outer:List Env) (s:Wv) (H:Hp) (vs:List V) (Q:VK) (E:XK),bN k (A.deeper (XC qual (az st) s.heap.objs.size f cdv))->sp vs H Q E->
  ∃t,bG (j9 (kq P w) P w K mg base N qual (az st) f cdv A outer s H E) (l3 st) t/\t {nx:=λ_ H'=>Q .non H',rt:=Q} (start N vs) H):aF P w K mg base (kq P w) (k+1) f fd ps sp:=by
 obtain⟨oc,od,kV,doc,pm,an,cdv,ct,osl,rfl,lk,hcd⟩:=F.ex;exact Cr lk hcd S len λA outer s H vs Q E hr hsp=>hbody cdv A outer s H vs Q E hr hsp
theorem lJ.okDXn{C:Wu}{af x qual:Str}{st:WK}{f:Wu}{fd:WD}{N ps:List Str}{k:Nat}{F:vv}(Fu:lJ K x qual st f fd)(S:aN N ps (az st))(len:∀ds Q R,F ds Q R->ds.length=ps.length)
 (hbody:∀(cdv:Ws) (A:WL) (outer:List Env) (s:Wv) (H:Hp) (O:Ex) (ds:List Wr) (Q:Wr->Prop) (R:Int->Prop) (E:XK),bN k (A.deeper (XC qual (az st) s.heap.objs.size f cdv))->F ds Q R->
  (∀n,R n->∀dd H',aq H H'->H' dd=some (.xd [(af,.int n)])->E (.ref C) (some dd) H')->
  ∃t,bG (j9 (kq P w) P w K mg base N qual (az st) f cdv A outer s H E) (l3 st) (cg K H O t)/\t {nx:=λ_=>Q .none,rt:=Q} (bZ N ds)):aF P w K mg base (kq P w) (k+1) f fd ps (vw K C af F):=by
 refine Fu.okRd S (λvs H Q E h=>?_) (λcdv A outer s H vs Q E hr h=>?_)
 ·obtain⟨O,ds,Qd,R,_,r,q,_⟩:=h;rw [r.length];exact len _ _ _ q
 ·obtain⟨O,ds,Qd,R,tr,r,q,k,kx⟩:=h;obtain⟨t,ht,q'⟩:=hbody cdv A outer s H O ds Qd R E hr q kx;refine⟨_,ht,O,_,_,Dj tr r,q',λO' δ' σ' H' z w' S'=>?_,λd v H' z s' r'=>k d v H' z s' r',λ_ _ _ _ z=>z.elim,λ_ _ _ _ z=>z.elim⟩;exact k _ _ _ z w'.same .non
def fP(R:Int->Prop)(u:DA):DS:=λ_ δ=>u δ λds=>∃n,ds=[.int n]/\n.natAbs.log2 < 1920/\(Pp (toString n)).length<=1000/\R n
section
variable {N:List Str} {qual:Str} {scope:WZ} {f0:Wu} {cd:Ws} {A:WL} {outer:List Env} {s:Wv} {H:Hp} {O:Ex} {E:XK} {R:Int->Prop} {C:Wu} {af:Str}
theorem rH{j k:Nat}{fi:Wu}{fdi:WD}{psi:List Str}{x:Str}{bm:List Ws}{B newId initId:String}{e:WC}{np cpos pos:Pos}{u:DA}(hx:∀n,R n->∀dd H',aq H H'->H' dd=some (.xd [(af,.int n)])->E (.ref C) (some dd) H')
 (FB:Xr B newId initId bm)(M:MkX K C fi bm newId)(G:aF P w K mg base CX0 k fi fdi psi (AO C af))(hr:bN j (j9 (kq P w) P w K mg base N qual scope f0 cd A outer s H E).A)(hm:mg x=some (.ref C))(hb:mz K fdi psi [])
 (ha:PA (j9 (kq P w) P w K mg base N qual scope f0 cd A outer s H E) [e] (mC K H O u))(hk:k+1<=j:=by decide)(hg:Gl (j9 (kq P w) P w K mg base N qual scope f0 cd A outer s H E) x:=by exact rfl)(hd:(x==("__debug__":Str))=false:=by decide)
 (he:WB [e] (j9 (kq P w) P w K mg base N qual scope f0 cd A outer s H E).env=(false,eval e (j9 (kq P w) P w K mg base N qual scope f0 cd A outer s H E).env)::WB [] (j9 (kq P w) P w K mg base N qual scope f0 cd A outer s H E).env:=by rfl)
 (hpl:(WU cpos (WB [] (j9 (kq P w) P w K mg base N qual scope f0 cd A outer s H E).env)).any (·.1)=false:=by rfl):
 PS (j9 (kq P w) P w K mg base N qual scope f0 cd A outer s H E) (.Raise (some (.Call (.Name x np) [e] [] cpos)) none pos) (cg K H O (fP R u)):=
 λYn s1 σ H1 D I ⟨O1,δ,EE,w1,q1,_,_,_,_⟩=>Md (Ex:=λa d H2=>∃n,R n/\aq H (mX H2 a)/\mX H2 a d=some (.xd [(af,.int n)])) rfl FB M G (hr.mono hk) hg hm hb CC rfl ha
  (λYn σ H2 s2 a d I2 n0 hE uu43=>by obtain⟨n,r,sm,hd⟩:=uu43;exact Me I2 n0 hE (hx n r d _ sm hd)) hd he hpl Yn s1 σ H1 D I
  ⟨O1,δ,_,w1,q1,λds vs H2 uu44 s2 r2=>by
   obtain⟨n,ed,hn,hz,r⟩:=uu44;subst ed;cases r2 with
   | cons r3 r4=>
    cases r4;cases r3;refine⟨by rw [WI];show 1<=16777216;decide,λa ha0 n0=>⟨a,n,rfl,hn,hz,bu,λd hd ne=>⟨rfl,a,d,rfl,n0,bu,n,r,?_,?_⟩⟩⟩
    ·intro b o hb;have hb2:H2 b=some o:=(w1.same.trans s2) b o hb;have na:b≠a:=λy=>by rw [y,ha0] at hb2;cases hb2
     have nd:b≠d:=λy=>by rw [ay ne] at hd;rw [y,hd] at hb2;cases hb2
     rw [rG na,ay na,ay nd,ay na];exact hb2
    ·rw [rG ne,ay ne,bu]⟩
end
end
section
variable {X:Cx} {CX:kR} {k:Nat} {f C C':Wu} {fd:WD} {ps:List Str} {sp:Sp} {x c n:Str} {p cp ep np hp tp:Pos} {a:WC} {as:List WC} {b₀:WK} {suite:List WK} {t:TA} {i j:Nat} {ts:TS} {y:Str} {yp:Pos}
theorem Mh{bmB bmB':List Ws}{newId newId':String}(F:aF X.prog X.w X.K X.mg X.base (kq X.prog X.w) k f fd ps sp)(hr:bN k X.A)(hg:Gl X x)(hm:X.mg x=some (.ref f))(hk:Sb X.K (.ref f)=true)(hb:mz X.K fd ps [])
 (ha:∀E',PA (X.wish E') (a::as) t)(hst:X.stack=X.env::X.outer)(hfr:X.env.frame=some X.env.locals)
 (hmc:X.mg c=some (.ref C'))(hgc:Gl X c)(q:pJ X.K C bmB newId=true)(q':TK X.K C' bmB' newId'=true)(hB:bmB'.contains (.type "BaseException")=true)
 (hin:RQ X.K C (.ref C')=some true)
 (hN:X.N.Nodup)(hj:X.N[j]?=some y)(hy:nH X.env.scope y)(hf:X.fn y=true\/X.env.scope.names.lookup y=some .local)(hi:X.N[i]?=some n)(hn:X.env.scope.names.lookup n=some .local)(hs:∀e,bG (X.inEx e) (b₀::suite) ts)
 (hdb:(x==("__debug__":Str))=false:=by decide)(hdc:(c==("__debug__":Str))=false:=by decide)(he:WB (a::as) X.env=(false,eval a X.env)::WB as X.env:=by rfl)(hpl:(WU cp (WB as X.env)).any (·.1)=false:=by rfl)(hsw:W2 (.Call (.Name x p) (a::as) [] cp) (some (.Name y yp)) ep.line X.env=pure false:=by rfl):
 PS X (.Try [.Assign [.Name y yp] (.Call (.Name x p) (a::as) [] cp) ep] [.ExceptHandler (some (.Name c np)) (some n) (b₀::suite) hp] [] [] tp) (LN sp t C i j ts):=by
 intro Yn s σ H D I h;refine wpAny_Try_except ?_;generalize hEh:(λ(e:Ws) (s₁:Wv)=>Wx (Wy X.prog X.w) X.A (X1 e X.env) (λ_ s₂=>Wx (Wy X.prog X.w) X.A (Yf e none) (λ_ s₃=>Wx (Wy X.prog X.w) X.A (handleBy e X.env [.ExceptHandler (some (.Name c np)) (some n) (b₀::suite) hp]) (SP X Yn D) X.xe s₃) X.xe s₂) X.xe s₁)=Eh;have I':ag (X.wish Eh) Yn σ H s:=I.wish Eh;have out:Wx (Wy X.prog X.w) X.A (eval (.Call (.Name x p) (a::as) [] cp) X.env) (λu s₁=>∃v H',ag X Yn σ H' s₁/\aJ v u/\D.nx (σ.set j (some v)) H') Eh s:=by
  refine Xf (oW I hg hm ?_ hdb);refine Tg (h₀:=X.base) I.ok.mod.kin hk (aC (ha Eh cp Yn s σ H _ I' h) λus s1 ⟨vs,H1,I1w,r,q1⟩=>⟨I1w.kIn,?_⟩) he hpl;have I1:ag X Yn σ H1 s1:=I1w.unwish;have hl:(us++[]).length=ps.length:=by rw [PX,<-r.length];exact F.len _ _ _ _ q1
  have bd:=hb s1 us I1.kIn hl;rw [PX] at bd;refine XN (Xe (F.run X.A X.stack s1 H1 ⟨us,[]⟩ us vs _ _ hr I1.env0 bd r q1) λr2 s2 hq=>?_);cases r2 with
  | ok fl=>
   cases fl with
   | ret u=>
    obtain⟨v,H2,I2,rv,q2⟩:=I1.after hq;exact⟨v,H2,I2,rv,q2⟩
   | next=>exact Ry hq
   | brk=>exact Ry hq
   | cont=>exact Ry hq
  | error ev=>
   obtain⟨e,cls,a0,B,H2,rfl,ho,hgn,fl,hB2,un,kb,th,ox,hox,rfl,hsu⟩:=hq;rw [<-hEh];have fl':SH B (X.env::X.outer) e (.ref C) a0 s2.heap:=by rw [<-hst];exact fl
   refine WR (EK (Q:=λ_ s'=>∃h4,s'={s2 with heap:=h4}/\Heap.HeldW B (X.env::X.outer) e (.ref C) a0 X.env.locals h4/\s2.heap.UpToSlots h4) (wpAny_looks_onW (by rw [I.ok.frames,hst]) hfr fl' λh4 a b=>⟨h4,rfl,a,b⟩)) (λ_ s4 hs4=>?_) (λ_ _ z=>z.1);obtain⟨⟨h4,rfl,held4,sm4⟩,dk4⟩:=hs4;refine WR (vt (Q:=λ_ s'=>∃h5,s'={s2 with heap:=h5}/\SH B (X.env::X.outer) e (.ref C) a0 h5/\h4.UpToSlots h5) (wpAny_landsW held4 λh5 a b=>⟨h5,rfl,a,b⟩)) (λ_ s5 hs5=>?_) (λ_ _ z=>z.1);obtain⟨⟨h5,rfl,fl5,sm5⟩,dk5⟩:=hs5;have sm25:=sm4.trans sm5;have I5:ag X Yn σ H2 {s2 with heap:=h5}:=ag.call' (ch:=[]) (s':={s2 with heap:=h5}) I1 ho (uF (X:=X) un fl fl5.1 sm25 kb th) (hB2.kept fl5.1) hgn (λ_ z=>nomatch z);have I5e:=I5.inEx e;obtain⟨ob,hob,hobc⟩:=fl5.there;have O:=(IK (x:=c) (mg:=X.mg) (C:=C') I.ok.mod.kin hmc q').obj;obtain⟨tl',N',nm',qn',bs',hd',sn',sub',ab',col',dd',k0',k1',k2',k3',k5',mN',hC',_,_,T'⟩:=O;obtain⟨tl,nm,qn,N,bs,sn,sub,ab,col,dd,k0,k1,k2,k3,k5,hC,_,T⟩:=qy I.ok.mod.kin q;refine wpAny_handleBy_cons (codeAny_handlers_test (oW I5e hgc hmc ?_ hdc)) (by intro z;cases z);have hbase':tl'.contains (.type "BaseException")=true:=by rw [T'.hasType hB]
   refine CW (I5.bk _ _ hC) (I5.bk _ _ hC') hob hobc hbase' (CY I.ok.mod.kin hin hC) ?_;refine codeAny_handlers_suite_as ?_;refine WR (vt (Q:=λ_ s'=>∃h6,s'={s2 with heap:=h6}/\SH B (X.env::X.outer) e (.ref C) a0 h6/\h5.UpToSlots h6) (lands_againW fl5 λh6 a b=>⟨h6,rfl,a,b⟩)) (λ_ s6 hs6=>?_) (λ_ _ z=>z.1);obtain⟨⟨h6,rfl,fl6,sm6⟩,dk6⟩:=hs6;have dk26:DK s2.heap h6:=(dk4.trans dk5).trans dk6;have eB:B.get? e=none:=fl.2.1;have nH2:H2 e=none:=by
    cases z:H2 e with
    | none=>rfl
    | some u=>
     obtain⟨ob',z'⟩:=(hB2 e u z).there;rw [eB] at z';cases z'
   have u6:=uF (X:=X) un fl fl6.1 (sm25.trans sm6) kb th;have n1:∀o,s1.heap.get? e=some o->False:=λo z=>by
    by_cases hbf:e∈cF X.stack
    ·obtain⟨_,o',ho',hd'⟩:=fl.2.2.1.mem hbf;obtain⟨oe,ws,hoe,_,hoed,_⟩:=fl.first;rw [hoe] at ho';cases ho';exact hd' _ hoed
    ·obtain⟨o',z'⟩:=th e o z hbf;rw [eB] at z';cases z'
   have ne2:∀b u,H2 b=some u->b≠e:=λb u z w'=>by rw [w',nH2] at z;cases z
   have un6:Un (cF X.stack) [] H1 (ao H2 e (.ext (kN e (.ref C) ox.dict))) s1.heap h6:=
    ⟨u6.keep,u6.slot,λb o z nn hx=>by rw [ay (λw'=>n1 o (by rw [<-w'];exact z))];exact u6.free b o z nn hx,u6.there,
     λb xs z=>by rw [ay (ne2 b _ (u6.tups b xs z))];exact u6.tups b xs z,λb o xs z=>by rw [ay (ne2 b _ (u6.frzs b o xs z))];exact u6.frzs b o xs z,
     λb pss z=>by obtain⟨mo,z'⟩:=u6.tbls b pss z;exact⟨mo,by rw [ay (ne2 b _ z')];exact z'⟩⟩
   have ok6:bQ X.prog X.w (ao H2 e (.ext (kN e (.ref C) ox.dict))) h6:=λb u z=>by
    by_cases hbe:b=e
    ·subst hbe;rw [bu] at z;cases z;obtain⟨o6,vs6,ho6,hc6,hf6,_⟩:=fl6.first;obtain⟨o7,ho7,hd7⟩:=dk26 _ ox hox;rw [ho6] at ho7;cases ho7;exact⟨⟨o6,ho6,hc6,hd7,by unfold notCls;rw [hf6]⟩,⟨o6,ho6⟩,λh1 h2 uu46 kk=>by obtain⟨o,z1,z2⟩:=uu46;exact⟨o,kk o z1,z2⟩⟩
    ·rw [ay hbe] at z;exact(hB2 b u z).stay (λcc v _ z'=>fl6.1 cc v z') (λcc z'=>by rw [ay (ne2 cc _ z')];exact z') (λcc xs z'=>by rw [ay (ne2 cc _ z')];exact z') λcc xs z'=>by rw [ay (ne2 cc _ z')];exact z'
   have I6:ag X Yn σ (ao H2 e (.ext (kN e (.ref C) ox.dict))) {s2 with heap:=h6}:=ag.call' (ch:=[]) (s':={s2 with heap:=h6}) I1 ho un6 ok6 hgn (λ_ z=>nomatch z);refine pT (X:=X.inEx e) (I6.inEx e) hN hi (.inl hn) (v:= .ref e) rfl (λs7 I7=>?_) (.inr hn);refine WR (hs e Yn s7 _ _ _ I7 (hsu e nH2)) (λf s8 q8=>?_) λ_ _ z=>z.elim;cases f with
   | next=>
    obtain⟨σ8,H8,J8,q8⟩:=q8;exact IL (J8.outEx I.ok.hd) hN hi hn λs9 J9=>⟨σ8.set i none,H8,J9,q8⟩
   | ret v=>obtain⟨_,_,_,_,_,z⟩:=q8;exact z.elim
   | brk=>obtain⟨_,_,_,z⟩:=q8;exact z.elim
   | cont=>obtain⟨_,_,_,z⟩:=q8;exact z.elim
 refine XU (wpAny_Assign_Name (aC out λu s1 ⟨v,H',I1,r1,q1⟩=>?_) hsw);exact pT I1 hN hj hy r1 (λs2 I2=>Xw (Xw ⟨_,H',I2,q1⟩)) hf
end
theorem EU{X:Cx}{K':Pq}(h:X.K=K'):kA X (.builtin "isinstance") (λxs H Q=>∃(dd:Option Wu)(e C:Wu)(c:V)(cv:Ws)(b:Bool),xs=[.ref e,c]/\H e=some (.ext (kN e (.ref C) dd))/\lP K' C/\(∀u,aJ c u->u=cv)/\SE K' (.ref C) cv=some b/\Q (.bl b) H):=by
 subst h;exact LS
theorem EV{X:Cx}{K':Pq}(h:X.K=K'):kA X (.builtin "isinstance") (λxs H Q=>∃(dd:Option Wu)(e C q:Wu)(cs:List Wu)(b:Bool),xs=[.ref e,.ref q]/\H e=some (.ext (kN e (.ref C) dd))/\H q=some (.tup (cs.map V.ref))/\lP K' C/\S0 K' (.ref C) (cs.map Qy)=some b/\Q (.bl b) H):=by
 subst h;exact LU
section
variable {X:Cx} {CX:kR} {k:Nat} {f C C':Wu} {fd:WD} {ps:List Str} {sp:Sp} {x c n:Str} {p cp ep np hp tp:Pos} {a:WC} {as:List WC} {b₀:WK} {suite:List WK} {t:TA} {i j:Nat} {ts:TS} {y:Str} {yp:Pos}
def Mi(sp:Sp)(t:TA)(C:Wu)(ts:TS):TS:=λD σ H=>t σ H λvs H1=>sp vs H1 (λv H2=>D.rt v H2) (λcls dd H2=>cls= .ref C/\∀e,H2 e=none->
 ts {nx:=D.nx,rt:=D.rt} σ (ao H2 e (.ext (kN e (.ref C) dd))))
theorem Mj{bmB bmB':List Ws}{newId newId':String}(F:aF X.prog X.w X.K X.mg X.base (kq X.prog X.w) k f fd ps sp)(hr:bN k X.A)(hg:Gl X x)(hm:X.mg x=some (.ref f))(hk:Sb X.K (.ref f)=true)(hb:mz X.K fd ps [])
 (ha:∀E',PA (X.wish E') (a::as) t)(hst:X.stack=X.env::X.outer)(hfr:X.env.frame=some X.env.locals)
 (hmc:X.mg c=some (.ref C'))(hgc:Gl X c)(q:pJ X.K C bmB newId=true)(q':pJ X.K C' bmB' newId'=true)(hB:bmB'.contains (.type "BaseException")=true)
 (hin:RQ X.K C (.ref C')=some true)
 (hs:∀e,bG (X.inEx e) (b₀::suite) ts)
 (hdb:(x==("__debug__":Str))=false:=by decide)(hdc:(c==("__debug__":Str))=false:=by decide)(he:WB (a::as) X.env=(false,eval a X.env)::WB as X.env:=by rfl)(hpl:(WU cp (WB as X.env)).any (·.1)=false:=by rfl):
 PS X (.Try [.Return (some (.Call (.Name x p) (a::as) [] cp)) ep] [.ExceptHandler (some (.Name c np)) none (b₀::suite) hp] [] [] tp) (Mi sp t C ts):=by
 intro Yn s σ H D I h;refine wpAny_Try_except ?_;generalize hEh:(λ(e:Ws) (s₁:Wv)=>Wx (Wy X.prog X.w) X.A (X1 e X.env) (λ_ s₂=>Wx (Wy X.prog X.w) X.A (Yf e none) (λ_ s₃=>Wx (Wy X.prog X.w) X.A (handleBy e X.env [.ExceptHandler (some (.Name c np)) none (b₀::suite) hp]) (SP X Yn D) X.xe s₃) X.xe s₂) X.xe s₁)=Eh;have I':ag (X.wish Eh) Yn σ H s:=I.wish Eh;have out:Wx (Wy X.prog X.w) X.A (eval (.Call (.Name x p) (a::as) [] cp) X.env) (λu s₁=>∃v H',ag X Yn σ H' s₁/\aJ v u/\D.rt v H') Eh s:=by
  refine Xf (oW I hg hm ?_ hdb);refine Tg (h₀:=X.base) I.ok.mod.kin hk (aC (ha Eh cp Yn s σ H _ I' h) λus s1 ⟨vs,H1,I1w,r,q1⟩=>⟨I1w.kIn,?_⟩) he hpl;have I1:ag X Yn σ H1 s1:=I1w.unwish;have hl:(us++[]).length=ps.length:=by rw [PX,<-r.length];exact F.len _ _ _ _ q1
  have bd:=hb s1 us I1.kIn hl;rw [PX] at bd;refine XN (Xe (F.run X.A X.stack s1 H1 ⟨us,[]⟩ us vs _ _ hr I1.env0 bd r q1) λr2 s2 hq=>?_);cases r2 with
  | ok fl=>
   cases fl with
   | ret u=>
    obtain⟨v,H2,I2,rv,q2⟩:=I1.after hq;exact⟨v,H2,I2,rv,q2⟩
   | next=>exact Ry hq
   | brk=>exact Ry hq
   | cont=>exact Ry hq
  | error ev=>
   obtain⟨e,cls,a0,B,H2,rfl,ho,hgn,fl,hB2,un,kb,th,ox,hox,rfl,hsu⟩:=hq;rw [<-hEh];have fl':SH B (X.env::X.outer) e (.ref C) a0 s2.heap:=by rw [<-hst];exact fl
   refine WR (EK (Q:=λ_ s'=>∃h4,s'={s2 with heap:=h4}/\Heap.HeldW B (X.env::X.outer) e (.ref C) a0 X.env.locals h4/\s2.heap.UpToSlots h4) (wpAny_looks_onW (by rw [I.ok.frames,hst]) hfr fl' λh4 a b=>⟨h4,rfl,a,b⟩)) (λ_ s4 hs4=>?_) (λ_ _ z=>z.1);obtain⟨⟨h4,rfl,held4,sm4⟩,dk4⟩:=hs4;refine WR (vt (Q:=λ_ s'=>∃h5,s'={s2 with heap:=h5}/\SH B (X.env::X.outer) e (.ref C) a0 h5/\h4.UpToSlots h5) (wpAny_landsW held4 λh5 a b=>⟨h5,rfl,a,b⟩)) (λ_ s5 hs5=>?_) (λ_ _ z=>z.1);obtain⟨⟨h5,rfl,fl5,sm5⟩,dk5⟩:=hs5;have sm25:=sm4.trans sm5;have I5:ag X Yn σ H2 {s2 with heap:=h5}:=ag.call' (ch:=[]) (s':={s2 with heap:=h5}) I1 ho (uF (X:=X) un fl fl5.1 sm25 kb th) (hB2.kept fl5.1) hgn (λ_ z=>nomatch z);have I5e:=I5.inEx e;obtain⟨ob,hob,hobc⟩:=fl5.there;obtain⟨tl',nm',qn',N',bs',sn',sub',ab',col',dd',k0',k1',k2',k3',k5',hC',_,T'⟩:=qy I.ok.mod.kin q';obtain⟨tl,nm,qn,N,bs,sn,sub,ab,col,dd,k0,k1,k2,k3,k5,hC,_,T⟩:=qy I.ok.mod.kin q;refine wpAny_handleBy_cons (codeAny_handlers_test (oW I5e hgc hmc ?_ hdc)) (by intro z;cases z);have hbase':tl'.contains (.type "BaseException")=true:=by rw [T'.hasType hB]
   refine CW (I5.bk _ _ hC) (I5.bk _ _ hC') hob hobc hbase' (CY I.ok.mod.kin hin hC) ?_;refine codeAny_handlers_suite ?_;refine WR (vt (Q:=λ_ s'=>∃h6,s'={s2 with heap:=h6}/\SH B (X.env::X.outer) e (.ref C) a0 h6/\h5.UpToSlots h6) (lands_againW fl5 λh6 a b=>⟨h6,rfl,a,b⟩)) (λ_ s6 hs6=>?_) (λ_ _ z=>z.1);obtain⟨⟨h6,rfl,fl6,sm6⟩,dk6⟩:=hs6;have dk26:DK s2.heap h6:=(dk4.trans dk5).trans dk6;have eB:B.get? e=none:=fl.2.1;have nH2:H2 e=none:=by
    cases z:H2 e with
    | none=>rfl
    | some u=>
     obtain⟨ob',z'⟩:=(hB2 e u z).there;rw [eB] at z';cases z'
   have u6:=uF (X:=X) un fl fl6.1 (sm25.trans sm6) kb th;have n1:∀o,s1.heap.get? e=some o->False:=λo z=>by
    by_cases hbf:e∈cF X.stack
    ·obtain⟨_,o',ho',hd'⟩:=fl.2.2.1.mem hbf;obtain⟨oe,ws,hoe,_,hoed,_⟩:=fl.first;rw [hoe] at ho';cases ho';exact hd' _ hoed
    ·obtain⟨o',z'⟩:=th e o z hbf;rw [eB] at z';cases z'
   have ne2:∀b u,H2 b=some u->b≠e:=λb u z w'=>by rw [w',nH2] at z;cases z
   have un6:Un (cF X.stack) [] H1 (ao H2 e (.ext (kN e (.ref C) ox.dict))) s1.heap h6:=
    ⟨u6.keep,u6.slot,λb o z nn hx=>by rw [ay (λw'=>n1 o (by rw [<-w'];exact z))];exact u6.free b o z nn hx,u6.there,
     λb xs z=>by rw [ay (ne2 b _ (u6.tups b xs z))];exact u6.tups b xs z,λb o xs z=>by rw [ay (ne2 b _ (u6.frzs b o xs z))];exact u6.frzs b o xs z,
     λb pss z=>by obtain⟨mo,z'⟩:=u6.tbls b pss z;exact⟨mo,by rw [ay (ne2 b _ z')];exact z'⟩⟩
   have ok6:bQ X.prog X.w (ao H2 e (.ext (kN e (.ref C) ox.dict))) h6:=λb u z=>by
    by_cases hbe:b=e
    ·subst hbe;rw [bu] at z;cases z;obtain⟨o6,vs6,ho6,hc6,hf6,_⟩:=fl6.first;obtain⟨o7,ho7,hd7⟩:=dk26 _ ox hox;rw [ho6] at ho7;cases ho7;exact⟨⟨o6,ho6,hc6,hd7,by unfold notCls;rw [hf6]⟩,⟨o6,ho6⟩,λh1 h2 uu49 kk=>by obtain⟨o,z1,z2⟩:=uu49;exact⟨o,kk o z1,z2⟩⟩
    ·rw [ay hbe] at z;exact(hB2 b u z).stay (λcc v _ z'=>fl6.1 cc v z') (λcc z'=>by rw [ay (ne2 cc _ z')];exact z') (λcc xs z'=>by rw [ay (ne2 cc _ z')];exact z') λcc xs z'=>by rw [ay (ne2 cc _ z')];exact z'
   have I6:ag X Yn σ (ao H2 e (.ext (kN e (.ref C) ox.dict))) {s2 with heap:=h6}:=ag.call' (ch:=[]) (s':={s2 with heap:=h6}) I1 ho un6 ok6 hgn (λ_ z=>nomatch z);refine WR (hs e Yn _ _ _ _ (I6.inEx e) (hsu e nH2)) (λf s8 q8=>?_) λ_ _ z=>z.elim;cases f with
   | next=>obtain⟨σ8,H8,J8,q8⟩:=q8;exact⟨σ8,H8,J8.outEx I.ok.hd,q8⟩
   | ret v=>obtain⟨v8,σ8,H8,J8,r8,q8⟩:=q8;exact⟨v8,σ8,H8,J8.outEx I.ok.hd,r8,q8⟩
   | brk=>obtain⟨_,_,_,z⟩:=q8;exact z.elim
   | cont=>obtain⟨_,_,_,z⟩:=q8;exact z.elim
 refine XU (wpAny_Return_some (aC out λu s1 uu50=>by obtain⟨v,H',I1,r1,q1⟩:=uu50;exact⟨v,σ,H',I1,r1,q1⟩))
end
section
variable {X:Cx} {H0:Hp} {O0:Ex}
def j6(to t:DT):DT:=λδ Q=>to δ λx=>∃z:Str,x= .str z/\t δ λy=>∃c:Str,y= .str c/\z.length<=WA/\Q (.str (Txt.stripChars z c))
def j7(i:Nat)(tk tv:DT):DS:=λE δ=>tv δ λd=>∃ds,δ[i]?=some (some (.o ds))/\tk δ λy=>∃k:Int,y= .int k/\∃j,oo ds.length k=some j/\E.nx (δ.set i (some (.o (ds.set j d))))
end
section
variable {prog:WH} {w:WJ} {A:WL} {E:Ws->Wv->Prop}
variable {I:Wu} {fp wr:List Wu} {n:Nat} {P:Nat->Ws->Prop} {St:Nat->WG->Prop} {R:Yc->Wv->Prop} {kw:List (Str×Ws)}
end
section
variable {X:Cx} {H0:Hp} {O0:Ex}
def fQ(t:DT):DB:=λδ Q=>t δ λd=>∃z:Str,d= .str z/\z.length<=WA/\Q ((z.length:Int) !=0)
theorem Mk{e:WC}{t:DT}(h:DE X H0 O0 e t)(he:∀whole,isTrue e X.env whole=(do let v<-whole;standAt e.pos;XZ [v] (truthy v)):=by intro _;rfl):PT X e (cQ X.K H0 O0 (fQ t)):=
 (Ht h he).imp λσ H Q uu51=>by obtain⟨O,δ,Qd,w,q,k⟩:=uu51;exact⟨O,δ,_,w,q,λd v H' uu52 s r=>by
  obtain⟨z,e,hz,qb⟩:=uu52;subst e;cases r;exact⟨_,⟨hz,rfl⟩,k _ H' qb s⟩⟩
end
end L2
namespace PySem.SeqAt
open AutoSeq1 (wpAny_loadPart')
open MeetsSeq
end PySem.SeqAt
namespace L2
open PySem PySem.Spec PyProof.Rows PySem.W
section
variable {X:Cx} {H0:Hp} {O0:Ex}
open PySem PySem.Spec PyProof.Rows PySem.W PySem.Calls
end
end L2
namespace PySem.SeqAt
open AutoSeq1 (wpAny_loadPart')
open MeetsSeq
end PySem.SeqAt
namespace L2
open PySem PySem.Spec PyProof.Rows PySem.W
section
variable {X:Cx} {H0:Hp} {O0:Ex}
def j8:Wr->Wr->(Wr->Prop)->Prop:=λx y Q=>∃z,y= .str z/\kJ x=true/\Q (.bool (!PJ x (.str z)))
end
end L2
namespace K60
open PySem L2
theorem lit0:PD (.str "")=true:=td
theorem lit1:PD (.str "\n")=true:=td
theorem lit2:PD (.str " ")=true:=td
theorem lit3:PD (.str "-")=true:=td
theorem lit4:PD (.str "0")=true:=td
theorem lit5:PD (.str "0123456789")=true:=td
theorem lit6:PD (.str "2003-04-05")=true:=td
theorem lit7:PD (.str ":")=true:=td
theorem lit8:PD (.str "END 2000-01-01 a")=true:=td
theorem lit9:PD (.str "a")=true:=td
theorem lit10:PD (.str "abcdefghijklmnopqrstuvwxyz")=true:=td
theorem lit11:PD (.str "called to stay by rule ")=true:=td
theorem lit12:PD (.str "coming")=true:=td
theorem lit13:PD (.str "covered by hold ")=true:=td
theorem lit14:PD (.str "days")=true:=td
theorem lit15:PD (.str "deep")=true:=td
theorem lit16:PD (.str "end")=true:=td
theorem lit17:PD (.str "end ")=true:=td
theorem lit18:PD (.str "end  2000-01-01 a")=true:=td
theorem lit19:PD (.str "end 2000-01-01")=true:=td
theorem lit20:PD (.str "end 2000-01-01 a")=true:=td
theorem lit21:PD (.str "end 2000-01-01 a b")=true:=td
theorem lit22:PD (.str "first")=true:=td
theorem lit23:PD (.str "follow")=true:=td
theorem lit24:PD (.str "gone")=true:=td
theorem lit25:PD (.str "gone, or called to go: ")=true:=td
theorem lit26:PD (.str "goneday.days")=true:=td
theorem lit27:PD (.str "goneday.deeds")=true:=td
theorem lit28:PD (.str "goneday.deedtexts")=true:=td
theorem lit29:PD (.str "goneday.errors")=true:=td
theorem lit30:PD (.str "happens")=true:=td
theorem lit31:PD (.str "held")=true:=td
theorem lit32:PD (.str "hold")=true:=td
theorem lit33:PD (.str "hold 2000-01-01 a kind b Deep")=true:=td
theorem lit34:PD (.str "keep")=true:=td
theorem lit35:PD (.str "kind")=true:=td
theorem lit36:PD (.str "last")=true:=td
theorem lit37:PD (.str "law_goneday_k60_sets_as_texts")=true:=td
theorem lit38:PD (.str "leave")=true:=td
theorem lit39:PD (.str "leave 2000-01-01 a")=true:=td
theorem lit40:PD (.str "lift")=true:=td
theorem lit41:PD (.str "lift ")=true:=td
theorem lit42:PD (.str "lift 2000-02-30 a")=true:=td
theorem lit43:PD (.str "months")=true:=td
theorem lit44:PD (.str "never")=true:=td
theorem lit45:PD (.str "no row that the desk takes")=true:=td
theorem lit46:PD (.str "none")=true:=td
theorem lit47:PD (.str "not the text asked for, row ")=true:=td
theorem lit48:PD (.str "paper")=true:=td
theorem lit49:PD (.str "paper 2000-01-01 a b d c")=true:=td
theorem lit50:PD (.str "quarrels with the deed of act ")=true:=td
theorem lit51:PD (.str "rule")=true:=td
theorem lit52:PD (.str "while")=true:=td
theorem lit53:PD (.str "years")=true:=td
def aZ(i:Nat):WK:=PySem.Challenge.pw_goneday_k60_sets_as_texts.main.body.getD i (.Pass ⟨0,0,0,0⟩)
abbrev AQ:WK:=L2.inClass (aZ 11) 0
abbrev AR:WK:=aZ 21
abbrev AS:WK:=aZ 22
abbrev AU:WK:=aZ 23
abbrev AV:WK:=aZ 24
abbrev AW:WK:=aZ 25
abbrev AX:WK:=aZ 26
abbrev AY:WK:=aZ 27
abbrev AZ:WK:=aZ 28
abbrev vx:WK:=aZ 29
abbrev A0:WK:=aZ 30
abbrev A1:WK:=aZ 31
abbrev vy:WK:=aZ 32
abbrev A2:WK:=aZ 33
abbrev A3:WK:=aZ 40
abbrev vz:WK:=aZ 41
abbrev A4:WK:=aZ 42
abbrev A5:WK:=aZ 43
abbrev A6:WK:=aZ 44
abbrev tN:WK:=aZ 45
abbrev A7:WK:=aZ 46
abbrev A8:WK:=aZ 47
abbrev A9:WK:=aZ 48
abbrev Ba:WK:=aZ 49
abbrev Bb:WK:=aZ 52
abbrev Bc:WK:=aZ 53
abbrev Bd:WK:=aZ 54
abbrev vA:WK:=aZ 55
abbrev Be:WK:=aZ 56
abbrev Bf:WK:=aZ 57
abbrev Bg:WK:=aZ 58
abbrev Bh:WK:=aZ 59
abbrev Bi:WK:=aZ 60
abbrev vB:WK:=aZ 61
abbrev Bj:WK:=aZ 63
abbrev Bk:WK:=aZ 64
abbrev Bl:WK:=aZ 65
abbrev tO:WK:=aZ 66
abbrev Bm:WK:=aZ 67
abbrev Bn:WK:=aZ 68
abbrev Bo:WK:=aZ 69
abbrev Bp:WK:=aZ 70
abbrev vC:WK:=aZ 71
abbrev vD:WK:=aZ 72
abbrev Bq:WK:=aZ 73
abbrev vE:WK:=aZ 74
abbrev Br:WK:=aZ 75
abbrev vF:WK:=aZ 76
abbrev vG:WK:=aZ 77
abbrev qz:WK:=aZ 78
abbrev Bs:WK:=aZ 79
abbrev vH:WK:=aZ 80
abbrev Bt:WK:=aZ 81
abbrev vI:WK:=aZ 82
abbrev Bu:WK:=aZ 83
abbrev Bv:WK:=aZ 84
abbrev vJ:WK:=aZ 85
abbrev tP:WK:=aZ 86
set_option genInjectivity false in
set_option genSizeOfSpec false in
structure k8 where
 a_A:Wu
 d_A:WD
 a_B:Wu
 d_B:WD
 a_C:Wu
 d_C:WD
 a_D:Wu
 d_D:WD
 a_E:Wu
 d_E:WD
 a_F:Wu
 d_F:WD
 a_G:Wu
 d_G:WD
 a_H:Wu
 d_H:WD
 a_I:Wu
 d_I:WD
 a_J:Wu
 d_J:WD
 a_K:Wu
 d_K:WD
 a_L:Wu
 d_L:WD
 a_M:Wu
 d_M:WD
 a_N:Wu
 d_N:WD
 a_O:Wu
 d_O:WD
 a_P:Wu
 d_P:WD
 a_Q:Wu
 d_Q:WD
 a_R:Wu
 d_R:WD
 a_S:Wu
 d_S:WD
 a_T:Wu
 d_T:WD
 a_U:Wu
 d_U:WD
 a_V:Wu
 d_V:WD
 a_W:Wu
 d_W:WD
 a_X:Wu
 d_X:WD
 a_Y:Wu
 d_Y:WD
 a_Z:Wu
 d_Z:WD
 a_a:Wu
 d_a:WD
 a_b:Wu
 d_b:WD
 a_c:Wu
 d_c:WD
 a_d:Wu
 d_d:WD
 a_e:Wu
 d_e:WD
 a_f:Wu
 d_f:WD
 a_g:Wu
 d_g:WD
 a_h:Wu
 d_h:WD
 a_i:Wu
 d_i:WD
 a_j:Wu
 d_j:WD
 a_k:Wu
 d_k:WD
 a_l:Wu
 d_l:WD
 a_m:Wu
 d_m:WD
 a_n:Wu
 d_n:WD
 a_o:Wu
 d_o:WD
 a_p:Wu
 d_p:WD
 a_q:Wu
 d_q:WD
 a_r:Wu
 d_r:WD
 a_s:Wu
 d_s:WD
 a_t:Wu
 d_t:WD
 a_u:Wu
 d_u:WD
 a_v:Wu
 d_v:WD
 a_w:Wu
 d_w:WD
 a_x:Wu
 d_x:WD
 a_y:Wu
 d_y:WD
 a_z:Wu
 d_z:WD
 a_AA:Wu
 d_AA:WD
 a_AB:Wu
 d_AB:WD
 a_AC:Wu
 d_AC:WD
 a_AD:Wu
 d_AD:WD
 a_AE:Wu
 d_AE:WD
 a_AF:Wu
 d_AF:WD
 u_ArchiveError:Wu
 u_LAST_WRITTEN:Ws
 u_MONTH_DAYS:Ws
 u_FIRST_YEAR:Ws
 u_ROUND_DAYS:Ws
 u_ROUND_YEARS:Ws
 u_LAST_YEAR:Ws
 u_FIGURES:Ws
 u_NoText:Wu
 u_LONGEST_NAME:Ws
 u_LETTERS:Ws
 u_MOST_MANY:Ws
 u_UNITS:Ws
 u_MOST_MAKERS:Ws
 u_MANY_FIGURES:Ws
 u_GoneMaker:Wu
 u_Held:Wu
 u_MustStay:Wu
 u_NoCall:Wu
 u_NoDay:Wu
 u_NoDeed:Wu
 u_NoLeave:Wu
 u_NoNumber:Wu
 u_NoPaper:Wu
 u_Twice:Wu
structure Txt (K:Pq) (mg:Str->Option Ws) (t:k8):Prop where
 F_A:Mn K "__init__" "NoText.__init__" AQ t.a_A t.d_A ["self","row"]
 F_B:Fn K mg "is_whole" AR t.a_B t.d_B ["thing"]
 F_C:Fn K mg "is_day" AS t.a_C t.d_C ["thing"]
 F_D:Fn K mg "is_leap" AU t.a_D t.d_D ["year"]
 F_E:Fn K mg "month_length" AV t.a_E t.d_E ["year","month"]
 F_F:Fn K mg "leaps_before" AW t.a_F t.d_F ["year"]
 F_G:Fn K mg "year_start" AX t.a_G t.d_G ["year"]
 F_H:Fn K mg "year_of" AY t.a_H t.d_H ["day"]
 F_I:Fn K mg "parts_of" AZ t.a_I t.d_I ["day"]
 F_J:Fn K mg "number_of" vx t.a_J t.d_J ["year","month","day"]
 F_K:Fn K mg "is_date" A0 t.a_K t.d_K ["year","month","day"]
 F_L:Fn K mg "show_day" A1 t.a_L t.d_L ["day"]
 F_M:Fn K mg "is_figures" vy t.a_M t.d_M ["text","length"]
 F_N:Fn K mg "read_day" A2 t.a_N t.d_N ["text"]
 F_O:Fn K mg "is_tuple_of" A3 t.a_O t.d_O ["thing","length"]
 F_P:Fn K mg "is_name" vz t.a_P t.d_P ["thing"]
 F_Q:Fn K mg "is_since" A4 t.a_Q t.d_Q ["thing"]
 F_R:Fn K mg "is_span" A5 t.a_R t.d_R ["many","unit"]
 F_S:Fn K mg "is_rule" A6 t.a_S t.d_S ["thing"]
 F_T:Fn K mg "is_makers" tN t.a_T t.d_T ["thing"]
 F_U:Fn K mg "is_target" A7 t.a_U t.d_U ["thing"]
 F_V:Fn K mg "are_parts" A8 t.a_V t.d_V ["word","parts"]
 F_W:Fn K mg "is_deed" A9 t.a_W t.d_W ["thing"]
 F_X:Fn K mg "quarrel" Ba t.a_X t.d_X ["one","other"]
 F_Y:Fn K mg "rule_words" Bb t.a_Y t.d_Y ["parts"]
 F_Z:Fn K mg "part_words" Bc t.a_Z t.d_Z ["word","parts"]
 F_a:Fn K mg "show_deed" Bd t.a_a t.d_a ["deed"]
 F_b:Fn K mg "show_deeds" vA t.a_b t.d_b ["deeds"]
 F_c:Fn K mg "number_in" Be t.a_c t.d_c ["word","figures"]
 F_d:Fn K mg "day_in" Bf t.a_d t.d_d ["word"]
 F_e:Fn K mg "rule_in" Bg t.a_e t.d_e ["words"]
 F_f:Fn K mg "parts_in" Bh t.a_f t.d_f ["word","words"]
 F_g:Fn K mg "deed_in" Bi t.a_g t.d_g ["row"]
 F_h:Fn K mg "read_deeds" vB t.a_h t.d_h ["text"]
 F_i:Fn K mg "_law_mixed" Bj t.a_i t.d_i ["_law_cell"]
 F_j:Fn K mg "_law_pack" Bk t.a_j t.d_j ["_law_script","_law_k"]
 F_k:Fn K mg "_law_take" Bl t.a_k t.d_k ["_law_pack_here","_law_size"]
 F_l:Fn K mg "_law_names" tO t.a_l t.d_l ["_law_pack_here","_law_many"]
 F_m:Fn K mg "_law_rule" Bm t.a_m t.d_m ["_law_pack_here","_law_names_here"]
 F_n:Fn K mg "_law_length" Bn t.a_n t.d_n ["_law_year","_law_month"]
 F_o:Fn K mg "_law_ahead" Bo t.a_o t.d_o ["_law_year"]
 F_p:Fn K mg "_law_day_text" Bp t.a_p t.d_p ["_law_day"]
 F_q:Fn K mg "_law_any_day" vC t.a_q t.d_q ["_law_pack_here"]
 F_r:Fn K mg "_law_drawn" vD t.a_r t.d_r ["_law_pack_here","_law_names_here"]
 F_s:Fn K mg "_law_written" Bq t.a_s t.d_s ["_law_deed"]
 F_t:Fn K mg "_law_same" vE t.a_t t.d_t ["_law_found","_law_due_here"]
 F_u:Fn K mg "_law_only" Br t.a_u t.d_u ["_law_e"]
 F_v:Fn K mg "_law_figures" vF t.a_v t.d_v ["_law_word","_law_most"]
 F_w:Fn K mg "_law_name" vG t.a_w t.d_w ["_law_word"]
 F_x:Fn K mg "_law_day_in" qz t.a_x t.d_x ["_law_word"]
 F_y:Fn K mg "_law_rule_in" Bs t.a_y t.d_y ["_law_words"]
 F_z:Fn K mg "_law_read" vH t.a_z t.d_z ["_law_text"]
 F_AA:Fn K mg "_law_due" Bt t.a_AA t.d_AA ["_law_one","_law_other"]
 F_AB:Fn K mg "_law_told" vI t.a_AB t.d_AB ["_law_text"]
 F_AC:Fn K mg "_law_right" Bu t.a_AC t.d_AC ["_law_thing","_law_due_here"]
 F_AD:Fn K mg "_law_odd_row" Bv t.a_AD t.d_AD ["_law_pack_here","_law_rows"]
 F_AE:Fn K mg "_law_spoilt" vJ t.a_AE t.d_AE ["_law_pack_here","_law_rows"]
 F_AF:Fn K mg "law" tP t.a_AF t.d_AF ["_law_script"]
 bt_AF:∀(s:Wv)(u:Ws),BindsTo s t.d_AF ⟨[u],[]⟩ [("_law_script",u)]
 c_ArchiveError:mg "ArchiveError"=some (.ref t.u_ArchiveError)
 c_LAST_WRITTEN:mg "LAST_WRITTEN"=some t.u_LAST_WRITTEN
 r_LAST_WRITTEN:aJ (.int 99999) t.u_LAST_WRITTEN
 c_MONTH_DAYS:mg "MONTH_DAYS"=some t.u_MONTH_DAYS
 e_MONTH_DAYS:∃a,t.u_MONTH_DAYS= .ref a/\∀H,aY K H a [V.int 31,V.int 28,V.int 31,V.int 30,V.int 31,V.int 30,V.int 31,V.int 31,V.int 30,V.int 31,V.int 30,V.int 31]
 c_FIRST_YEAR:mg "FIRST_YEAR"=some t.u_FIRST_YEAR
 r_FIRST_YEAR:aJ (.int 2000) t.u_FIRST_YEAR
 c_ROUND_DAYS:mg "ROUND_DAYS"=some t.u_ROUND_DAYS
 r_ROUND_DAYS:aJ (.int 146097) t.u_ROUND_DAYS
 c_ROUND_YEARS:mg "ROUND_YEARS"=some t.u_ROUND_YEARS
 r_ROUND_YEARS:aJ (.int 400) t.u_ROUND_YEARS
 c_LAST_YEAR:mg "LAST_YEAR"=some t.u_LAST_YEAR
 r_LAST_YEAR:aJ (.int 9999) t.u_LAST_YEAR
 c_FIGURES:mg "FIGURES"=some t.u_FIGURES
 r_FIGURES:aJ (.str "0123456789") t.u_FIGURES
 c_NoText:mg "NoText"=some (.ref t.u_NoText)
 c_LONGEST_NAME:mg "LONGEST_NAME"=some t.u_LONGEST_NAME
 r_LONGEST_NAME:aJ (.int 8) t.u_LONGEST_NAME
 c_LETTERS:mg "LETTERS"=some t.u_LETTERS
 r_LETTERS:aJ (.str "abcdefghijklmnopqrstuvwxyz") t.u_LETTERS
 c_MOST_MANY:mg "MOST_MANY"=some t.u_MOST_MANY
 r_MOST_MANY:aJ (.int 999) t.u_MOST_MANY
 c_UNITS:mg "UNITS"=some t.u_UNITS
 e_UNITS:∃a,t.u_UNITS= .ref a/\∀H,aY K H a [V.str "days",V.str "months",V.str "years"]
 c_MOST_MAKERS:mg "MOST_MAKERS"=some t.u_MOST_MAKERS
 r_MOST_MAKERS:aJ (.int 4) t.u_MOST_MAKERS
 c_MANY_FIGURES:mg "MANY_FIGURES"=some t.u_MANY_FIGURES
 r_MANY_FIGURES:aJ (.int 3) t.u_MANY_FIGURES
 c_GoneMaker:mg "GoneMaker"=some (.ref t.u_GoneMaker)
 c_Held:mg "Held"=some (.ref t.u_Held)
 c_MustStay:mg "MustStay"=some (.ref t.u_MustStay)
 c_NoCall:mg "NoCall"=some (.ref t.u_NoCall)
 c_NoDay:mg "NoDay"=some (.ref t.u_NoDay)
 c_NoDeed:mg "NoDeed"=some (.ref t.u_NoDeed)
 c_NoLeave:mg "NoLeave"=some (.ref t.u_NoLeave)
 c_NoNumber:mg "NoNumber"=some (.ref t.u_NoNumber)
 c_NoPaper:mg "NoPaper"=some (.ref t.u_NoPaper)
 c_Twice:mg "Twice"=some (.ref t.u_Twice)
 xm_NoText:L2.MkX K t.u_NoText t.a_A [.type "ValueError",.type "Exception",.type "BaseException",.type "object"] "ValueError.__new__"
 xsa:Rn K (.ref t.u_NoText) "__setattr__"=some (some (.builtin "object.__setattr__"))
 xrow:Rn K (.ref t.u_NoText) "row"=some none
 xsp:SV K (.ref t.u_ArchiveError) "__getattribute__"=some (some (.builtin "type.__getattribute__"))
 xrd:VO K t.u_ArchiveError (.type "type")=true
 xfc:VP K (.ref t.u_ArchiveError) (.type "type") "__init__"=some (.val (.builtin "ValueError.__init__"))
 xhd:Ue K t.u_NoText=true
 q_ArchiveError:TK K t.u_ArchiveError [.type "ValueError",.type "Exception",.type "BaseException",.type "object"] "ValueError.__new__"=true
 z1:Rn K (.ref t.u_NoText) "__getattribute__"=some (some (.builtin "BaseException.__getattribute__"))
 z2:Rn K (.ref t.u_NoText) "__getattr__"=some none
 z3:Rn K (.ref t.u_NoText) "__class__"=some (some (.builtin "object.__class__"))
 z4:SV K (.builtin "object.__class__") "__get__"=some (some (.builtin "getset_descriptor.__get__"))
 z5:Uz K (.builtin "object.__class__")=some true
 z6:RQ K t.u_NoText (.type "object")=some true
 z7:RQ K t.u_NoText (.type "BaseException")=some true
 z8:VQ K t.u_NoText=true
 i_NoText_ArchiveError:RQ K t.u_NoText (.ref t.u_ArchiveError)=some true
 kv:SE K (.ref t.u_NoText) (.type "ValueError")=some true
 ka:S0 K (.ref t.u_NoText) [.ref t.u_GoneMaker,.ref t.u_Held,.ref t.u_MustStay,.ref t.u_NoCall,.ref t.u_NoDay]=some false
 kb:S0 K (.ref t.u_NoText) [.ref t.u_NoDeed,.ref t.u_NoLeave,.ref t.u_NoNumber,.ref t.u_NoPaper,.ref t.u_Twice]=some false
 i_NoText_NoText:RQ K t.u_NoText (.ref t.u_NoText)=some true
 n_ValueError:mg "ValueError"=none
 n_all:mg "all"=none
 n_any:mg "any"=none
 n_bool:mg "bool"=none
 n_divmod:mg "divmod"=none
 n_enumerate:mg "enumerate"=none
 n_int:mg "int"=none
 n_isinstance:mg "isinstance"=none
 n_len:mg "len"=none
 n_list:mg "list"=none
 n_max:mg "max"=none
 n_min:mg "min"=none
 n_range:mg "range"=none
 n_set:mg "set"=none
 n_sorted:mg "sorted"=none
 n_str:mg "str"=none
 n_sum:mg "sum"=none
 n_tuple:mg "tuple"=none
 n_zip:mg "zip"=none
theorem Ml:aN ["self","row"] ["self","row"] (az AQ):= .of
theorem Mm:aN ["thing"] ["thing"] (az AR):= .of
theorem Mo:aN ["thing"] ["thing"] (az AS):= .of
theorem Mp:aN ["year"] ["year"] (az AU):= .of
theorem Mq:aN ["year","month"] ["year","month"] (az AV):= .of
theorem EW:aN ["year","past"] ["year"] (az AW):= .of
theorem Mr:aN ["year"] ["year"] (az AX):= .of
theorem EX:aN ["day","year"] ["day"] (az AY):= .of
theorem rJ:aN ["day","year","left","month"] ["day"] (az AZ):= .of
theorem EY:aN ["year","month","day","before"] ["year","month","day"] (az vx):= .of
theorem Ms:aN ["year","month","day"] ["year","month","day"] (az A0):= .of
theorem tQ:aN ["day","parts","year","month","number"] ["day"] (az A1):= .of
theorem Mt:aN ["text","length"] ["text","length"] (az vy):= .of
theorem tR:aN ["text","words","year","month","number"] ["text"] (az A2):= .of
theorem Mu:aN ["thing","length"] ["thing","length"] (az A3):= .of
theorem Mv:aN ["thing"] ["thing"] (az vz):= .of
theorem Mw:aN ["thing"] ["thing"] (az A4):= .of
theorem Mx:aN ["many","unit"] ["many","unit"] (az A5):= .of
theorem EZ:aN ["thing","named"] ["thing"] (az A6):= .of
theorem My:aN ["thing"] ["thing"] (az tN):= .of
theorem Mz:aN ["thing"] ["thing"] (az A7):= .of
theorem MA:aN ["word","parts"] ["word","parts"] (az A8):= .of
theorem MB:aN ["thing"] ["thing"] (az A9):= .of
theorem Bw:aN ["one","other","word","words"] ["one","other"] (az Ba):= .of
theorem MC:aN ["parts"] ["parts"] (az Bb):= .of
theorem MD:aN ["word","parts"] ["word","parts"] (az Bc):= .of
theorem ME:aN ["deed"] ["deed"] (az Bd):= .of
theorem MF:aN ["deeds"] ["deeds"] (az vA):= .of
theorem MG:aN ["word","figures"] ["word","figures"] (az Be):= .of
theorem MH:aN ["word"] ["word"] (az Bf):= .of
theorem MI:aN ["words"] ["words"] (az Bg):= .of
theorem MJ:aN ["word","words"] ["word","words"] (az Bh):= .of
theorem Bx:aN ["row","words","deed"] ["row"] (az Bi):= .of
theorem rK:aN ["text","deeds","rows","number","row","deed"] ["text"] (az vB):= .of
theorem MK:aN ["_law_cell"] ["_law_cell"] (az Bj):= .of
theorem ML:aN ["_law_script","_law_k"] ["_law_script","_law_k"] (az Bk):= .of
theorem E1:aN ["_law_pack_here","_law_size","_law_digit"] ["_law_pack_here","_law_size"] (az Bl):= .of
theorem oQ:aN ["_law_pack_here","_law_many","_law_letters","_law_words","_law_turn","_law_size","_law_at","_law_stem","_law_first"] ["_law_pack_here","_law_many"] (az tO):= .of
theorem oR:aN ["_law_pack_here","_law_names_here","_law_word","_law_kind","_law_since","_law_way","_law_many"] ["_law_pack_here","_law_names_here"] (az Bm):= .of
theorem MM:aN ["_law_year","_law_month"] ["_law_year","_law_month"] (az Bn):= .of
theorem E2:aN ["_law_year","_law_years"] ["_law_year"] (az Bo):= .of
theorem rL:aN ["_law_day","_law_year","_law_month","_law_number"] ["_law_day"] (az Bp):= .of
theorem tS:aN ["_law_pack_here","_law_way","_law_year","_law_month","_law_last"] ["_law_pack_here"] (az vC):= .of
theorem rM:aN ["_law_pack_here","_law_names_here","_law_word","_law_head","_law_other","_law_some","_law_target"] ["_law_pack_here","_law_names_here"] (az vD):= .of
theorem rN:aN ["_law_deed","_law_words"] ["_law_deed"] (az Bq):= .of
theorem MN:aN ["_law_found","_law_due_here"] ["_law_found","_law_due_here"] (az vE):= .of
theorem MO:aN ["_law_e"] ["_law_e"] (az Br):= .of
theorem MP:aN ["_law_word","_law_most"] ["_law_word","_law_most"] (az vF):= .of
theorem MQ:aN ["_law_word"] ["_law_word"] (az vG):= .of
theorem rO:aN ["_law_word","_law_parts","_law_year","_law_month","_law_number","_law_day"] ["_law_word"] (az qz):= .of
theorem By:aN ["_law_words","_law_since","_law_many"] ["_law_words"] (az Bs):= .of
theorem vK:aN ["_law_text","_law_words","_law_head","_law_more"] ["_law_text"] (az vH):= .of
theorem E3:aN ["_law_one","_law_other","_law_words"] ["_law_one","_law_other"] (az Bt):= .of
theorem tT:aN ["_law_text","_law_found","_law_number","_law_row","_law_deed"] ["_law_text"] (az vI):= .of
theorem tU:aN ["_law_thing","_law_due_here","_law_caught","_law_found","_law_e"] ["_law_thing","_law_due_here"] (az Bu):= .of
theorem vL:aN ["_law_pack_here","_law_rows","_law_some","_law_words"] ["_law_pack_here","_law_rows"] (az Bv):= .of
theorem Bz:aN ["_law_pack_here","_law_rows","_law_at","_law_way"] ["_law_pack_here","_law_rows"] (az vJ):= .of
theorem mL:aN ["_law_script","_law_thing","_law_deeds","_law_k","_law_pack_here","_law_deed","_law_rows","_law_turn","_law_some","_law_text"] ["_law_script"] (az tP):= .of
theorem E4{α:Type}{us:List α}(h:us.length=1):∃a,us=[a]:=List.length_eq_one_iff.mp h
theorem E5{α:Type}{us:List α}(h0:us.length=2):∃a b,us=[a,b]:=by
 cases us with
 | nil=>cases h0
 | cons a us=>
  obtain⟨b,z0⟩:=E4 (us:=us) (V8 h0);exact⟨a,b,by rw [z0]⟩
theorem MR{α:Type}{us:List α}(h0:us.length=3):∃a b c,us=[a,b,c]:=by
 cases us with
 | nil=>cases h0
 | cons a us=>
  obtain⟨b,c,z0⟩:=E5 (us:=us) (V8 h0);exact⟨a,b,c,by rw [z0]⟩
local macro_rules | `(tactic| walk_at "b")=>`(tactic| (intro _ _ _ _ _ _ us hl;first | (cases ls0 (us:=us) hl;rfl) | (obtain⟨a,e⟩:=E4 (us:=us) hl;subst e;rfl) | (obtain⟨a,b,e⟩:=E5 (us:=us) hl;subst e;rfl) | (obtain⟨a,b,c,e⟩:=MR (us:=us) hl;subst e;rfl)))
theorem txt_mk{K:Pq}{h:WG}{mg:Str->Option Ws}(X:K.In h)(G:h.Ns WE mg)
 {f0 f1 f2 f3 f4 f5 f6 f7 f8 f9 f10 f11 f12 f13 f14 f15 f16 f17 f18 f19 f20 f21 f22 f23 f24 f25 f26 f27 f28 f29 f30 f31 f32 f33 f34 f35 f36 f37 f38 f39 f40 f41 f42 f43 f44 f45 f46 f47 f48 f49 f50 f51 f52 f53 f54 f55 f56 f57:Wu}{e0 e1 e2 e3 e4 e5 e6 e7 e8 e9 e10 e11 e12 e13 e14 e15 e16 e17 e18 e19 e20 e21 e22 e23 e24 e25 e26 e27 e28 e29 e30 e31 e32 e33 e34 e35 e36 e37 e38 e39 e40 e41 e42 e43 e44 e45 e46 e47 e48 e49 e50 e51 e52 e53 e54 e55 e56 e57:WD}
 {u_ArchiveError u_NoText u_GoneMaker u_Held u_MustStay u_NoCall u_NoDay u_NoDeed u_NoLeave u_NoNumber u_NoPaper u_Twice:Wu}
 {u_LAST_WRITTEN u_FIRST_YEAR u_ROUND_DAYS u_ROUND_YEARS u_LAST_YEAR u_FIGURES u_LONGEST_NAME u_LETTERS u_MOST_MANY u_MOST_MAKERS u_MANY_FIGURES:Ws}
 {A_MONTH_DAYS:Wu}{dd_MONTH_DAYS:Option Wu}{its_MONTH_DAYS:Array Ws}{n_MONTH_DAYS:Nat}{sl_MONTH_DAYS:Array (Option Ws)}
 {A_UNITS:Wu}{dd_UNITS:Option Wu}{its_UNITS:Array Ws}{n_UNITS:Nat}{sl_UNITS:Array (Option Ws)}
 (a0:DmT K u_NoText "__init__" "NoText.__init__" AQ f0 e0)
 (a1:DfT K "is_whole" AR f1 e1)
 (a2:DfT K "is_day" AS f2 e2)
 (a3:DfT K "is_leap" AU f3 e3)
 (a4:DfT K "month_length" AV f4 e4)
 (a5:DfT K "leaps_before" AW f5 e5)
 (a6:DfT K "year_start" AX f6 e6)
 (a7:DfT K "year_of" AY f7 e7)
 (a8:DfT K "parts_of" AZ f8 e8)
 (a9:DfT K "number_of" vx f9 e9)
 (a10:DfT K "is_date" A0 f10 e10)
 (a11:DfT K "show_day" A1 f11 e11)
 (a12:DfT K "is_figures" vy f12 e12)
 (a13:DfT K "read_day" A2 f13 e13)
 (a14:DfT K "is_tuple_of" A3 f14 e14)
 (a15:DfT K "is_name" vz f15 e15)
 (a16:DfT K "is_since" A4 f16 e16)
 (a17:DfT K "is_span" A5 f17 e17)
 (a18:DfT K "is_rule" A6 f18 e18)
 (a19:DfT K "is_makers" tN f19 e19)
 (a20:DfT K "is_target" A7 f20 e20)
 (a21:DfT K "are_parts" A8 f21 e21)
 (a22:DfT K "is_deed" A9 f22 e22)
 (a23:DfT K "quarrel" Ba f23 e23)
 (a24:DfT K "rule_words" Bb f24 e24)
 (a25:DfT K "part_words" Bc f25 e25)
 (a26:DfT K "show_deed" Bd f26 e26)
 (a27:DfT K "show_deeds" vA f27 e27)
 (a28:DfT K "number_in" Be f28 e28)
 (a29:DfT K "day_in" Bf f29 e29)
 (a30:DfT K "rule_in" Bg f30 e30)
 (a31:DfT K "parts_in" Bh f31 e31)
 (a32:DfT K "deed_in" Bi f32 e32)
 (a33:DfT K "read_deeds" vB f33 e33)
 (a34:DfT K "_law_mixed" Bj f34 e34)
 (a35:DfT K "_law_pack" Bk f35 e35)
 (a36:DfT K "_law_take" Bl f36 e36)
 (a37:DfT K "_law_names" tO f37 e37)
 (a38:DfT K "_law_rule" Bm f38 e38)
 (a39:DfT K "_law_length" Bn f39 e39)
 (a40:DfT K "_law_ahead" Bo f40 e40)
 (a41:DfT K "_law_day_text" Bp f41 e41)
 (a42:DfT K "_law_any_day" vC f42 e42)
 (a43:DfT K "_law_drawn" vD f43 e43)
 (a44:DfT K "_law_written" Bq f44 e44)
 (a45:DfT K "_law_same" vE f45 e45)
 (a46:DfT K "_law_only" Br f46 e46)
 (a47:DfT K "_law_figures" vF f47 e47)
 (a48:DfT K "_law_name" vG f48 e48)
 (a49:DfT K "_law_day_in" qz f49 e49)
 (a50:DfT K "_law_rule_in" Bs f50 e50)
 (a51:DfT K "_law_read" vH f51 e51)
 (a52:DfT K "_law_due" Bt f52 e52)
 (a53:DfT K "_law_told" vI f53 e53)
 (a54:DfT K "_law_right" Bu f54 e54)
 (a55:DfT K "_law_odd_row" Bv f55 e55)
 (a56:DfT K "_law_spoilt" vJ f56 e56)
 (a57:DfT K "law" tP f57 e57)
 (x_ArchiveError:Qe K WE "ArchiveError"=some (some (.ref u_ArchiveError)))
 (x_LAST_WRITTEN:Qe K WE "LAST_WRITTEN"=some (some u_LAST_WRITTEN))(r_LAST_WRITTEN:aJ (.int 99999) u_LAST_WRITTEN)
 (x_MONTH_DAYS:Qe K WE "MONTH_DAYS"=some (some (.ref A_MONTH_DAYS)))(y_MONTH_DAYS:K.lookup A_MONTH_DAYS=some ⟨.type "tuple",dd_MONTH_DAYS,.seq its_MONTH_DAYS n_MONTH_DAYS,sl_MONTH_DAYS⟩)(z_MONTH_DAYS:aM [V.int 31,V.int 28,V.int 31,V.int 30,V.int 31,V.int 30,V.int 31,V.int 31,V.int 30,V.int 31,V.int 30,V.int 31] its_MONTH_DAYS.toList)(w_MONTH_DAYS:its_MONTH_DAYS.size<=WA)
 (x_FIRST_YEAR:Qe K WE "FIRST_YEAR"=some (some u_FIRST_YEAR))(r_FIRST_YEAR:aJ (.int 2000) u_FIRST_YEAR)
 (x_ROUND_DAYS:Qe K WE "ROUND_DAYS"=some (some u_ROUND_DAYS))(r_ROUND_DAYS:aJ (.int 146097) u_ROUND_DAYS)
 (x_ROUND_YEARS:Qe K WE "ROUND_YEARS"=some (some u_ROUND_YEARS))(r_ROUND_YEARS:aJ (.int 400) u_ROUND_YEARS)
 (x_LAST_YEAR:Qe K WE "LAST_YEAR"=some (some u_LAST_YEAR))(r_LAST_YEAR:aJ (.int 9999) u_LAST_YEAR)
 (x_FIGURES:Qe K WE "FIGURES"=some (some u_FIGURES))(r_FIGURES:aJ (.str "0123456789") u_FIGURES)
 (x_NoText:Qe K WE "NoText"=some (some (.ref u_NoText)))
 (x_LONGEST_NAME:Qe K WE "LONGEST_NAME"=some (some u_LONGEST_NAME))(r_LONGEST_NAME:aJ (.int 8) u_LONGEST_NAME)
 (x_LETTERS:Qe K WE "LETTERS"=some (some u_LETTERS))(r_LETTERS:aJ (.str "abcdefghijklmnopqrstuvwxyz") u_LETTERS)
 (x_MOST_MANY:Qe K WE "MOST_MANY"=some (some u_MOST_MANY))(r_MOST_MANY:aJ (.int 999) u_MOST_MANY)
 (x_UNITS:Qe K WE "UNITS"=some (some (.ref A_UNITS)))(y_UNITS:K.lookup A_UNITS=some ⟨.type "tuple",dd_UNITS,.seq its_UNITS n_UNITS,sl_UNITS⟩)(z_UNITS:aM [V.str "days",V.str "months",V.str "years"] its_UNITS.toList)(w_UNITS:its_UNITS.size<=WA)
 (x_MOST_MAKERS:Qe K WE "MOST_MAKERS"=some (some u_MOST_MAKERS))(r_MOST_MAKERS:aJ (.int 4) u_MOST_MAKERS)
 (x_MANY_FIGURES:Qe K WE "MANY_FIGURES"=some (some u_MANY_FIGURES))(r_MANY_FIGURES:aJ (.int 3) u_MANY_FIGURES)
 (x_GoneMaker:Qe K WE "GoneMaker"=some (some (.ref u_GoneMaker)))
 (x_Held:Qe K WE "Held"=some (some (.ref u_Held)))
 (x_MustStay:Qe K WE "MustStay"=some (some (.ref u_MustStay)))
 (x_NoCall:Qe K WE "NoCall"=some (some (.ref u_NoCall)))
 (x_NoDay:Qe K WE "NoDay"=some (some (.ref u_NoDay)))
 (x_NoDeed:Qe K WE "NoDeed"=some (some (.ref u_NoDeed)))
 (x_NoLeave:Qe K WE "NoLeave"=some (some (.ref u_NoLeave)))
 (x_NoNumber:Qe K WE "NoNumber"=some (some (.ref u_NoNumber)))
 (x_NoPaper:Qe K WE "NoPaper"=some (some (.ref u_NoPaper)))
 (x_Twice:Qe K WE "Twice"=some (some (.ref u_Twice)))
 (f_xm_NoText:L2.MkX K u_NoText f0 [.type "ValueError",.type "Exception",.type "BaseException",.type "object"] "ValueError.__new__")
 (f_xsa:Rn K (.ref u_NoText) "__setattr__"=some (some (.builtin "object.__setattr__")))
 (f_xrow:Rn K (.ref u_NoText) "row"=some none)
 (f_xsp:SV K (.ref u_ArchiveError) "__getattribute__"=some (some (.builtin "type.__getattribute__")))
 (f_xrd:VO K u_ArchiveError (.type "type")=true)
 (f_xfc:VP K (.ref u_ArchiveError) (.type "type") "__init__"=some (.val (.builtin "ValueError.__init__")))
 (f_xhd:Ue K u_NoText=true)
 (f_q_ArchiveError:TK K u_ArchiveError [.type "ValueError",.type "Exception",.type "BaseException",.type "object"] "ValueError.__new__"=true)
 (f_z1:Rn K (.ref u_NoText) "__getattribute__"=some (some (.builtin "BaseException.__getattribute__")))
 (f_z2:Rn K (.ref u_NoText) "__getattr__"=some none)
 (f_z3:Rn K (.ref u_NoText) "__class__"=some (some (.builtin "object.__class__")))
 (f_z4:SV K (.builtin "object.__class__") "__get__"=some (some (.builtin "getset_descriptor.__get__")))
 (f_z5:Uz K (.builtin "object.__class__")=some true)
 (f_z6:RQ K u_NoText (.type "object")=some true)
 (f_z7:RQ K u_NoText (.type "BaseException")=some true)
 (f_z8:VQ K u_NoText=true)
 (f_i_NoText_ArchiveError:RQ K u_NoText (.ref u_ArchiveError)=some true)
 (f_kv:SE K (.ref u_NoText) (.type "ValueError")=some true)
 (f_ka:S0 K (.ref u_NoText) [.ref u_GoneMaker,.ref u_Held,.ref u_MustStay,.ref u_NoCall,.ref u_NoDay]=some false)
 (f_kb:S0 K (.ref u_NoText) [.ref u_NoDeed,.ref u_NoLeave,.ref u_NoNumber,.ref u_NoPaper,.ref u_Twice]=some false)
 (f_i_NoText_NoText:RQ K u_NoText (.ref u_NoText)=some true)
 (n_ValueError:Qe K WE "ValueError"=some none)
 (n_all:Qe K WE "all"=some none)
 (n_any:Qe K WE "any"=some none)
 (n_bool:Qe K WE "bool"=some none)
 (n_divmod:Qe K WE "divmod"=some none)
 (n_enumerate:Qe K WE "enumerate"=some none)
 (n_int:Qe K WE "int"=some none)
 (n_isinstance:Qe K WE "isinstance"=some none)
 (n_len:Qe K WE "len"=some none)
 (n_list:Qe K WE "list"=some none)
 (n_max:Qe K WE "max"=some none)
 (n_min:Qe K WE "min"=some none)
 (n_range:Qe K WE "range"=some none)
 (n_set:Qe K WE "set"=some none)
 (n_sorted:Qe K WE "sorted"=some none)
 (n_str:Qe K WE "str"=some none)
 (n_sum:Qe K WE "sum"=some none)
 (n_tuple:Qe K WE "tuple"=some none)
 (n_zip:Qe K WE "zip"=some none):∃t:k8,Txt K mg t:=by
 refine⟨⟨f0,e0,f1,e1,f2,e2,f3,e3,f4,e4,f5,e5,f6,e6,f7,e7,f8,e8,f9,e9,f10,e10,f11,e11,f12,e12,f13,e13,f14,e14,f15,e15,f16,e16,f17,e17,f18,e18,f19,e19,f20,e20,f21,e21,f22,e22,f23,e23,f24,e24,f25,e25,f26,e26,f27,e27,f28,e28,f29,e29,f30,e30,f31,e31,f32,e32,f33,e33,f34,e34,f35,e35,f36,e36,f37,e37,f38,e38,f39,e39,f40,e40,f41,e41,f42,e42,f43,e43,f44,e44,f45,e45,f46,e46,f47,e47,f48,e48,f49,e49,f50,e50,f51,e51,f52,e52,f53,e53,f54,e54,f55,e55,f56,e56,f57,e57,u_ArchiveError,u_LAST_WRITTEN,.ref A_MONTH_DAYS,u_FIRST_YEAR,u_ROUND_DAYS,u_ROUND_YEARS,u_LAST_YEAR,u_FIGURES,u_NoText,u_LONGEST_NAME,u_LETTERS,u_MOST_MANY,.ref A_UNITS,u_MOST_MAKERS,u_MANY_FIGURES,u_GoneMaker,u_Held,u_MustStay,u_NoCall,u_NoDay,u_NoDeed,u_NoLeave,u_NoNumber,u_NoPaper,u_Twice⟩,?_⟩;have bl:∀(s:Wv)(u:Ws),BindsTo s e57 ⟨[u],[]⟩ [("_law_script",u)]:=λs v=>by
  obtain⟨oc,od,kV,doc,pm,an,cdv,ct,osl,rfl,_⟩:=a57.F.ex;exact .of_eq rfl
 exact⟨a0.fn,a1.fn X G,a2.fn X G,a3.fn X G,a4.fn X G,a5.fn X G,a6.fn X G,a7.fn X G,a8.fn X G,a9.fn X G,a10.fn X G,a11.fn X G,a12.fn X G,a13.fn X G,a14.fn X G,a15.fn X G,a16.fn X G,a17.fn X G,a18.fn X G,a19.fn X G,a20.fn X G,a21.fn X G,a22.fn X G,a23.fn X G,a24.fn X G,a25.fn X G,a26.fn X G,a27.fn X G,a28.fn X G,a29.fn X G,a30.fn X G,a31.fn X G,a32.fn X G,a33.fn X G,a34.fn X G,a35.fn X G,a36.fn X G,a37.fn X G,a38.fn X G,a39.fn X G,a40.fn X G,a41.fn X G,a42.fn X G,a43.fn X G,a44.fn X G,a45.fn X G,a46.fn X G,a47.fn X G,a48.fn X G,a49.fn X G,a50.fn X G,a51.fn X G,a52.fn X G,a53.fn X G,a54.fn X G,a55.fn X G,a56.fn X G,a57.fn X G,bl,Q5 X G x_ArchiveError,Q5 X G x_LAST_WRITTEN,r_LAST_WRITTEN,Q5 X G x_MONTH_DAYS,⟨A_MONTH_DAYS,rfl,λH=>.inr ⟨_,_,_,y_MONTH_DAYS,rfl,rfl,w_MONTH_DAYS,z_MONTH_DAYS⟩⟩,Q5 X G x_FIRST_YEAR,r_FIRST_YEAR,Q5 X G x_ROUND_DAYS,r_ROUND_DAYS,Q5 X G x_ROUND_YEARS,r_ROUND_YEARS,Q5 X G x_LAST_YEAR,r_LAST_YEAR,Q5 X G x_FIGURES,r_FIGURES,Q5 X G x_NoText,Q5 X G x_LONGEST_NAME,r_LONGEST_NAME,Q5 X G x_LETTERS,r_LETTERS,Q5 X G x_MOST_MANY,r_MOST_MANY,Q5 X G x_UNITS,⟨A_UNITS,rfl,λH=>.inr ⟨_,_,_,y_UNITS,rfl,rfl,w_UNITS,z_UNITS⟩⟩,Q5 X G x_MOST_MAKERS,r_MOST_MAKERS,Q5 X G x_MANY_FIGURES,r_MANY_FIGURES,Q5 X G x_GoneMaker,Q5 X G x_Held,Q5 X G x_MustStay,Q5 X G x_NoCall,Q5 X G x_NoDay,Q5 X G x_NoDeed,Q5 X G x_NoLeave,Q5 X G x_NoNumber,Q5 X G x_NoPaper,Q5 X G x_Twice,f_xm_NoText,f_xsa,f_xrow,f_xsp,f_xrd,f_xfc,f_xhd,f_q_ArchiveError,f_z1,f_z2,f_z3,f_z4,f_z5,f_z6,f_z7,f_z8,f_i_NoText_ArchiveError,f_kv,f_ka,f_kb,f_i_NoText_NoText,Q1 X G n_ValueError,Q1 X G n_all,Q1 X G n_any,Q1 X G n_bool,Q1 X G n_divmod,Q1 X G n_enumerate,Q1 X G n_int,Q1 X G n_isinstance,Q1 X G n_len,Q1 X G n_list,Q1 X G n_max,Q1 X G n_min,Q1 X G n_range,Q1 X G n_set,Q1 X G n_sorted,Q1 X G n_str,Q1 X G n_sum,Q1 X G n_tuple,Q1 X G n_zip⟩
local macro_rules | `(tactic| walk_at "o")=>`(tactic| first | exact Uq rfl | exact TC rfl)
theorem Wo{p:Prop}(h:p:=by walk_at "o"):p:=h
local macro_rules | `(tactic| walk_at "a") =>do let a <- rzT "bZ Pw Qc Pu P1 QD QE PH P7 P2"; let b <- rzT rzS; `(tactic| ((try $a:tactic); $b:tactic))
section
variable {P:WH} {w:WJ} {K:Pq} {mg:Str->Option Ws} {base:WG} {t:k8}
theorem E6(T:Txt K mg t):aF P w K mg base CX0 1 t.a_A t.d_A ["self","row"] (AO t.u_NoText "row"):=by
 refine T.F_A.F.okNX Ml rfl rfl (λcdv A outer s H E hr=>?_);refine kP (L8 (C:=t.u_NoText) T.c_ArchiveError rfl T.xsp T.xrd T.xfc rfl RB T.xm_NoText.seen (aQ (pU (i:=0) rfl ?a) (aQ (Mf ?b (pU (i:=1) rfl ?c)) bJ))) (kz (L9 (C:=t.u_NoText) (pU (i:=0) rfl ?d) (pU (i:=1) rfl ?e) PySem.F.store_ValueError T.xm_NoText.seen T.xsa T.xrow))
 case b=>decide+kernel
 all_goals (first | exact Uq rfl | exact TC rfl)
end
local macro_rules | `(tactic| walk_at "c") =>rzT "ui wD wH wG wF qN nh n9 tC pY wR rI mO rU wV wX Lw Lx Ly Lz LA uu tB wk wm wq wz wA wB wC sN sM uy sO xK xM sA qL sr wJ wK CK CL CM CN CO CP CQ CS cu cK cw L2.start Pw Qc Pu P1 PH P7 P2 PX QD QE QO QK QP PR PM P8 P9 P0 exists_eq_left' exists_eq_left exists_and_left exists_and_right V.int.injEq V.bl.injEq V.str.injEq V.ref.injEq PK and_true true_and QQ exists_const decide_eq_true_eq QR QS QI QJ P5 decide_eq_false_iff_not and_assoc bF Qn Qh Qo L2.cxK L2.cmK or_true true_or"
open Day
theorem E7:bO (az vx) ["year","month","day","before"] ["other","year"] 1 [0] ⟨Qf,[ (Pt ".0",Ym),(Pt "other",Ym),(Pt "month_length",Qm),(Pt "year",Rf)],false,false,[]⟩:= .of
section
variable {P:WH} {w:WJ} {K:Pq} {mg:Str->Option Ws} {base:WG} {t:k8}
def E8:Sp:=λvs H Q _=>∃(y:Int),vs=[.int y]/\Q (.bl (nG y)) H
theorem MS(T:Txt K mg t):aF P w K mg base CX0 1 t.a_D t.d_D ["year"] E8:=by
 refine T.F_D.F.ok Mp (λvs H Q E h=>?_) (λcdv A outer s H vs Q E hr h=>?_)
 ·obtain⟨y,rfl,_⟩:=h;rfl
 ·obtain⟨y,rfl,k⟩:=h;refine⟨_,(kz (kQ (G5 (pZ uq (bY oh (pv 0) cG) cG (av _)) (si (sk (pZ uq (bY oh (pv 0) cG) cG (av _)) (si (pZ Hl (bY oh (pv 0) cG) cG (av _)))))))),?_⟩;walk_at "c";have e:nG y=(decide (y % 400=0) || (decide (y % 4=0) && !decide (y % 100=0))):=rfl;rw [e] at k;by_cases h1:y % 400=0
  ·simpa [h1] using k
  ·by_cases h2:y % 4=0
   ·simpa [h1,h2] using k
   ·simpa [h1,h2] using k
def E9:Sp:=λvs H Q _=>∃(y m:Int),vs=[.int y,.int m]/\1<=m/\m<=12/\Q (.int (bh y m)) H
theorem BA(T:Txt K mg t):aF P w K mg base CX0 2 t.a_E t.d_E ["year","month"] E9:=by
 have G_D:=@MS P w _ _ base _ T;refine T.F_E.F.ok Mq (λvs H Q E h=>?_) (λcdv A outer s H vs Q E hr h=>?_)
 ·obtain⟨y,m,rfl,_⟩:=h;rfl
 ·obtain⟨y,m,rfl,h1,h2,k⟩:=h;obtain⟨a,ea,hM⟩:=T.e_MONTH_DAYS;have T_r:aJ (.ref a) t.u_MONTH_DAYS:=ea;refine⟨_,(kP (oY (PW.pt (BZ (p4 uq (pv 1) cG (av _)) (BX (qK (lN G_D (hr.mono tx) rfl T.F_D (aQ (pv 0) bJ)))))) (kz (kQ cG)) oX)
   (kz (kQ (p9 aI (km rfl T.c_MONTH_DAYS T_r) (bY lg (pv 1) cG) (λ_ _=>rfl))))),?_⟩
  walk_at "c";simp only [E8];walk_at "c";have fin:∀{v:Int},v=bh y m->Q (.int v) H:=λe=>by rw [e];exact k
  have tail:bh y m=Ay.getD (m - 1).toNat 0->uA K (.ref a) (.int (m - 1)) H Q:=λe=>by
   refine⟨a,_,m - 1,.int (bh y m),rfl,rfl,hM H,?_,k⟩;rw [e];rcases AB h1 h2 with z | z | z | z | z | z | z | z | z | z | z | z <;> subst z <;> rfl
  by_cases hm:m=2
  ·rw [Wn hm];by_cases hl:nG y=true
   ·rw [Wn hl];exact fin (by unfold bh;rw [Wn ⟨hm,hl⟩])
   ·rw [Wm hl];exact tail (by unfold bh;rw [Wm (λz=>hl z.2)])
  ·rw [Wm hm];exact tail (Ew hm)
def Fb:Sp:=λvs H Q _=>∃(y:Int),vs=[.int y]/\Q (.int (lb y)) H
theorem MT(T:Txt K mg t):aF P w K mg base CX0 1 t.a_F t.d_F ["year"] Fb:=by
 refine T.F_F.F.ok EW (λvs H Q E h=>?_) (λcdv A outer s H vs Q E hr h=>?_)
 ·obtain⟨y,rfl,_⟩:=h;rfl
 ·obtain⟨y,rfl,k⟩:=h;refine⟨_,(kP (mx (i:=1) EW.nd rfl Wo (bY lg (pv 0) cG))
   (kz (kQ (bY cb (bY lg (bY oa (pv 1) cG) (bY oa (pv 1) cG)) (bY oa (pv 1) cG))))),?_⟩
  walk_at "c";exact k
def vM:Sp:=λvs H Q _=>∃(y:Int),vs=[.int y]/\Q (.int (br y)) H
theorem BB(T:Txt K mg t):aF P w K mg base CX0 2 t.a_G t.d_G ["year"] vM:=by
 have G_F:=@MT P w _ _ base _ T;refine T.F_G.F.ok Mr (λvs H Q E h=>?_) (λcdv A outer s H vs Q E hr h=>?_)
 ·obtain⟨y,rfl,_⟩:=h;rfl
 ·obtain⟨y,rfl,k⟩:=h;refine⟨_,(kz (kQ (bY lg (bY cb (bY qO cG (bY lg (pv 0) (km rfl T.c_FIRST_YEAR T.r_FIRST_YEAR))) (lN G_F (hr.mono tx) rfl T.F_F (aQ (pv 0) bJ))) (lN G_F (hr.mono tx) rfl T.F_F (aQ (km rfl T.c_FIRST_YEAR T.r_FIRST_YEAR) bJ))))),?_⟩;walk_at "c";simp only [Fb];walk_at "c";exact k
def Fc:Sp:=λvs H Q _=>∃(d:Int),vs=[.int d]/\Q (.int (qw d)) H
theorem MU(T:Txt K mg t):aF P w K mg base CX0 3 t.a_H t.d_H ["day"] Fc:=by
 have G_G:=@BB P w _ _ base _ T;refine T.F_H.F.ok EX (λvs H Q E h=>?_) (λcdv A outer s H vs Q E hr h=>?_)
 ·obtain⟨d,rfl,_⟩:=h;rfl
 ·obtain⟨d,rfl,k⟩:=h;refine⟨_,(kP (mx (i:=1) EX.nd rfl Wo (bY cb (km rfl T.c_FIRST_YEAR T.r_FIRST_YEAR) (bY oa (bY qO (pv 0) (km rfl T.c_ROUND_YEARS T.r_ROUND_YEARS)) (km rfl T.c_ROUND_DAYS T.r_ROUND_DAYS))))
   (kP (oY (p4 pd (lN G_G (hr.mono tx) rfl T.F_G (aQ (pv 1) bJ)) (pv 0) (av _)) (kz (kQ (bY lg (pv 1) cG))) oX)
   (kP (oY (p4 kn (lN G_G (hr.mono tx) rfl T.F_G (aQ (bY cb (pv 1) cG) bJ)) (pv 0) (av _)) (kz (kQ (bY cb (pv 1) cG))) oX)
   (kz (kQ (pv 1)))))),?_⟩
  walk_at "c";simp only [vM];walk_at "c";unfold qw at k;split
  ·rename_i h;rw [Wn h] at k;exact k
  ·rename_i h;rw [Wm h] at k;split
   ·rename_i h;rw [Wn h] at k;exact k
   ·rename_i h;rw [Wm h] at k;exact k
def MV:Sp:=λvs H Q _=>∃(d:Int),vs=[.int d]/\∀(p:Wu)(H':Hp)(y m n:Int),lH d y m n->aq H H'->H p=none->H' p=some (.tup [.int y,.int m,.int n])->Q (.ref p) H'
theorem MW(T:Txt K mg t):aF P w K mg base CX0 4 t.a_I t.d_I ["day"] MV:=by
 have G_H:=@MU P w _ _ base _ T;have G_G:=@BB P w _ _ base _ T;have G_E:=@BA P w _ _ base _ T;refine T.F_I.F.ok rJ (λvs H Q E h=>?_) (λcdv A outer s H vs Q E hr h=>?_)
 ·obtain⟨d,rfl,_⟩:=h;rfl
 ·obtain⟨d,rfl,k⟩:=h;refine⟨_,(kP (mx (i:=1) rJ.nd rfl Wo (lN G_H (hr.mono tx) rfl T.F_H (aQ (pv 0) bJ)))
   (kP (mx (i:=2) rJ.nd rfl Wo (bY lg (pv 0) (lN G_G (hr.mono tx) rfl T.F_G (aQ (pv 1) bJ))))
   (kP (mx (i:=3) rJ.nd rfl Wo cG)
   (kP (B3 RN (p4 Hm (pv 2) (lN G_E (hr.mono tx) rfl T.F_E (aQ (pv 1) (aQ (pv 3) bJ))) (av _)) (kP (mx (i:=2) rJ.nd rfl Wo (bY lg (pv 2) (lN G_E (hr.mono tx) rfl T.F_E (aQ (pv 1) (aQ (pv 3) bJ)))))
   (kz (mx (i:=3) rJ.nd rfl Wo (bY cb (pv 3) cG)))))
   (kz (kQ (uz (aQ (pv 1) (aQ (pv 3) (aQ (bY cb (pv 2) cG) bJ)))))))))),?_⟩
  walk_at "c";simp only [Fc];walk_at "c";simp only [vM];walk_at "c";have yo:=EA d;generalize qw d=y at*;refine⟨λm σ H'=>H'=H/\∃mo:Int,1<=mo/\mo<=12/\aL y mo<=d - br y/\m=(12 - mo).toNat/\σ=[some (.int d),some (.int y),some (.int (d - br y - aL y mo)),some (.int mo)],⟨11,rfl,1,tx,tx,?_,rfl,?_⟩,?_⟩
  ·rw [rB];omega
  ·rw [rB];simp
  ·rintro m σ H' ⟨rfl,mo,h1,h2,hb,rfl,rfl⟩;walk_at "c";simp only [E9];walk_at "c";refine⟨h1,h2,?_⟩;have ys:=vd y;have ba:=vg (y:=y) h1 h2;split
   ·rename_i hge;have lt12:mo < 12:=by
     by_cases z:mo < 12
     ·exact z
     ·have e:mo=12:=Ce
      subst e;have:=(tM y);have:=vf y;omega
    refine⟨_,λ_ _ h=>h,h1,h2,(12 - (mo+1)).toNat,Ce,rfl,mo+1,Ce,Ce,?_,rfl,?_⟩
    ·rw [lx h1];omega
    ·rw [lx h1,show d - br y - (aL y mo+bh y mo)=d - br y - aL y mo - bh y mo by omega]
   ·rename_i hlt;refine⟨by show 3<=WA;decide,λp hp=>?_⟩;refine k p _ y mo (d - br y - aL y mo+1) ⟨h1,h2,Ce,Ce,by unfold lU;omega⟩ (aq.new hp) hp bu
def MX:Sp:=λvs H Q _=>∃(y m n:Int),vs=[.int y,.int m,.int n]/\1<=m/\m<=12/\∀H',aq H H'->Q (.int (lU y m n)) H'
theorem MY(T:Txt K mg t):aF P w K mg base CX0 3 t.a_J t.d_J ["year","month","day"] MX:=by
 have G_G:=@BB P w _ _ base _ T;have G_E:=@BA P w _ _ base _ T;refine T.F_J.F.ok EY (λvs H Q E h=>?_) (λcdv A outer s H vs Q E hr h=>?_)
 ·obtain⟨y,m,n,rfl,_⟩:=h;rfl
 ·obtain⟨y,m,n,rfl,h1,h2,k⟩:=h;refine⟨_,(kP (mx (i:=3) EY.nd rfl Wo (aR (x5 rfl) rfl T.n_sum TN (aQ (qc rfl E7 (B8 rfl T.n_range (aQ cG (aQ (pv 1) bJ))) (λ_ _ _ _=>(bM (i:=0) E7.nd rfl Wo)) (λ_ _ _ _=>CI) (λ_ _ _ _=>(lN G_E (hr.mono tx) rfl T.F_E (aQ (pv 1) (aQ (pv 0) bJ))))) bJ)))
   (kz (kQ (bY lg (bY cb (bY cb (lN G_G (hr.mono tx) rfl T.F_G (aQ (pv 0) bJ)) (pv 3)) (pv 2)) cG)))),?_⟩
  walk_at "c";refine⟨Ce,Ce,?_⟩;refine II (λi=>.int (bh y (1+(i:Int)))) Ce (λi H' R hi s1 hR=>?_) (λD H' hD s1 e1=>?_)
  ·walk_at "c";exact⟨_,_,rfl,Ce,Ce,hR H' (aq.refl _)⟩
  ·refine⟨D,rfl,(Rx (m - 1).toNat).map λ(i:Nat)=>bh y (1+(i:Int)),bf.of (by rw [e1,Rb];rfl),?_⟩;simp only [vM];walk_at "c";exact k H' s1
def Fd:List Wr->(Wr->Prop)->Prop:=λds Q=>∃y m:Int,ds=[.int y,.int m]/\1<=m/\m<=12/\Q (.int (bh y m))
theorem MZ(T:Txt K mg t):aF P w K mg base CX0 2 t.a_E t.d_E ["year","month"] (bg K Fd):=
 (BA T).imp λvs H Q E uu53=>by
  obtain⟨O,ds,Qd,tr,hs,⟨y,m,e,h1,h2,q⟩,k⟩:=uu53;subst e;cases hs with
  | cons a r=>cases r with
   | cons b r=>cases r;cases a;cases b;exact⟨y,m,rfl,h1,h2,k _ _ H q (aq.refl _) (.int _)⟩
def Fe:List Wr->(Wr->Prop)->Prop:=λds Q=>∃d:Int,ds=[.int d]/\∀y m n,lH d y m n->Q (.tuple [.int y,.int m,.int n])
theorem M0(T:Txt K mg t):aF P w K mg base CX0 4 t.a_I t.d_I ["day"] (bg K Fe):=
 (MW T).imp λvs H Q E uu54=>by
  obtain⟨O,ds,Qd,tr,hs,⟨d,e,q⟩,k⟩:=uu54;subst e;cases hs with
  | cons a r=>cases r;cases a;exact⟨d,rfl,λp H' y m n D s1 hp e1=>k _ _ H' (q y m n D) s1 (.tup (.inl e1) (λz=>tr p z hp) (.cons (.int _) (.cons (.int _) (.cons (.int _) .nil))))⟩
def Ff:List Wr->(Wr->Prop)->Prop:=λds Q=>∃y m n:Int,ds=[.int y,.int m,.int n]/\1<=m/\m<=12/\Q (.int (lU y m n))
theorem M1(T:Txt K mg t):aF P w K mg base CX0 3 t.a_J t.d_J ["year","month","day"] (bg K Ff):=
 (MY T).imp λvs H Q E uu55=>by
  obtain⟨O,ds,Qd,tr,hs,⟨y,m,n,e,h1,h2,q⟩,k⟩:=uu55;subst e;cases hs with
  | cons a r=>cases r with
   | cons b r=>cases r with
    | cons c r=>cases r;cases a;cases b;cases c;exact⟨y,m,n,rfl,h1,h2,λH' s1=>k _ _ H' q s1 (.int _)⟩
end
theorem Fg:bO (az vy) ["text","length"] ["sign"] 1 [] ⟨Qf,[ (Pt ".0",Ym),(Pt "sign",Ym),(Pt "FIGURES",Qm)],false,false,[]⟩:= .of
section
variable {P:WH} {w:WJ} {K:Pq} {mg:Str->Option Ws} {base:WG} {t:k8}
theorem M3{y m:Int}{Q:Wr->Prop}:Fd [.int y,.int m] Q↔1<=m/\m<=12/\Q (.int (bh y m)):=⟨λuu56=>by obtain⟨_,_,e,h⟩:=uu56;cases e;exact h,λh=>⟨_,_,rfl,h⟩⟩
theorem M4{d:Int}{Q:Wr->Prop}:Fe [.int d] Q↔∀y m n,lH d y m n->Q (.tuple [.int y,.int m,.int n]):=⟨λuu57=>by obtain⟨_,e,h⟩:=uu57;cases e;exact h,λh=>⟨_,rfl,h⟩⟩
theorem M5{y m n:Int}{Q:Wr->Prop}:Ff [.int y,.int m,.int n] Q↔1<=m/\m<=12/\Q (.int (lU y m n)):=⟨λuu58=>by obtain⟨_,_,_,e,h⟩:=uu58;cases e;exact h,λh=>⟨_,_,_,rfl,h⟩⟩
def Fh:List Wr->(Wr->Prop)->Prop:=λds Q=>∃d,ds=[d]/\bB d=true/\Q (.bool (qY d))
theorem BC(T:Txt K mg t):aF P w K mg base CX0 1 t.a_B t.d_B ["thing"] (bg K Fh):=by
 refine T.F_B.F.okD Mm (λds Q h=>?_) (λ_ _ _ _ H O ds Q E hr h=>?_)
 ·obtain⟨d,rfl,_⟩:=h;rfl
 ·obtain⟨d,rfl,hd,q⟩:=h;refine⟨_,(ak (ax (kI (mJ (K':=K) (T:="int") rfl rfl T.n_isinstance lE (df (dv 0)) (lY (v:= .ty "int") rfl T.n_int ni rfl)) (lK (Ji (mJ (K':=K) (T:="bool") rfl rfl T.n_isinstance lE (df (dv 0)) (lY (v:= .ty "bool") rfl T.n_bool sS rfl))))))),?_⟩;walk_at "a";simp only [J1,Aj];walk_at "a";refine⟨qX hd,?_⟩;cases d <;> simp [DJ,tD,qY] at q⊢<;> exact q
theorem M6{i:Int}{Q:Wr->Prop}:Fh [.int i] Q↔Q (.bool true):=⟨λuu59=>by obtain⟨_,e,_,h⟩:=uu59;cases e;exact h,λh=>⟨_,rfl,rfl,h⟩⟩
def Fi:List Wr->(Wr->Prop)->Prop:=λds Q=>∃d,ds=[d]/\bB d=true/\Q (.bool (mU d))
theorem Fj(T:Txt K mg t):aF P w K mg base CX0 2 t.a_C t.d_C ["thing"] (bg K Fi):=by
 have G_B:=@BC P w _ _ base _ T;refine T.F_C.F.okD Mo (λds Q h=>?_) (λ_ _ _ _ H O ds Q E hr h=>?_)
 ·obtain⟨d,rfl,_⟩:=h;rfl
 ·obtain⟨d,rfl,hd,q⟩:=h;refine⟨_,(ak (ax (kI (ar G_B hr T.F_B (aa (dv 0) ah)) (lK (uJ kn kn bX bX (df ae) (df (dv 0)) (df (dc (km rfl T.c_LAST_WRITTEN T.r_LAST_WRITTEN) (λ_ _=>.int _)))))))),?_⟩;walk_at "a";refine⟨d,rfl,hd,?_⟩;cases d with
  | int i=>
   walk_at "a";simp only [qY,mU] at q⊢;by_cases h0:0<=i
   ·rw [Wn h0];simpa [h0] using q
   ·rw [Wm h0];simpa [h0] using q
  | _=>exact⟨_,rfl,by simpa [qY,mU] using q⟩
theorem M7{i:Int}{Q:Wr->Prop}:Fi [.int i] Q↔Q (.bool (mU (.int i))):=⟨λuu60=>by obtain⟨_,e,_,h⟩:=uu60;cases e;exact h,λh=>⟨_,rfl,rfl,h⟩⟩
def lO(y m n:Int):Prop:=2000<=y/\y<=9999/\1<=m/\m<=12/\1<=n/\n<=bh y m
instance {y m n:Int}:Decidable (lO y m n):=by unfold lO;infer_instance
def Fl:List Wr->(Wr->Prop)->Prop:=λds Q=>∃y m n:Int,ds=[.int y,.int m,.int n]/\Q (.bool (decide (lO y m n)))
theorem M8(T:Txt K mg t):aF P w K mg base CX0 3 t.a_K t.d_K ["year","month","day"] (bg K Fl):=by
 have G_B:=@BC P w _ _ base _ T;have G_E:=@MZ P w _ _ base _ T;refine T.F_K.F.okD Ms (λds Q h=>?_) (λ_ _ _ _ H O ds Q E hr h=>?_)
 ·obtain⟨y,m,n,rfl,_⟩:=h;rfl
 ·obtain⟨y,m,n,rfl,q⟩:=h;refine'⟨_,?A,?B⟩
  case A=>
   refine' ai ?C ?D
   case C=>
    refine' aH ?E ?F aG
    case E=>exact(ki (PW.pt (kG (bV (ar G_B hr T.F_B (aa (dv 0) ah))) (kG (bV (ar G_B hr T.F_B (aa (dv 1) ah))) (lF (bV (ar G_B hr T.F_B (aa (dv 2) ah))))))))
    case F=>refine' ak (ax k7)
   case' D=>refine' ai ?G ?H
   case G=>
    refine' aH ?I ?J aG
    case I=>exact(ki (PW.pt (kG (pw kn kn bX bX (df (dc (km rfl T.c_FIRST_YEAR T.r_FIRST_YEAR) (λ_ _=>.int _))) (df (dv 0)) (df (dc (km rfl T.c_LAST_YEAR T.r_LAST_YEAR) (λ_ _=>.int _)))) (lF (pw kn kn bX bX (df ae) (df (dv 1)) (df ae))))))
    case J=>refine' ak (ax k7)
   case' H=>refine' ak ?K
   case' K=>refine' ax ?L
   case L=>exact(uJ kn kn bX bX (df ae) (df (dv 2)) (df (ar G_E hr T.F_E (aa (dv 0) (aa (dv 1) ah)))))
  case B=>
  walk_at "a";simp only [M6,M3];walk_at "a";have no:¬lO y m n->Q (.bool false):=λz=>by rw [decide_eq_false z] at q;exact q
  split
  ·split
   ·split
    ·split
     ·exact no (by unfold lO;omega)
     ·split
      ·refine⟨Ce,Ce,?_⟩;rw [show decide (n<=bh y m)=decide (lO y m n) from decide_eq_decide.mpr (by unfold lO;omega)];exact q
      ·exact no (by unfold lO;omega)
    ·exact no (by unfold lO;omega)
   ·exact no (by unfold lO;omega)
  ·exact no (by unfold lO;omega)
theorem M9{y m n:Int}{Q:Wr->Prop}:Fl [.int y,.int m,.int n] Q↔Q (.bool (decide (lO y m n))):=⟨λuu61=>by obtain⟨_,_,_,e,h⟩:=uu61;cases e;exact h,λh=>⟨_,_,_,rfl,h⟩⟩
theorem nW{i:Int}(h0:0<=i)(h1:i < 10000):i.natAbs.log2 < 1920:=by
 by_cases z:i.natAbs=0
 ·rw [z];decide
 ·rw [Nat.log2_lt z];exact QX (show i.natAbs < 2 ^ 14 by omega) (Nat.pow_le_pow_right tx tx)
theorem Fm{m:Int}(h0:0<=m)(h1:m < 100):(Txt.zfill (Pp (toString m)) 2).length=2:=by
 obtain⟨m,rfl⟩:=Q0 h0;have e:=AE ⟨m,Ce⟩;simp only at e;rw [e];rfl
theorem Na{m:Int}(h0:1000<=m)(h1:m < 10000):(Pp (toString m)).length=4:=by
 obtain⟨m,rfl⟩:=Q0 (show 0<=m by omega);rw [vj Ce Ce];rfl
theorem Nb(a b:Str):(a++b).length=a.length+b.length:=by
 show(a.cps++b.cps).size=a.cps.size+b.cps.size;exact Uj
def Nc:List Wr->(Wr->Prop)->Prop:=λds Q=>∃d:Int,ds=[.int d]/\0<=d/\d < br 10000/\∀y m n,lH d y m n->Q (.str (lC y m n))
theorem Nd(T:Txt K mg t):aF P w K mg base CX0 5 t.a_L t.d_L ["day"] (bg K Nc):=by
 have G_I:=@M0 P w _ _ base _ T;refine T.F_L.F.okD tQ (λds Q h=>?_) (λ_ _ _ _ H O ds Q E hr h=>?_)
 ·obtain⟨d,rfl,_⟩:=h;rfl
 ·obtain⟨d,rfl,h0,h1,q⟩:=h;refine'⟨_,?A,?B⟩
  case A=>
   refine' ai ?C ?D
   case C=>exact(aW (i:=1) tQ.nd rfl Wo (ar G_I hr T.F_I (aa (dv 0) ah)))
   case' D=>refine' ai ?E ?F
   case E=>exact(aW (i:=2) tQ.nd rfl Wo (PE.imp (cf oj rfl T.n_str mP (aA (aj aI aK (dv 1) ae) aB)) (aE oN)))
   case' F=>refine' ai ?G ?H
   case G=>
    refine' aW (i:=3) tQ.nd rfl Wo ?I (hs:=oM)
    case I=>exact(D3 (PE.imp (cf oj rfl T.n_str mP (aA (aj aI aK (dv 1) ae) aB)) (aE oN)) ae)
   case' H=>refine' ai ?J ?K
   case J=>
    refine' aW (i:=4) tQ.nd rfl Wo ?L (hs:=oM)
    case L=>exact(D3 (PE.imp (cf oj rfl T.n_str mP (aA (aj aI aK (dv 1) ae) aB)) (aE oN)) ae)
   case' K=>refine' ak ?M
   case' M=>refine' ax ?N
   case N=>exact(Kn (.cons (Ao (dv 2)) (.cons D5 (.cons (Ao (dv 3)) (.cons D5 (.cons (Ao (dv 4)) .nil))))))
  case B=>
  walk_at "a";simp only [M4];walk_at "a";intro y m n D;have hy:=vh D h0 h1;have hb:=rA (y:=y) D.m1 D.m12;have:=D.m1;have:=D.m12;have:=D.n1;have:=D.nl;have ly:=Na (m:=y) Ce Ce;have lm:=Fm (m:=m) Ce Ce;have ln:=Fm (m:=n) Ce Ce;have le:TM.length=0:=rfl;have ld:(Pp "-").length=1:=td
  refine⟨nW Ce Ce,nW Ce Ce,tx,nW Ce Ce,tx,?_⟩;rw [Ld Ce Ce Ce];simp only [Nb,ly,lm,ln,le,ld,EB];exact⟨tx,tx,tx,tx,tx,tx,tx,tx,tx,tx,tx,q y m n D⟩
def pK:Str:="0123456789"
def bK(z:Str)(k:Int):Bool:=decide ((z.length:Int)=k) && z.cps.toList.all λc=>decide (c∈pK.cps.toList)
def Fo:List Wr->(Wr->Prop)->Prop:=λds Q=>∃(z:Str)(k:Int),ds=[.str z,.int k]/\z.length<=16777216/\Q (.bool (bK z k))
theorem Fp(T:Txt K mg t):aF P w K mg base CX0 1 t.a_M t.d_M ["text","length"] (bg K Fo):=by
 refine T.F_M.F.okD Mt (λds Q h=>?_) (λ_ _ _ _ H O ds Q E hr h=>?_)
 ·obtain⟨z,k,rfl,_⟩:=h;rfl
 ·obtain⟨z,k,rfl,hz,q⟩:=h;refine'⟨_,?A,?B⟩
  case A=>
   refine' ak ?C
   case' C=>refine' ax ?D
   case D=>exact(kI (fS (ck hr.units) cn (df (PE.imp (aR oq rfl T.n_len Qj (aA (dv 0) aB)) (aE oH))) (df (dv 1)) (av _)) (lK (PE.imp (aR (pk rfl) rfl T.n_all pq (aA (fe (uQ rfl Fg (df (dv 0)) bW kU tx (λ_ _ _ _=>(bM (i:=0) Fg.nd rfl Wo)) (λ_ _ _ _=>kW) (λ_ _ _ _=>(fS ur uS (df (dv 0)) (df (dc (km rfl T.c_FIGURES T.r_FIGURES) (λ_ _=>.str _))) rfl)))) aB)) (aE nu))))
  case B=>
  walk_at "a";refine⟨hz,?_⟩;unfold bK at q;split
  ·rename_i h1;rw [decide_eq_true (p:=(z.length:Int)=k) (by simpa using h1)] at q;refine⟨Ce,qt (p:=λb=>Q (.bool b)) (λx=>match x with | .str y=>decide (y.cps.toList.headD 0∈pK.cps.toList) | _=>false) (λx hx R hR=>?_) ?_⟩
   ·obtain⟨c,_,rfl⟩:=QG.mp hx;walk_at "a";rw [Tx];exact hR
   ·unfold qW;rw [Rb,SI];exact q
  ·rename_i h1;rw [decide_eq_false (p:=(z.length:Int)=k) (by simpa using h1)] at q;exact q
theorem Fq{z:Str}{k:Int}{Q:Wr->Prop}:Fo [.str z,.int k] Q↔z.length<=16777216/\Q (.bool (bK z k)):=⟨λuu62=>by obtain⟨_,_,e,h⟩:=uu62;cases e;exact h,λh=>⟨_,_,rfl,h⟩⟩
theorem Fs{m:Nat}(h:m < 100):bK ⟨(d2 m).toArray⟩ 2=true:=by
 have:∀m:Fin 100,bK ⟨(d2 m.val).toArray⟩ 2=true:=td
 exact this ⟨m,h⟩
theorem Nf:∀c:Fin 10,48+c.val∈pK.cps.toList:=td
theorem Ng{y:Nat}(h:y < 10000):bK ⟨(d4 y).toArray⟩ 4=true:=by
 have f:∀{c:Nat},c < 10->48+c∈pK.cps.toList:=λ{c} hc=>Nf ⟨c,hc⟩;unfold bK;rw [decide_eq_true (by rfl)];simp only [d4,Qg,QH,QU,P4,P6,decide_eq_true_eq];exact⟨f Ce,f Ce,f Ce,f Ce⟩
theorem tV{c:Nat}(h:c∈pK.cps.toList):48<=c/\c < 58:=by
 have e:pK.cps.toList=[48,49,50,51,52,53,54,55,56,57]:=td
 rw [e] at h;simp only [Pz,PV,or_false] at h;omega
theorem pL{z:Str}{l:List Nat}(h:z.cps.toList=l):z=⟨l.toArray⟩:=by
 obtain⟨⟨a⟩⟩:=z;exact congrArg (λl:List Nat=>(⟨l.toArray⟩:Str)) h
theorem Ft:∀y:Fin 1000,intText? ⟨(d4 y.val).toArray⟩=some (y.val:Int):=td
theorem tW{z:Str}(h:bK z 4=true):∃y:Nat,y < 10000/\z.length=4/\intText? z=some (y:Int)/\(atI z.cps.toList 0=some 48->y < 1000):=by
 unfold bK at h;rw [P6,decide_eq_true_eq,Rh] at h;obtain⟨hl,hm⟩:=h;have hz:z.cps.toList.length=4:=by rw [show z.cps.toList.length=z.length from PY];omega
 match e:z.cps.toList,hz with
 | [a,b,c,d],_=>
  rw [e] at hm;have f:∀x∈[a,b,c,d],48<=x/\x < 58:=λx hx=>tV (by simpa using hm x hx);have ha:=f a Wq;have hb:=f b Wq;have hc:=f c Wq;have hd:=f d Wq;have ez:=pL e;have e4:[a,b,c,d]=d4 ((a - 48)*1000+(b - 48)*100+(c - 48)*10+(d - 48)):=by
   unfold d4;rw [PK,PK,PK,PK];exact⟨Ce,Ce,Ce,Ce,rfl⟩
  refine⟨(a - 48)*1000+(b - 48)*100+(c - 48)*10+(d - 48),Ce,Ce,?_,λh0=>?_⟩
  ·rw [ez,e4];generalize hy:(a - 48)*1000+(b - 48)*100+(c - 48)*10+(d - 48)=y;by_cases h:y < 1000
   ·exact Ft ⟨y,h⟩
   ·exact AF Ce Ce
  ·rw [aX,P0] at h0;omega
theorem rP{z:Str}(h:bK z 2=true):∃y:Nat,y < 100/\z.length=2/\intText? z=some (y:Int):=by
 unfold bK at h;rw [P6,decide_eq_true_eq,Rh] at h;obtain⟨hl,hm⟩:=h;have hz:z.cps.toList.length=2:=by rw [show z.cps.toList.length=z.length from PY];omega
 match e:z.cps.toList,hz with
 | [a,b],_=>
  rw [e] at hm;have f:∀x∈[a,b],48<=x/\x < 58:=λx hx=>tV (by simpa using hm x hx);have ha:=f a Wq;have hb:=f b Wq;have ez:=pL e;have e2:[a,b]=d2 ((a - 48)*10+(b - 48)):=by
   unfold d2;rw [PK,PK];exact⟨Ce,Ce,rfl⟩
  refine⟨(a - 48)*10+(b - 48),Ce,Ce,?_⟩;rw [ez,e2];exact rC ⟨_,Ce⟩
theorem tX{c:Nat}:∀{l:List Nat},∀p∈kD c l,p.length<=l.length
 | [],p,h=>by simp [kD] at h;rw [h];exact PL _
 | x::xs,p,h=>by
  unfold kD at h;split at h
  ·rcases Pz.mp h with e | h
   ·rw [e];exact Rt _
   ·exact Vw (tX p h)
  ·split at h
   ·rename_i e;exact absurd e (AH c xs)
   ·rename_i q qs e;rcases Pz.mp h with e2 | h
    ·rw [e2];have:=tX q (by rw [e];simp);simp only [Pu];omega
    ·exact Vw (tX p (by rw [e];simp [h]))
theorem Fv{z p:Str}(h:p∈Txt.split z (Pp "-")):p.length<=z.length:=by
 rw [show Pp "-"=⟨#[45]⟩ by decide+kernel] at h;have h2:p.cps.toList∈kD 45 z.cps.toList:=by
  rw [<-rE];exact QG.mpr ⟨p,h,rfl⟩
 have:=tX _ h2;have e1:p.cps.toList.length=p.length:=PY;have e2:z.cps.toList.length=z.length:=PY;omega
def nv(z:Str):Int:=(intText? z).getD 0
def mf(z:Str):Option Int:=match Txt.split z (Pp "-") with
 | [a,b,c]=>if bK a 4=true/\bK b 2=true/\bK c 2=true/\lO (nv a) (nv b) (nv c)/\lU (nv a) (nv b) (nv c)<=99999 then some (lU (nv a) (nv b) (nv c)) else none
 | _=>none
def Fw:Wr->Option Int
 | .str z=>mf z
 | _=>none
def Fx(d:Wr):Prop:=(∀x,d≠ .dict [(.none,x)])/\∀z,d= .str z->z.length<=1000
def Nh:vv:=λds Q R=>∃d,ds=[d]/\Fx d/\(∀k,Fw d=some k->Q (.int k))/\(Fw d=none->R 0)
theorem Fy{y m n:Int}(h:lO y m n):0<=lU y m n:=by
 obtain⟨y1,y2,m1,m2,n1,n2⟩:=h;have:365*(y - 2000)<=br y:=by unfold br lb;omega
 have hb:=vg (y:=y) m1 m2;unfold lU;omega
theorem Ni(T:Txt K mg t):aF P w K mg base (kq P w) 4 t.a_N t.d_N ["text"] (vw K t.u_NoText "row" Nh):=by
 have G_M:=@Fp P w _ _ base _ T;have G_K:=@M8 P w _ _ base _ T;have G_C:=@Fj P w _ _ base _ T;have G_J:=@M1 P w _ _ base _ T;have G_A:=@E6 P w _ _ base _ T;refine T.F_N.F.okDXn tR (λds Q R h=>?_) (λcdv A outer s H O ds Q R E hr h hx=>?_)
 ·obtain⟨d,rfl,_⟩:=h;rfl
 ·obtain⟨d,rfl,hd,q1,q2⟩:=h;refine'⟨_,?A,?B⟩
  case A=>
   refine' ai ?C ?D
   case C=>
    refine' aH ?E ?F aG
    case E=>exact(ki (bV (mJ (K':=K) (T:="str") rfl rfl T.n_isinstance lE (df (dv 0)) (lY (v:= .ty "str") rfl T.n_str mP rfl))))
    case' F=>refine' ak ?G
    case G=>exact(rH hx RB T.xm_NoText G_A hr T.c_NoText T.F_A.b (aa ae ah))
   case' D=>refine' ai ?H ?I
   case H=>exact(aW (i:=1) tR.nd rfl Wo (fe (oO (dv 0) aw)))
   case' I=>refine' ai ?J ?K
   case J=>
    refine' aH ?L ?M aG
    case L=>exact(PW.pt (kc (aD (mE hr.units) mF (PE.imp (aR ke rfl T.n_len Qj (aA (dv 1) aB)) (aE ko)) ae (av _)) (kF (ki (bV (ar G_M hr T.F_M (aa (aj aO aP (dv 1) ae) (aa ae ah))))))))
    case' M=>refine' ak ?N
    case N=>exact(rH hx RB T.xm_NoText G_A hr T.c_NoText T.F_A.b (aa ae ah))
   case' K=>refine' ai ?O ?P
   case O=>
    refine' aH ?Q ?R aG
    case Q=>exact(ki (PW.pt (kG (bV (ar G_M hr T.F_M (aa (aj aO aP (dv 1) ae) (aa ae ah)))) (lF (bV (ar G_M hr T.F_M (aa (aj aO aP (dv 1) ae) (aa ae ah))))))))
    case' R=>refine' ak ?S
    case S=>exact(rH hx RB T.xm_NoText G_A hr T.c_NoText T.F_A.b (aa ae ah))
   case' P=>refine' ai ?T ?U
   case T=>exact(aW (i:=2) tR.nd rfl Wo (PE.imp (cf rk rfl T.n_int ni (aA (aj aO aP (dv 1) ae) aB)) (aE rz)))
   case' U=>refine' ai ?V ?W
   case V=>exact(aW (i:=3) tR.nd rfl Wo (PE.imp (cf rk rfl T.n_int ni (aA (aj aO aP (dv 1) ae) aB)) (aE rz)))
   case' W=>refine' ai ?X ?Y
   case X=>exact(aW (i:=4) tR.nd rfl Wo (PE.imp (cf rk rfl T.n_int ni (aA (aj aO aP (dv 1) ae) aB)) (aE rz)))
   case' Y=>refine' ai ?Z ?a
   case Z=>
    refine' aH ?b ?c aG
    case b=>exact(PW.pt (kc (ki (bV (ar G_K hr T.F_K (aa (dv 2) (aa (dv 3) (aa (dv 4) ah)))))) (kF (ki (bV (ar G_C hr T.F_C (aa (ar G_J hr T.F_J (aa (dv 2) (aa (dv 3) (aa (dv 4) ah)))) ah)))))))
    case' c=>refine' ak ?d
    case d=>exact(rH hx RB T.xm_NoText G_A hr T.c_NoText T.F_A.b (aa ae ah))
   case' a=>refine' ak ?e
   case e=>exact(ax (ar G_J hr T.F_J (aa (dv 2) (aa (dv 3) (aa (dv 4) ah)))))
  case B=>
  clear hr T hx G_M G_K G_C G_J G_A;walk_at "a";simp only [Ai];refine⟨_,rfl,hd.1,?_⟩;cases d with
  | str z=>
   have hz:=hd.2 z rfl;simp only [tu];walk_at "a";refine⟨td,Ce,?_⟩;have nf:mf z=none->(Int.natAbs 0).log2 < 1920/\(Pp (toString (0:Int))).length<=1000/\R 0:=λe=>⟨tx,td,q2 e⟩;have wl:=λp=>Fv (z:=z) (p:=p);have q1:∀k,mf z=some k->Q (.int k):=q1;clear q2 hd;unfold mf at nf q1;generalize Txt.split z (Pp "-")=ws at*
   match ws with
   | [a,b,c]=>
    have la:=wl a Wq;have lb:=wl b Wq;have lc:=wl c Wq;rw [Wm Wq];simp only [] at nf q1;simp only [Fq,M9,M7,M5,↓jg,↓jq,↓jr,↓jt,↓ju,↓jv,↓jw,↓jh,↓fE,↓iN,↓jW,↓jX,↓jY,↓jZ,↓j3,↓j5,↓iO,↓iP,↓iQ,↓iR,↓iS,↓iT,↓iU,↓iV,↓iW,↓iX,↓iY,↓iZ,↓i3,↓i4,↓i5,↓i6,↓i7,↓i8,↓i9,↓ja,↓jb,↓jd,↓je,↓jf,dE,dF,dH,dG,fV,fW,cT,dJ,dM,dR,dS,gc,di,dC,bE,dI,d3,d6,d7,gk,d8,cy,eQ,eO,eg,d9,dL,cU,dj,fR,cR,cL,bS,dm,dn,dz,dA,fT,dB,dD,cM,cN,fU,gO,gQ,gR,gS,gT,gU,gW,gX,gY,gZ,g6,g9,hG,hJ,hV,hW,hX,hZ,h7,ic,ie,ig,ij,ik,il,ip,iq,iu,iw,ix,iy,iz,iA,iB,iC,iD,iE,iF,iG,iH,iI,iJ,iK,gP,eF,gj,eR,cY,gp,gm,ei,eD,eG,eJ,eL,eM,eN,cW,eT,eV,eX,cj,gf,gh,gi,dU,dW,fX,fY,dX,fZ,dY,gb,fv,fy,fz,gL,gM,gK,gN,fk,fq,ft,fu,cz,fx,fw,fh,fj,fA,fB,fC,fD,cE,iL,iM,jj,ji,jk,jl,jm,jn,jo,fF,fG,jA,jy,jz,jx,jF,jB,jC,jD,jE,cZ,fH,jJ,jK,jG,jH,jI,jL,jM,jN,fJ,jO,jP,fK,jR,fL,jS,jT,jU,jQ,jV,fM,fN,fO,fP,j6,j7,j8,fQ,cq,gB,gC,gD,gE,gF,gG,gH,gI,gJ,ne_eq,bU,gx,gy,gz,gA,gr,gs,gu,cO,cV,dZ,dN,dQ,dP,dO,bT,bZ,bx,cu,cK,cw,Pw,Qc,Pu,P1,PH,P7,P2,PX,QD,QE,QO,QK,QP,PR,PM,Qh,P8,P9,P0,exists_eq_left',exists_eq_left,exists_and_left,exists_and_right,Qn,Qo,Sl.v.injEq,Sl.o.injEq,Sl.k.injEq,Qs,Qp,Qu,Qi,Qq,PK,and_true,true_and,QQ,Qv,exists_const,decide_eq_true_eq,QR,QS,QI,QJ,P5,decide_eq_false_iff_not,and_assoc,or_true,true_or,↓reduceIte,if_true,if_false,PZ,Qb,not_true_eq_false,not_false_eq_true,QL,QA,ite_true,ite_false,eq_self,exists_eq,reduceCtorEq,false_and,and_false,or_false,false_or,exists_false,Qw,Qz,cH,QH,QU,QC,QV,P4,QB,Qg,QN,aX,bA,b0,cX,eY,bj,cP,fg,beq_self_eq_true,eZ,ff,gn,aV,WI]
    refine⟨Ce,?_⟩;by_cases fa:bK a 4=true
    ·rw [Wm (by rw [fa];decide)];refine⟨Ce,?_⟩;by_cases fb:bK b 2=true
     ·rw [Wn fb];refine⟨Ce,?_⟩;by_cases fc:bK c 2=true
      ·rw [Wm (by rw [fc];decide)];obtain⟨y,y1,y2,y3,_⟩:=tW fa;obtain⟨m,m1,m2,m3⟩:=rP fb;obtain⟨n,n1,n2,n3⟩:=rP fc;refine⟨y,y3,Ce,m,m3,Ce,n,n3,Ce,?_⟩;have ea:nv a=y:=by unfold nv;rw [y3];rfl
       have eb:nv b=m:=by unfold nv;rw [m3];rfl
       have ec:nv c=n:=by unfold nv;rw [n3];rfl
       rw [ea,eb,ec] at nf q1;by_cases hd:lO y m n
       ·rw [Wm (λz=>z hd)];refine⟨hd.2.2.1,hd.2.2.2.1,?_⟩;have nn:=Fy hd;by_cases hy:lU y m n<=99999
        ·rw [Wm (by simp [mU,nn,hy])];exact⟨hd.2.2.1,hd.2.2.2.1,q1 _ (Wn ⟨fa,fb,fc,hd,hy⟩)⟩
        ·rw [Wn (by simp [mU,hy])];exact nf (Wm λz=>hy z.2.2.2.2)
       ·rw [Wn hd];exact nf (Wm λz=>hd z.2.2.2.1)
      ·rw [Wn (by simpa using fc)];exact nf (Wm λz=>fc z.2.2.1)
     ·rw [Wm fb];exact nf (Wm λz=>fb z.2.1)
    ·rw [Wn (by simpa using fa)];exact nf (Wm λz=>fa z.1)
   | []=>rw [Wn Wq];exact nf rfl
   | [a]=>rw [Wn Wq];exact nf rfl
   | [a,b]=>rw [Wn Wq];exact nf rfl
   | a::b::c::d::r=>rw [Wn (by simp;omega)];exact nf rfl
  | _=>exact⟨tx,td,q2 rfl⟩
end
theorem Fz:bO (az vz) ["thing"] ["sign"] 1 [] ⟨Qf,[ (Pt ".0",Ym),(Pt "sign",Ym),(Pt "LETTERS",Qm)],false,false,[]⟩:= .of
theorem FA:bO (az tN) ["thing"] ["name"] 1 [] ⟨Qf,[ (Pt ".0",Ym),(Pt "name",Ym),(Pt "is_name",Qm)],false,false,[]⟩:= .of
theorem FC:bO (az tN) ["thing"] ["place","thing"] 1 [0] ⟨Qf,[ (Pt ".0",Ym),(Pt "place",Ym),(Pt "thing",Rf)],false,false,[]⟩:= .of
section
variable {P:WH} {w:WJ} {K:Pq} {mg:Str->Option Ws} {base:WG} {t:k8}
def vN:List Wr->(Wr->Prop)->Prop:=λds Q=>∃d,∃n:Int,ds=[d,.int n]/\bB d=true/\Q (.bool (lG d n))
theorem BD(T:Txt K mg t):aF P w K mg base CX0 1 t.a_O t.d_O ["thing","length"] (bg K vN):=by
 refine T.F_O.F.okD Mu (λds Q h=>?_) (λ_ _ _ _ H O ds Q E hr h=>?_)
 ·obtain⟨d,n,rfl,_⟩:=h;rfl
 ·obtain⟨d,n,rfl,hd,q⟩:=h;refine⟨_,(ak (ax (kI (mJ (K':=K) (T:="tuple") rfl rfl T.n_isinstance lE (df (dv 0)) (lY (v:= .ty "tuple") rfl T.n_tuple k6 rfl)) (lK (fS (ck hr.units) cn (df (PE.imp (aR ke rfl T.n_len Qj (aA (dv 0) aB)) (aE ko))) (df (dv 1)) (av _)))))),?_⟩;walk_at "a";simp only [uU];walk_at "a";refine⟨qX hd,?_⟩;cases d with
  | tuple l=>simp only [pE];walk_at "a";exact q
  | _=>simpa [pE,lG] using q
def qA:List Wr->(Wr->Prop)->Prop:=λds Q=>∃d,ds=[d]/\bB d=true/\Q (.bool (cC d))
theorem rQ(T:Txt K mg t):aF P w K mg base CX0 1 t.a_P t.d_P ["thing"] (bg K qA):=by
 refine T.F_P.F.okD Mv (λds Q h=>?_) (λ_ _ _ _ H O ds Q E hr h=>?_)
 ·obtain⟨d,rfl,_⟩:=h;rfl
 ·obtain⟨d,rfl,hd,q⟩:=h;refine⟨_,(ai (aH (PW.pt (kc (ki (bV (mJ (K':=K) (T:="str") rfl rfl T.n_isinstance lE (df (dv 0)) (lY (v:= .ty "str") rfl T.n_str mP rfl)))) (kF (ki (pw kn kn bX bX (df ae) (df (PE.imp (aR oq rfl T.n_len Qj (aA (dv 0) aB)) (aE oH))) (df (dc (km rfl T.c_LONGEST_NAME T.r_LONGEST_NAME) (λ_ _=>.int _)))))))) (ak (ax k7)) aG)
   (ak (ax (PE.imp (aR (pk rfl) rfl T.n_all pq (aA (fe (uQ rfl Fz (df (dv 0)) bW kU tx (λ_ _ _ _=>(bM (i:=0) Fz.nd rfl Wo)) (λ_ _ _ _=>kW) (λ_ _ _ _=>(fS ur uS (df (dv 0)) (df (dc (km rfl T.c_LETTERS T.r_LETTERS) (λ_ _=>.str _))) rfl)))) aB)) (aE nu))))),?_⟩
  walk_at "a";simp only [Ai];walk_at "a";refine⟨qX hd,?_⟩;cases d with
  | str z=>
   have hz:=J3 hd;simp only [tu];walk_at "a";refine⟨Ce,?_⟩;simp only [cC] at q;split
   ·rename_i h1;split
    ·rename_i h2;rw [decide_eq_false (p:=z.length<=8) Ce] at q;simpa using q
    ·rename_i h2;rw [decide_eq_true (p:=1<=z.length) Ce,decide_eq_true (p:=z.length<=8) Ce] at q;refine⟨Ce,qt (p:=λb=>Q (.bool b)) (λx=>match x with | .str y=>decide (y.cps.toList.headD 0∈lr.cps.toList) | _=>false) (λx hx R hR=>?_) ?_⟩
     ·obtain⟨c,_,rfl⟩:=QG.mp hx;walk_at "a";rw [Tx];exact hR
     ·unfold qW;rw [Rb,SI];exact q
   ·rename_i h1;rw [decide_eq_false (p:=1<=z.length) Ce] at q;simpa using q
  | _=>simpa [tu,cC] using q
def FD:List Wr->(Wr->Prop)->Prop:=λds Q=>∃d,ds=[d]/\bB d=true/\Q (.bool (mj d))
theorem Nj(T:Txt K mg t):aF P w K mg base CX0 2 t.a_Q t.d_Q ["thing"] (bg K FD):=by
 have G_O:=@BD P w _ _ base _ T;have G_P:=@rQ P w _ _ base _ T;refine T.F_Q.F.okD Mw (λds Q h=>?_) (λ_ _ _ _ H O ds Q E hr h=>?_)
 ·obtain⟨d,rfl,_⟩:=h;rfl
 ·obtain⟨d,rfl,hd,q⟩:=h;refine⟨_,(ai (aH (bV (ar G_O hr T.F_O (aa (dv 0) (aa ae ah)))) (ak (ax (fS (cI hr) cJ (df (aj aI aK (dv 0) ae)) (df aw) (av _)))) aG)
   (ai (aH (bV (ar G_O hr T.F_O (aa (dv 0) (aa ae ah)))) (ak (ax (kI (fS (oI hr) oJ (df (aj aI aK (dv 0) ae)) (df (bD (aa aw (aa aw ah)))) rfl) (lK (ar G_P hr T.F_P (aa (aj aI aK (dv 0) ae) ah)))))) aG)
   (ak (ax k7)))),?_⟩
  walk_at "a";simp only [vN];walk_at "a";refine⟨hd,?_⟩;rcases tG d with⟨l,rfl⟩ | hn
  ·have hl:=tE hd
   match l,hl with
   | [],_=>simpa [mj,lG,hd] using q
   | [a],hl=>
    have ha:=hl a Wq;simp [mj,lG,qr ha,aX] at q⊢;exact q
   | [a,b],hl=>
    have ha:=hl a Wq;have hb:=hl b Wq;simp [mj,lL,lG,qr ha,hd,qA,hb,aX,bA] at q⊢;generalize ((Pr (Pp "first")).eqv a)=A at*;generalize ((Pr (Pp "last")).eqv a)=B at*;cases A <;> cases B <;> simp at q⊢<;> exact q
   | _::_::_::r,_=>
    have h1:¬((r.length:Int)+1+1+1=1):=Ce
    have h2:¬((r.length:Int)+1+1+1=2):=Ce
    simpa [mj,lG,hd,h1,h2] using q
  ·have e:mj d=false:=by
    unfold mj;split
    ·exact absurd rfl (hn _)
    ·exact absurd rfl (hn _)
    ·rfl
   rw [e] at q;simpa [Ak hn,hd] using q
theorem Nk{a:Wu}(h:∀H,aY K H a [V.str "days",V.str "months",V.str "years"]):∀H O,Dt K H O (.ref a) (.tuple [.str "days",.str "months",.str "years"]):=λH O=>
 .tupK (h sT) (.cons (.str _) (.cons (.str _) (.cons (.str _) .nil)))
def FF:List Wr->(Wr->Prop)->Prop:=λds Q=>∃m u,ds=[m,u]/\bB m=true/\bB u=true/\Q (.bool (qZ m u))
theorem Nl(T:Txt K mg t):aF P w K mg base CX0 2 t.a_R t.d_R ["many","unit"] (bg K FF):=by
 have G_B:=@BC P w _ _ base _ T;obtain⟨aU,eU,hU⟩:=T.e_UNITS;have Tr_UNITS:aJ (.ref aU) t.u_UNITS:=eU;have Td_UNITS:=Nk hU;refine T.F_R.F.okD Mx (λds Q h=>?_) (λ_ _ _ _ H O ds Q E hr h=>?_)
 ·obtain⟨d,u,rfl,_⟩:=h;rfl
 ·obtain⟨m,u,rfl,hm,hu,q⟩:=h;refine⟨_,(ak (ax (kI (ar G_B hr T.F_B (aa (dv 0) ah)) (kI (uJ kn kn bX bX (df ae) (df (dv 0)) (df (dc (km rfl T.c_MOST_MANY T.r_MOST_MANY) (λ_ _=>.int _)))) (lK (fS (oI hr) oJ (df (dv 1)) (df (dc (km rfl T.c_UNITS Tr_UNITS) Td_UNITS)) rfl)))))),?_⟩;walk_at "a";refine⟨m,rfl,hm,?_⟩;cases m with
  | int i=>
   walk_at "a";simp only [qY,qZ,tF,lL] at q⊢;simp only [if_true];by_cases h0:0<=i
   ·rw [Wn h0];by_cases h1:i<=999
    ·simp [h0,h1,qr hu] at q⊢;exact q
    ·simp [h0,h1] at q⊢;exact q
   ·simp [h0] at q⊢;exact q
  | _=>exact⟨_,rfl,by simpa [qY,qZ,tF] using q⟩
def FG:List Wr->(Wr->Prop)->Prop:=λds Q=>∃d,ds=[d]/\bB d=true/\Q (.bool (md d))
theorem Nn(T:Txt K mg t):aF P w K mg base CX0 3 t.a_S t.d_S ["thing"] (bg K FG):=by
 have G_O:=@BD P w _ _ base _ T;have G_P:=@rQ P w _ _ base _ T;have G_Q:=@Nj P w _ _ base _ T;have G_R:=@Nl P w _ _ base _ T;refine T.F_S.F.okD EZ (λds Q h=>?_) (λ_ _ _ _ H O ds Q E hr h=>?_)
 ·obtain⟨d,rfl,_⟩:=h;rfl
 ·obtain⟨d,rfl,hd,q⟩:=h;refine⟨_,(ai (aH (bV (ar G_O hr T.F_O (aa (dv 0) (aa ae ah)))) (ak (ax (kI (fS (oI hr) oJ (df (aj aI aK (dv 0) ae)) (df (bD (ny (ds:=[.str "while",.str "follow",.str "leave"]) (by rfl)))) rfl) (lK (ar G_P hr T.F_P (aa (aj aI aK (dv 0) ae) ah)))))) aG)
   (ai (aH (bV (ar G_O hr T.F_O (aa (dv 0) (aa ae ah)))) (ai (aW (i:=1) EZ.nd rfl Wo (kI (fS (oI hr) oJ (df (aj aI aK (dv 0) ae)) (df (bD (aa aw (aa aw ah)))) rfl) (lK (ar G_P hr T.F_P (aa (aj aI aK (dv 0) ae) ah)))))
   (ak (ax (kI (dv 1) (kI (ar G_Q hr T.F_Q (aa (aj aI aK (dv 0) ae) ah)) (lK (ar G_R hr T.F_R (aa (aj aI aK (dv 0) ae) (aa (aj aI aK (dv 0) ae) ah))))))))) aG)
   (ak (ax k7)))),?_⟩
  walk_at "a";simp only [vN];walk_at "a";refine⟨hd,?_⟩;rcases tG d with⟨l,rfl⟩ | hn
  ·have hl:=tE hd
   match l,hl with
   | [],_=>simpa [md,lG,hd] using q
   | [a],_=>simpa [md,lG,hd] using q
   | [_,_,_],_=>simpa [md,lG,hd] using q
   | [_,_,_,_],_=>simpa [md,lG,hd] using q
   | [a,b],hl=>
    have ha:=hl a Wq;have hb:=hl b Wq;simp [md,lL,lG,qr ha,hd,qA,hb,aX,bA] at q⊢;generalize ((Pr (Pp "while")).eqv a)=A at*;generalize ((Pr (Pp "follow")).eqv a)=B at*;generalize ((Pr (Pp "leave")).eqv a)=C at*;cases A <;> cases B <;> cases C <;> simp at q⊢<;> exact q
   | [a,b,c,d,e],hl=>
    have ha:=hl a Wq;have hb:=hl b Wq;have hc:=hl c Wq;have hd':=hl d Wq;have he:=hl e Wq;simp [md,lL,lG,qr ha,hd,qA,FD,FF,hb,hc,hd',he,aX,bA,b0,cX,eY] at q⊢;generalize ((Pr (Pp "keep")).eqv a)=A at*;generalize ((Pr (Pp "gone")).eqv a)=B at*;generalize cC b=C at*;generalize mj c=D at*;cases A <;> cases B <;> cases C <;> cases D <;> simp at q⊢<;> first | exact q | exact⟨_,_,⟨rfl,rfl⟩,hd',he,q⟩
   | _::_::_::_::_::_::r,_=>
    have h1:¬((r.length:Int)+1+1+1+1+1+1=2):=Ce
    have h2:¬((r.length:Int)+1+1+1+1+1+1=5):=Ce
    simpa [md,lG,hd,h1,h2] using q
  ·have e:md d=false:=by
    unfold md;split
    ·exact absurd rfl (hn _)
    ·exact absurd rfl (hn _)
    ·rfl
   rw [e] at q;simpa [Ak hn,hd] using q
def FH:List Wr->(Wr->Prop)->Prop:=λds Q=>∃d,ds=[d]/\bB d=true/\Q (.bool (pF d))
theorem Np(T:Txt K mg t):aF P w K mg base CX0 2 t.a_T t.d_T ["thing"] (bg K FH):=by
 have G_P:=@rQ P w _ _ base _ T;refine T.F_T.F.okD My (λds Q h=>?_) (λ_ _ _ _ H O ds Q E hr h=>?_)
 ·obtain⟨d,rfl,_⟩:=h;rfl
 ·obtain⟨d,rfl,hd,q⟩:=h;refine⟨_,(ai (aH (PW.pt (kc (ki (bV (mJ (K':=K) (T:="tuple") rfl rfl T.n_isinstance lE (df (dv 0)) (lY (v:= .ty "tuple") rfl T.n_tuple k6 rfl)))) (kF (aD pd bX (PE.imp (aR ke rfl T.n_len Qj (aA (dv 0) aB)) (aE ko)) (dc (km rfl T.c_MOST_MAKERS T.r_MOST_MAKERS) (λ_ _=>.int _)) (av _))))) (ak (ax k7)) aG)
   (ai (aH (ki (bV (PE.imp (aR (pk rfl) rfl T.n_all pq (aA (fe (Df rfl FA (df (dv 0)) bW kU tx (λ_ _ _ _=>(bM (i:=0) FA.nd rfl Wo)) (λ_ _ _ _=>kW) (λ_ _ _ _=>(ar G_P hr T.F_P (aa (dv 0) ah))))) aB)) (aE nu)))) (ak (ax k7)) aG)
   (ak (ax (PE.imp (aR (pk rfl) rfl T.n_all pq (aA (fe (Ac rfl FC rfl T.n_range (aA ae (aA (PE.imp (aR ke rfl T.n_len Qj (aA (dv 0) aB)) (aE ko)) aB)) bW kU tx (λ_ _ _ _=>(bM (i:=0) FC.nd rfl Wo)) (λ_ _ _ _=>kW) (λ_ _ _ _=>(fS Hn JP (df (aj aI aK (dv 1) (aS lg cx (dv 0) ae))) (df (aj aI aK (dv 1) (dv 0))) (av _))))) aB)) (aE nu)))))),?_⟩
  walk_at "a";simp only [uU];walk_at "a";refine⟨qX hd,?_⟩;rcases tG d with⟨l,rfl⟩ | hn
  ·have hl:=tE hd;simp only [pE];walk_at "a";simp only [pF] at q;split
   ·rename_i h4;rw [decide_eq_false (p:=l.length<=4) Ce] at q;simpa using q
   ·rename_i h4;rw [decide_eq_true (p:=l.length<=4) Ce] at q;refine⟨Ce,qt (p:=λb=>if b=false then Q (.bool false) else _) cC (λx hx R hR=>?_) ?_⟩
    ·walk_at "a";exact⟨x,rfl,hl x hx,hR⟩
    ·have ea:(l.map cC).all id=l.all cC:=by rw [SI];rfl
     rw [ea];split
     ·rename_i h5;rw [h5] at q;simpa using q
     ·rename_i h5;rw [Bool.not_eq_false] at h5;rw [h5] at q;refine⟨by have:((16777216:Nat):Int)=16777216:=rfl;omega,Ce,Ce,qt (p:=λb=>Q (.bool b)) (λx=>match x with | .int p=>uV (l.getD (p - 1).toNat .none) (l.getD p.toNat .none) | _=>false) (λx hx R hR=>?_) ?_⟩
      ·obtain⟨i,hi,rfl⟩:=QG.mp hx;have hi':=Sa.mp hi;have l1:i < l.length:=Ce
       have l2:i+1 < l.length:=Ce
       have n1:cC l[i]=true:=Rh.mp h5 _ (R9 l1);have n2:cC l[i+1]=true:=Rh.mp h5 _ (R9 l2);obtain⟨z1,e1,_⟩:=mW n1;obtain⟨z2,e2,_⟩:=mW n2;have a1:(1:Int)+(i:Int) - 1=((i:Nat):Int):=Ce
       have a2:(1:Int)+(i:Int)=((i+1:Nat):Int):=Ce
       simp only [a1] at hR;rw [a2] at hR;simp only [Q7,RR,QY l1,QY l2,Option.getD_some,e1,e2,uV] at hR;walk_at "a";rw [a1,a2];exact⟨_,nK (by rw [QY l1,e1]),_,nK (by rw [QY l2,e2]),z1,rfl,z2,rfl,hR⟩
      ·simp only [Qg] at q
       match l,h4,q with
       | [],_,q=>simpa [nA,lj] using q
       | [a],_,q=>simpa [nA,lj] using q
       | [a,b],_,q=>simpa [nA,lj,SQ] using q
       | [a,b,c],_,q=>simpa [nA,lj,SQ] using q
       | [a,b,c,d],_,q=>simpa [nA,lj,SQ] using q
       | _::_::_::_::_::r,h4,_=>simp only [Pu] at h4;omega
  ·rw [DM hn];have e:pF d=false:=by
    unfold pF;split
    ·exact absurd rfl (hn _)
    ·rfl
   rw [e] at q;simpa using q
def FI:List Wr->(Wr->Prop)->Prop:=λds Q=>∃d,ds=[d]/\bB d=true/\Q (.bool (mV d))
theorem Nq(T:Txt K mg t):aF P w K mg base CX0 2 t.a_U t.d_U ["thing"] (bg K FI):=by
 have G_O:=@BD P w _ _ base _ T;have G_P:=@rQ P w _ _ base _ T;refine T.F_U.F.okD Mz (λds Q h=>?_) (λ_ _ _ _ H O ds Q E hr h=>?_)
 ·obtain⟨d,rfl,_⟩:=h;rfl
 ·obtain⟨d,rfl,hd,q⟩:=h;refine⟨_,(ak (ax (kI (ar G_O hr T.F_O (aa (dv 0) (aa ae ah))) (kI (fS (oI hr) oJ (df (aj aI aK (dv 0) ae)) (df (bD (aa aw (aa aw ah)))) rfl) (lK (ar G_P hr T.F_P (aa (aj aI aK (dv 0) ae) ah))))))),?_⟩;walk_at "a";simp only [vN];walk_at "a";refine⟨hd,?_⟩;rcases tG d with⟨l,rfl⟩ | hn
  ·have hl:=tE hd
   match l,hl with
   | [],_=>simpa [mV,lG] using q
   | [a],_=>simpa [mV,lG] using q
   | [a,b],hl=>
    have ha:=hl a Wq;have hb:=hl b Wq;simp [mV,lL,lG,qr ha,qA,hb,aX,bA] at q⊢;generalize ((Pr (Pp "paper")).eqv a)=A at*;generalize ((Pr (Pp "kind")).eqv a)=B at*;cases A <;> cases B <;> simp at q⊢<;> exact q
   | _::_::_::r,_=>
    have h2:¬((r.length:Int)+1+1+1=2):=Ce
    simpa [mV,lG,h2] using q
  ·have e:mV d=false:=by
    unfold mV;split
    ·exact absurd rfl (hn _)
    ·rfl
   rw [e] at q;simpa [Ak hn] using q
def Nr:List Wr->(Wr->Prop)->Prop:=λds Q=>∃d ps,ds=[d,.tuple ps]/\bB d=true/\(∀p∈ps,bB p=true)/\Q (.bool (oK d ps))
theorem Nt(T:Txt K mg t):aF P w K mg base CX0 4 t.a_V t.d_V ["word","parts"] (bg K Nr):=by
 have G_P:=@rQ P w _ _ base _ T;have G_S:=@Nn P w _ _ base _ T;have G_T:=@Np P w _ _ base _ T;have G_U:=@Nq P w _ _ base _ T;refine T.F_V.F.okD MA (λds Q h=>?_) (λ_ _ _ _ H O ds Q E hr h=>?_)
 ·obtain⟨d,ps,rfl,_⟩:=h;rfl
 ·obtain⟨d,ps,rfl,hd,hp,q⟩:=h;refine⟨_,(ai (aH (aD (oI hr) oJ (dv 0) (bD (aa aw (aa aw ah))) rfl) (ak (ax (fS (ck hr.units) cn (df (PE.imp (aR ke rfl T.n_len Qj (aA (dv 1) aB)) (aE ko))) (df ae) (av _)))) aG)
   (ai (aH (aD (oI hr) oJ (dv 0) (bD (aa aw (aa aw ah))) rfl) (ak (ax (kI (fS (ck hr.units) cn (df (PE.imp (aR ke rfl T.n_len Qj (aA (dv 1) aB)) (aE ko))) (df ae) (av _)) (lK (ar G_P hr T.F_P (aa (aj aI aK (dv 1) ae) ah)))))) aG)
   (ai (aH (aD (cI hr) cJ (dv 0) aw (av _)) (ak (ax (kI (fS (ck hr.units) cn (df (PE.imp (aR ke rfl T.n_len Qj (aA (dv 1) aB)) (aE ko))) (df ae) (av _)) (lK (ar G_S hr T.F_S (aa (aj aI aK (dv 1) ae) ah)))))) aG)
   (ai (aH (aD (cI hr) cJ (dv 0) aw (av _)) (ak (ax (kI (fS (ck hr.units) cn (df (PE.imp (aR ke rfl T.n_len Qj (aA (dv 1) aB)) (aE ko))) (df ae) (av _)) (kI (ar G_P hr T.F_P (aa (aj aI aK (dv 1) ae) ah)) (lK (ar G_T hr T.F_T (aa (aj aI aK (dv 1) ae) ah))))))) aG)
   (ai (aH (aD (cI hr) cJ (dv 0) aw (av _)) (ak (ax (kI (fS (ck hr.units) cn (df (PE.imp (aR ke rfl T.n_len Qj (aA (dv 1) aB)) (aE ko))) (df ae) (av _)) (kI (ar G_U hr T.F_U (aa (aj aI aK (dv 1) ae) ah)) (lK (mJ (K':=K) (T:="bool") rfl rfl T.n_isinstance lE (df (aj aI aK (dv 1) ae)) (lY (v:= .ty "bool") rfl T.n_bool sS rfl))))))) aG)
   (ak (ax k7))))))),?_⟩
  walk_at "a";simp only [qr hd,Aj];walk_at "a";simp only [oK,lL,QC,QV,QB] at q;split
  ·rename_i h;rw [Wn h] at q
   match ps with
   | []=>simpa using q
   | _::r=>
    have h1:(((r.length+1:Nat):Int)==0)=false:=by rw [beq_eq_false_iff_ne];omega
    rw [Pu,h1];simpa using q
  rename_i h;rw [Wm h] at q;clear h;split
  ·rename_i h;rw [Wn h] at q
   match ps,hp with
   | [],_=>simpa using q
   | [a],hp=>have ha:=hp a Wq;simpa [aX,qA,ha] using q
   | _::_::r,_=>
    have h1:¬((r.length:Int)+1+1=1):=Ce
    simpa [h1] using q
  rename_i h;rw [Wm h] at q;clear h;split
  ·rename_i h;rw [Wn h] at q
   match ps,hp with
   | [],_=>simpa using q
   | [a],hp=>have ha:=hp a Wq;simpa [aX,FG,ha] using q
   | _::_::r,_=>
    have h1:¬((r.length:Int)+1+1=1):=Ce
    simpa [h1] using q
  rename_i h;rw [Wm h] at q;clear h;split
  ·rename_i h;rw [Wn h] at q
   match ps,hp with
   | [],_=>simpa using q
   | [a],_=>simpa using q
   | [a,b],hp=>
    have ha:=hp a Wq;have hb:=hp b Wq;simp [aX,bA,qA,FH,ha,hb] at q⊢;generalize cC a=A at*;cases A <;> simp at q⊢<;> exact q
   | _::_::_::r,_=>
    have h1:¬((r.length:Int)+1+1+1=2):=Ce
    simpa [h1] using q
  rename_i h;rw [Wm h] at q;clear h;split
  ·rename_i h;rw [Wn h] at q
   match ps,hp with
   | [],_=>simpa using q
   | [a],_=>simpa using q
   | [a,b],hp=>
    have ha:=hp a Wq;have hb:=qX (hp b Wq);simp [aX,bA,FI,ha] at q⊢;generalize mV a=A at*;cases A <;> simp at q⊢<;> first | exact q | exact⟨hb,q⟩
   | _::_::_::r,_=>
    have h1:¬((r.length:Int)+1+1+1=2):=Ce
    simpa [h1] using q
  ·rename_i h;rw [Wm h] at q;exact q
def Nu:List Wr->(Wr->Prop)->Prop:=λds Q=>∃d,ds=[d]/\bB d=true/\Q (.bool (lM d))
theorem Nv(T:Txt K mg t):aF P w K mg base CX0 5 t.a_W t.d_W ["thing"] (bg K Nu):=by
 have G_P:=@rQ P w _ _ base _ T;have G_C:=@Fj P w _ _ base _ T;have G_V:=@Nt P w _ _ base _ T;refine T.F_W.F.okD MB (λds Q h=>?_) (λ_ _ _ _ H O ds Q E hr h=>?_)
 ·obtain⟨d,rfl,_⟩:=h;rfl
 ·obtain⟨d,rfl,hd,q⟩:=h;refine⟨_,(ai (aH (PW.pt (kc (ki (bV (mJ (K':=K) (T:="tuple") rfl rfl T.n_isinstance lE (df (dv 0)) (lY (v:= .ty "tuple") rfl T.n_tuple k6 rfl)))) (kF (aD qP bX (PE.imp (aR ke rfl T.n_len Qj (aA (dv 0) aB)) (aE ko)) ae (av _))))) (ak (ax k7)) aG)
   (ak (ax (kI (ar G_C hr T.F_C (aa (aj aI aK (dv 0) ae) ah)) (kI (ar G_P hr T.F_P (aa (aj aI aK (dv 0) ae) ah)) (lK (ar G_V hr T.F_V (aa (aj aI aK (dv 0) ae) (aa (tq (df (dv 0)) (bP ae) kj) ah))))))))),?_⟩
  walk_at "a";simp only [uU];walk_at "a";refine⟨qX hd,?_⟩;rcases tG d with⟨l,rfl⟩ | hn
  ·have hl:=tE hd;simp only [pE];walk_at "a"
   match l,hl with
   | [],_=>simpa [lM] using q
   | [a],_=>simpa [lM] using q
   | [a,b],_=>simpa [lM] using q
   | w::n::x::r,hl=>
    have h3:¬((((w::n::x::r).length:Nat):Int) < 3):=by simp only [Pu];omega
    rw [Wm h3];have hw:=hl w Wq;have hn:=hl n Wq;have hx:=hl x Wq;have hr':∀p∈r,bB p=true:=λp hp=>hl p (by simp [hp]);have ec:bz (w::n::x::r) (some 3) none=r:=by rw [qo tx (by simp only [Pu];omega)];rfl
    simp only [lM] at q;refine⟨_,bA,n,rfl,hn,?_⟩;refine⟨_,rfl,?_⟩;cases e1:mU n with
    | false=>simpa [e1] using q
    | true=>
     rw [Wn rfl];refine⟨_,b0,x,rfl,hx,_,rfl,?_⟩;cases e2:cC x with
     | false=>simpa [e1,e2] using q
     | true=>
      rw [Wn rfl];refine⟨_,aX,w,r,by rw [ec],hw,hr',?_⟩;simpa [e1,e2] using q
  ·rw [DM hn];have e:lM d=false:=by
    unfold lM;split
    ·exact absurd rfl (hn _)
    ·rfl
   rw [e] at q;simpa using q
def BE:Sp:=λvs H Q _=>∃(c:Int),vs=[.int c]/\Rl c<=2000000/\∀n:Int,Q (.int n) H
theorem Nw(T:Txt K mg t):aF P w K mg base CX0 1 t.a_i t.d_i ["_law_cell"] BE:=by
 refine T.F_i.F.ok MK (λvs H Q E h=>?_) (λcdv A outer s H vs Q E hr h=>?_)
 ·obtain⟨c,rfl,_⟩:=h;rfl
 ·obtain⟨c,rfl,hb,k⟩:=h;refine⟨_,(kz (kQ (bY oh (bY IE (pv 0) cG) (bY Hi cG cG)))),?_⟩;walk_at "c";refine⟨IntMulOk.of_le (m:=2000000) (n:=256) hb (intBits_le_iff.mpr tx) tx,?_,?_,k _⟩
  ·decide
  ·decide
theorem FJ{x:Int}(h1:0<=x)(h2:x<=1000000):Rl x<=20:=intBits_le_iff.mpr (by
 have:(2:Nat)^ 20=1048576:=tx
 omega)
theorem Nx{H:Hp}{O:Ex}{v:V}{ns:List Int}(h:Dt K H O v (mB (ns.map .int))):∃a,v= .ref a/\bf K H a (ns.map V.int):=by
 obtain⟨a,xs,rfl,hs,r⟩:=(Sh.dt h).scr;refine⟨a,rfl,?_⟩;have:xs=ns.map V.int:=by
  clear hs h
  induction ns generalizing xs with
  | nil=>rw [Qc] at r;cases r;rfl
  | cons n ns ih=>
   rw [Pw] at r;cases r with
   | cons h r=>cases h;rw [Pw,ih _ r]
 rw [<-this];exact hs
theorem Ny(T:Txt K mg t):aF P w K mg base CX0 2 t.a_j t.d_j ["_law_script","_law_k"] (bg K Jv):=by
 have G_i:=@Nw P w _ _ base _ T;refine T.F_j.F.ok ML (λvs H Q E h=>?_) (λcdv A outer s H vs Q E hr h=>?_)
 ·obtain⟨O,ds,Qd,_,r,⟨ns,i,rfl,_⟩,_⟩:=h;exact r.length
 ·obtain⟨O,ds,Qd,tr,r,⟨ns,i,rfl,hb,i0,i1,q⟩,k⟩:=h;cases r with
  | cons r1 r2=>
   cases r2 with
   | cons r2 r3=>
    cases r3;cases r2;obtain⟨a,rfl,hS⟩:=Nx r1;refine⟨_,bG.newPack (kP (oY (p4 qP (pv 1) (aR Hw rfl T.n_len Qj (aQ (pv 0) bJ)) (av _)) (kz (kQ (xN (aQ (lN G_i (hr.mono tx) rfl T.F_i (aQ (bY cb (p9 aO (pv 0) (pv 1) (λ_ _=>rfl)) (bY qO cG (pv 1))) bJ)) bJ)))) oX)
   (kz (kQ (xN (aQ (lN G_i (hr.mono tx) rfl T.F_i (aQ (bY cb (bY qO cG (pv 1)) cG) bJ)) bJ))))),?_⟩
    have fin:∀(n:Int)(p:Wu),H p=none->∃p' n',V.ref p=V.ref p'/\ao H p (.lst [.int n]) p'=some (.lst [.int n'])/\Q (.ref p) (ao (ao H p (.lst [.int n])) p' (oy p')):=λn p hp=>
     ⟨p,n,rfl,bu,k _ _ _ q (λb o e=>by rw [ay (ky e hp),ay (ky e hp)];exact e) (.pack bu λz=>tr p z hp)⟩
    walk_at "c";refine⟨ns.length,.inl ⟨_,hS,Wq⟩,?_⟩;split
    ·rename_i hlt;obtain⟨j,rfl⟩:=Q0 i0;have hj:j < ns.length:=Ce
     refine CU (v:= .int ns[j]) hS (nK (by simp [hj])) ⟨_,rfl,?_⟩;simp only [BE];walk_at "c";refine⟨?_,λn=>⟨by show 1<=WA;decide,λp hp=>?_⟩⟩
     ·have e1:=hb ns[j] (R9 hj);have e2:Rl (23*(j:Int))<=20:=FJ Ce Ce;exact Qt (intBits_add_le e1 e2) tx
     ·simpa using fin n p hp
    ·simp only [BE];walk_at "c";refine⟨?_,λn=>⟨by show 1<=WA;decide,λp hp=>?_⟩⟩
     ·exact Qt (FJ Ce Ce) tx
     ·simpa using fin n p hp
theorem qB(T:Txt K mg t):aF P w K mg base CX0 1 t.a_k t.d_k ["_law_pack_here","_law_size"] (bg K y9):=by
 refine T.F_k.F.ok E1 (λvs H Q E h=>?_) (λcdv A outer s H vs Q E hr h=>?_)
 ·obtain⟨O,ds,Qd,_,r,⟨z,rfl,_⟩,_⟩:=h;exact r.length
 ·obtain⟨O,ds,Qd,tr,r,⟨z,rfl,z0,z1,qq⟩,k⟩:=h;cases r with
  | cons r1 r2=>
   cases r2 with
   | cons r2 r3=>
    cases r3;cases r2;cases r1 with
    | @pack p hp hn=>
     refine⟨_,bG.pack (kP (B2 (aR Hx rfl T.n_divmod IJ (aQ (p9 aO (pv 0) cG (λ_ _=>rfl)) (aQ (pv 1) bJ))) (sC (n:=2) rfl (mw (G9 (pv 0) cG HX) (mw (bM (i:=2) E1.nd rfl Wo) qM))))
   (kz (kQ (pv 2)))),p,hp,λn=>?_⟩
     walk_at "c";refine CU (bf.of bu) rfl ⟨n,rfl,z0,Ce,λq hq=>?_⟩;have hpq:p≠q:=ky bu hq;refine⟨_,aY.of bu,rfl,_,_,rfl,?_⟩;refine⟨p,[.int n],0,0,rfl,rfl,by rw [ay hpq,bu],rfl,?_⟩;refine⟨_,_,rfl,rfl,?_⟩;refine⟨⟨_,bu⟩,k _ _ _ (qq (n % z) (Int.emod_nonneg _ Ce) (Int.emod_lt_of_pos _ z0)) (λb o e=>?_) (.int _)⟩;by_cases hb:b=p
     ·subst hb;rw [bu,<-hp,e]
     ·have hbq:b≠q:=λy=>by
       subst y;rw [ay hb] at hq;rw [hq] at e;cases e
      rw [ay hb,ay hb,ay hbq,ay hb];exact e
end
end K60
local macro_rules | `(tactic| walk_at "o")=>`(tactic| first | exact Uq rfl | exact TC rfl)
local macro_rules | `(tactic| walk_at "a") =>do let a <- rzT "bZ Pw Qc Pu P1 QD QE PH P7 P2"; let b <- rzT rzS; `(tactic| ((try $a:tactic); $b:tactic))
open PySem L2
namespace K60
theorem FK:bO (az tO) ["_law_pack_here","_law_many","_law_letters","_law_words","_law_turn","_law_size","_law_at","_law_stem","_law_first"] ["_law_k","_law_letters","_law_pack_here"] 1 [2,0] ⟨Qf,[ (Pt ".0",Ym),(Pt "_law_k",Ym),(Pt "_law_take",Qm),(Pt "_law_letters",Rf),(Pt "_law_pack_here",Rf)],false,false,[]⟩:= .of
theorem FL:bO (az tO) ["_law_pack_here","_law_many","_law_letters","_law_words","_law_turn","_law_size","_law_at","_law_stem","_law_first"] ["_law_k","_law_stem","_law_letters","_law_at","_law_first"] 1 [7,2,6,8] ⟨Qf,[ (Pt ".0",Ym),(Pt "_law_k",Ym),(Pt "_law_at",Rf),(Pt "_law_first",Rf),(Pt "_law_letters",Rf),(Pt "_law_stem",Rf)],false,false,[]⟩:= .of
section
variable {P:WH} {w:WJ} {K:Pq} {mg:Str->Option Ws} {base:WG} {t:k8}
structure Nz (ns:List Str):Prop where
 len:ns.length=5
 nd:ns.Nodup
 nm:∀n∈ns,Nm n
def k9:List Str:=["paper","kind","keep","days","coming","first","deep","none","never","gone","held","rule","last","end","hold","lift","leave","happens","while","follow","months","years"]
theorem NA:k9.Nodup:=td
theorem NB:∀n∈k9,cC (.str n)=true:=td
theorem NC{n:Str}(h:n∈k9):Nm n:=by
 obtain⟨z,e,hz⟩:=mW (NB n h);injection e with e;rw [e];exact hz
theorem ND{j:Nat}{n:Str}(h:n∈k9.drop j++k9.take j):n∈k9:=by
 rcases Rq.mp h with z | z
 ·exact RZ z
 ·exact RO z
theorem NF{j:Int}(h0:0<=j)(h1:j < 26):l9 j∈lr.cps.toList:=by
 obtain⟨c,_,e2,_⟩:=tm h0 h1;have:l9 j=c:=by unfold l9;rw [e2];rfl
 rw [this];exact Rp e2
def vO(a b:Str)(fi:Int)(k:Nat):Str:=a++⟨#[l9 ((fi+5*(k:Int))% 26)]⟩++b
def NG:List Wr->(Wr->Prop)->Prop:=λds Q=>ds=[mi,.int 5]/\∀ns,Nz ns->Q (.list (ns.map .str))
theorem NH(T:Txt K mg t):aF P w K mg base CX0 2 t.a_l t.d_l ["_law_pack_here","_law_many"] (bg K NG):=by
 have G_k:=@qB P w _ _ base _ T;refine T.F_l.F.okD oQ (λds Q h=>?_) (λ_ _ _ _ H O ds Q E hr h=>?_)
 ·obtain⟨rfl,_⟩:=h;rfl
 ·obtain⟨rfl,q⟩:=h;refine'⟨_,?A,?B⟩
  case A=>
   refine' ai ?C ?D
   case C=>exact(aW (i:=2) oQ.nd rfl Wo aw)
   case' D=>refine' ai ?E ?F
   case E=>
    refine' aH ?G ?H aG
    case G=>exact(aD (ck hr.units) cn (ar G_k hr T.F_k (aa (dv 0) (aa ae ah))) ae (av _))
    case' H=>refine' ai ?I ?J
    case I=>
     generalize hE6_0:S6 _ _=ee6_0;exact aW (i:=3) oQ.nd rfl Wo (fe (qp (ds:=[.str "paper",.str "kind",.str "keep",.str "days",.str "coming",.str "first",.str "deep",.str "none",.str "never",.str "gone",.str "held",.str "rule"]) (by first | (subst hE6_0;rfl)))) (hs:=Dm (ds:=[.str "paper",.str "kind",.str "keep",.str "days",.str "coming",.str "first",.str "deep",.str "none",.str "never",.str "gone",.str "held",.str "rule"]) (by first | (subst hE6_0;rfl)))
    case' J=>refine' ai ?K ?L
    case K=>
     generalize hE8_0:S6 _ _=ee8_0;exact(aW (i:=3) oQ.nd rfl Wo (fe (lq (df (dv 3)) (df (fe (qp (ds:=[.str "last",.str "end",.str "hold",.str "lift",.str "leave",.str "happens",.str "while",.str "follow",.str "months",.str "years"]) (by first | (subst hE8_0;rfl))))))))
    case' L=>refine' ai ?M ?N
    case M=>exact(aW (i:=4) oQ.nd rfl Wo (ar G_k hr T.F_k (aa (dv 0) (aa (PE.imp (aR ke rfl T.n_len Qj (aA (dv 3) aB)) (aE ko)) ah))))
    case' N=>refine' ak ?O
    case' O=>refine' ax ?P
    case' P=>refine' fe ?Q
    case Q=>exact(kB (df (fe (lq (df (fe (kB (df (dv 3)) (bP (dv 4)) kj))) (df (fe (kB (df (dv 3)) kj (bP (dv 4)))))))) kj (bP (dv 1)))
   case' F=>refine' ai ?R ?S
   case R=>exact(aW (i:=5) oQ.nd rfl Wo (aS cb cx ae (ar G_k hr T.F_k (aa (dv 0) (aa ae ah)))))
   case' S=>refine' ai ?T ?U
   case T=>exact(aW (i:=6) oQ.nd rfl Wo (ar G_k hr T.F_k (aa (dv 0) (aa (dv 5) ah))))
   case' U=>refine' ai ?V ?W
   case V=>
    refine' aW (i:=7) oQ.nd rfl Wo ?X (hs:=oM)
    case X=>exact(mG aw (df (fe (Dg rfl FK rfl T.n_range (aA (dv 5) aB) bW kU tx (λ_ _ _ _=>(bM (i:=0) FK.nd rfl Wo)) (λ_ _ _ _=>kW) (λ_ _ _ _=>(aj xS y8 (dv 1) (ar G_k hr T.F_k (aa (dv 2) (aa ae ah)))))))))
   case' W=>refine' ai ?Y ?Z
   case Y=>exact(aW (i:=8) oQ.nd rfl Wo (ar G_k hr T.F_k (aa (dv 0) (aa ae ah))))
   case' Z=>refine' ak ?a
   case' a=>refine' ax ?b
   case' b=>refine' fe ?c
   case c=>exact(Dg rfl FL rfl T.n_range (aA (dv 1) aB) bW kU tx (λ_ _ _ _=>(bM (i:=0) FL.nd rfl Wo)) (λ_ _ _ _=>kW) (λ_ _ _ _=>(aS sL sZ (aS sL sZ (uN (df (dv 1)) kj (bP (dv 3))) (aj xS y8 (dv 2) (aS oh mR (aS cb cx (dv 4) (aS qO mR ae (dv 0))) ae))) (uN (df (dv 1)) (bP (aS cb cx (dv 3) ae)) kj))))
  case B=>
  walk_at "a";rw [show([Pr "paper",Pr "kind",Pr "keep",Pr "days",Pr "coming",Pr "first",Pr "deep",Pr "none",Pr "never",Pr "gone",Pr "held",Pr "rule",Pr "last",Pr "end",Pr "hold",Pr "lift",Pr "leave",Pr "happens",Pr "while",Pr "follow",Pr "months",Pr "years"]:List Wr)=k9.map Pr from rfl];have hl:(k9.map Pr).length=22:=rfl;intro c c0 c1;split
  ·refine⟨tx,tx,λj j0 j1=>?_⟩;have j2:j < 22:=j1;have hj:(j.toNat:Int)=j:=SK j0;rw [qo j0 (by rw [hl];omega),qm j0 (by rw [hl];omega)];have e5:((k9.map Pr).drop j.toNat++(k9.map Pr).take j.toNat)=(k9.drop j.toNat++k9.take j.toNat).map Pr:=by
    rw [RE,Ub,Ta]
   have l5:(k9.drop j.toNat++k9.take j.toNat).length=22:=by
    rw [Ra,RU,Ro,show k9.length=22 from rfl];omega
   refine⟨by rw [RU,Ro,hl];omega,?_⟩;rw [e5,qm tx (by rw [PB,l5];decide),<-Ta];refine q _ ⟨by rw [Ro,l5];rfl,?_,λn hn=>?_⟩
   ·refine List.Nodup.sublist (Ug _ _) ?_;have hp:(k9.drop j.toNat++k9.take j.toNat).Perm k9:=by
     have:=List.perm_append_comm (l₁:=k9.drop j.toNat) (l₂:=k9.take j.toNat)
     rwa [Sw] at this
    exact hp.nodup_iff.mpr NA
   ·exact NC (ND (RO hn))
  ·intro x x0 x1;refine⟨Ce,Ce,λat0 a0 a1=>⟨Ce,by have:(16777216:Nat)=(16777216:Int):=rfl;omega,?_⟩⟩;refine J4 (λy=>∃c,y= .str ⟨#[c]⟩/\c∈lr.cps.toList) (λy hy R hR=>?_) λds hdl hds=>?_
   ·obtain⟨k,hk,rfl⟩:=QG.mp hy;walk_at "a";refine λj j0 j1=>⟨td,?_⟩;obtain⟨ch,e1,e2,_⟩:=tm j0 j1;exact⟨ch,e1,hR _ ⟨ch,rfl,Rp e2⟩⟩
   ·obtain⟨cs,rfl,hcs⟩:∃cs:List Nat,ds=(cs.map λc=>(⟨#[c]⟩:Str)).map .str/\∀c∈cs,c∈lr.cps.toList:=by
     clear hdl
     induction ds with
     | nil=>exact⟨[],rfl,Wq⟩
     | cons d r ih=>
      obtain⟨c,rfl,hc⟩:=hds d Wq;obtain⟨cs,rfl,h⟩:=ih λy hy=>hds y (by simp [hy]);exact⟨c::cs,rfl,λz hz=>by
       rcases Pz.mp hz with e | e
       ·rw [e];exact hc
       ·exact h z e⟩
    rw [Aa,PB,PB] at hdl;have jc:(Txt.join "" (cs.map λc=>(⟨#[c]⟩:Str))).cps.toList=cs:=by
     rw [Kg,Rb];clear hdl hds hcs
     induction cs with
     | nil=>rfl
     | cons c r ih=>rw [Pw,R1,ih];rfl
    have sm:((cs.map λc=>(⟨#[c]⟩:Str)).map λx=>x.length).sum=cs.length:=by
     clear hdl hds hcs jc
     induction cs with
     | nil=>rfl
     | cons c r ih=>
      simp only [Pw,R8,Pu] at ih⊢;rw [ih,show(⟨#[c]⟩:Str).length=1 from rfl];omega
    refine⟨_,rfl,by rw [sm,PB,show(Pp "").length=0 by decide+kernel];omega,λfi f0 f1=>⟨tx,?_⟩⟩;have hst:(Txt.join "" (cs.map λc=>(⟨#[c]⟩:Str))).length=cs.length:=by rw [nB,jc]
    generalize Txt.join "" (cs.map λc=>(⟨#[c]⟩:Str))=stem at*;have cA:(Txt.slice stem none (some at0)).cps.toList=cs.take at0.toNat:=by rw [DN,jc,J6 a0 Ce]
    have cB:(Txt.slice stem (some (at0+1)) none).cps.toList=cs.drop (at0+1).toNat:=by rw [DN,jc,J7 Ce Ce]
    have lA:(Txt.slice stem none (some at0)).length=at0.toNat:=by rw [nB,cA,Ro];omega
    have lB:(Txt.slice stem (some (at0+1)) none).length=cs.length - (at0+1).toNat:=by rw [nB,cB,RU]
    have lc:∀j,(⟨#[j]⟩:Str).length=1:=λ_=>rfl;refine mI (λy=>match y with | .int k=>.str (vO (Txt.slice stem none (some at0)) (Txt.slice stem (some (at0+1)) none) fi k.toNat) | _=>.none) (λy hy R hR=>?_) ?_
    ·obtain⟨k,hk,rfl⟩:=QG.mp hy;walk_at "a";simp only [V9,Q7] at hR⊢;have r0:0<=(fi+5*(k:Int))% 26:=Ce
     have r1:(fi+5*(k:Int))% 26 < 26:=Ce
     obtain⟨e1,e2⟩:=JC r0 r1;refine⟨Ce,td,_,e1,by rw [lA,lc];omega,Ce,?_⟩;exact⟨by rw [pC,lA,lB,lc];omega,hR⟩
    ·have e:(lj 0 (Int.toNat 5)).map (λy=>match y with | .int k=>Pr (vO (Txt.slice stem none (some at0)) (Txt.slice stem (some (at0+1)) none) fi k.toNat) | _=>.none)=((Rx 5).map λ(k:Nat)=>vO (Txt.slice stem none (some at0)) (Txt.slice stem (some (at0+1)) none) fi k).map .str:=by
      unfold lj;rw [Rb,Rb];refine TU λk _=>?_;simp only [Function.comp,V9,Q7]
     rw [e];refine q _ ⟨Wq,?_,λn hn=>?_⟩
     ·rw [List.Nodup,List.pairwise_map];refine List.Pairwise.imp_of_mem ?_ (List.nodup_range (n:=5));intro a b ha hb hab e;have ha':=Sa.mp ha;have hb':=Sa.mp hb;have z:=Jz e;have:=JD Ce Ce Ce Ce z;omega
     ·obtain⟨k,_,rfl⟩:=QG.mp hn;have r0:0<=(fi+5*(k:Int))% 26:=Ce
      have r1:(fi+5*(k:Int))% 26 < 26:=Ce
      unfold vO;refine⟨by rw [pC,pC,lA,lB,lc];omega,by rw [pC,pC,lA,lB,lc];omega,λc hc=>?_⟩;simp only [tf,Sj,Rq] at hc;rcases hc with(h | h) | h
      ·rw [cA] at h;exact hcs c (RO h)
      ·have:c=l9 ((fi+5*(k:Int))% 26):=by simpa using h
       rw [this];exact NF r0 r1
      ·rw [cB] at h;exact hcs c (RZ h)
open Day
theorem NI{d y m n y' m' n':Int}(D:lH d y m n)(D':lH d y' m' n'):lC y m n=lC y' m' n':=by
 obtain⟨rfl,rfl,rfl⟩:=D.uniq D';rfl
open Classical in
def kr(d:Int):Str:=if h:∃z y m n,lH d y m n/\z=lC y m n then h.choose else Pp ""
theorem vP{d y m n:Int}(D:lH d y m n):lC y m n=kr d:=by
 have h:∃z y m n,lH d y m n/\z=lC y m n:=⟨_,y,m,n,D,rfl⟩;unfold kr;rw [dif_pos h];obtain⟨y',m',n',D',e⟩:=h.choose_spec;rw [e];exact NI D D'
def kl:Wr->List Str
 | .tuple [.str a]=>[a]
 | .tuple [.str a,.str b]=>[a,b]
 | _=>[]
def lV:Wr->List Str
 | .tuple [.str w,.str k]=>[w,k]
 | .tuple [.str w,.str k,s,.int m,.str u]=>[w,k,Txt.join (Pp ":") (kl s),Pp (toString m),u]
 | _=>[]
def pM:Wr->List Str
 | .tuple l=>l.filterMap λd=>match d with | .str z=>some z | _=>none
 | _=>[]
def lW:List Wr->List Str
 | [.str k,.tuple l]=>k::pM (.tuple l)
 | [.tuple [.str g,.str y],.bool b]=>[g,y]++if b=true then [Pp "deep"] else []
 | [.str y]=>[y]
 | [.tuple l]=>lV (.tuple l)
 | _=>[]
theorem rR(ms:List Str):pM (.tuple (ms.map .str))=ms:=by
 show List.filterMap _ (ms.map Pr)=ms;rw [Vf];exact List.filterMap_some
theorem NJ:(Pp ":").length=1:=td
theorem tY:(Pp " ").length=1:=td
theorem vQ{s:Wr}(h:lR s):s= .tuple ((kl s).map .str)/\((kl s).map (λx:Str=>x.length)).sum+(kl s).length*(Pp ":").length<=16777216:=by
 rw [NJ];cases h with
 | coming=>exact⟨rfl,td⟩
 | @first h hn=>
  refine⟨rfl,?_⟩;have a:(Pp "first").length=5:=td
  have:=hn.hi;simp only [kl,Pw,Qc,R8,Vj,Pu,P1,a];omega
 | @last h hn=>
  refine⟨rfl,?_⟩;have a:(Pp "last").length=4:=td
  have:=hn.hi;simp only [kl,Pw,Qc,R8,Vj,Pu,P1,a];omega
theorem oS{d:Wr}(h:bo d):∃w n x r,d= .tuple (.str w:: .int n:: .str x::r)/\lu n:=by
 cases h with
 | paper a=>exact⟨_,_,_,_,rfl,a⟩
 | two _ a=>exact⟨_,_,_,_,rfl,a⟩
 | rule a=>exact⟨_,_,_,_,rfl,a⟩
 | one _ a=>exact⟨_,_,_,_,rfl,a⟩
 | hold a=>exact⟨_,_,_,_,rfl,a⟩
def NK:List Wr->(Wr->Prop)->Prop:=λds Q=>∃p,ds=[p]/\me p/\Q (.list ((lV p).map .str))
theorem NL(T:Txt K mg t):aF P w K mg base CX0 1 t.a_Y t.d_Y ["parts"] (bg K NK):=by
 refine T.F_Y.F.okD MC (λds Q h=>?_) (λ_ _ _ _ H O ds Q E hr h=>?_)
 ·obtain⟨p,rfl,_⟩:=h;rfl
 ·obtain⟨p,rfl,hp,q⟩:=h;refine'⟨_,?A,?B⟩
  case A=>
   refine' ai ?C ?D
   case C=>
    refine' aH ?E ?F aG
    case E=>exact(aD (ck hr.units) cn (PE.imp (aR ke rfl T.n_len Qj (aA (dv 0) aB)) (aE ko)) ae (av _))
    case' F=>refine' ak ?G
    case G=>exact(ax (fe (qk rfl T.n_list qf (aA (dv 0) aB))))
   case' D=>refine' ak ?H
   case' H=>generalize hG6:S6 _ _=eg6
   refine' ax ?I
   case' I=>subst hG6
   refine' fe ?J
   case' J=>refine' bw ?K
   case' K=>refine' aa ?L ?M
   case L=>exact(aj aI aK (dv 0) ae)
   case' M=>refine' aa ?N ?O
   case N=>exact(aj aI aK (dv 0) ae)
   case' O=>refine' aa ?P ?Q
   case P=>exact(EC aw (df (aj aI aK (dv 0) ae)))
   case' Q=>refine' aa ?R ?S
   case R=>exact(PE.imp (cf oj rfl T.n_str mP (aA (aj aI aK (dv 0) ae) aB)) (aE oN))
   case' S=>refine' aa ?T ah
   case T=>exact(aj aI aK (dv 0) ae)
  case B=>
  clear hr T;cases hp with
  | wfl hw hk=>
   walk_at "a";rw [Wn tx];exact q
  | kg hw hk hs h0 h1 hu=>
   walk_at "a";rw [Wm tx];obtain⟨e,z⟩:=vQ hs;exact⟨_,e,z,nW h0 Ce,q⟩
def NM:List Wr->(Wr->Prop)->Prop:=λds Q=>∃(w:Str)(r:List Wr)(n:Int)(x:Str),ds=[.str w,.tuple r]/\bo (.tuple (.str w:: .int n:: .str x::r))/\Q (.list ((lW r).map .str))
theorem NN(T:Txt K mg t):aF P w K mg base CX0 2 t.a_Z t.d_Z ["word","parts"] (bg K NM):=by
 have G_Y:=@NL P w _ _ base _ T;refine T.F_Z.F.okD MD (λds Q h=>?_) (λ_ _ _ _ H O ds Q E hr h=>?_)
 ·obtain⟨w,r,n,x,rfl,_⟩:=h;rfl
 ·obtain⟨w,r,n,x,rfl,hd,q⟩:=h;refine'⟨_,?A,?B⟩
  case A=>
   refine' ai ?C ?D
   case C=>
    refine' aH ?E ?F aG
    case E=>exact(aD (cI hr) cJ (dv 0) aw (av _))
    case' F=>refine' ak ?G
    case' G=>refine' ax ?H
    case' H=>refine' fe ?I
    case' I=>refine' lq (df ?J) (df ?K)
    case J=>exact(fe (bw (aa (aj aI aK (dv 1) ae) ah)))
    case K=>exact(fe (qk rfl T.n_list qf (aA (aj aI aK (dv 1) ae) aB)))
   case' D=>refine' ai ?L ?M
   case L=>
    refine' aH ?N ?O aG
    case N=>exact(aD (cI hr) cJ (dv 0) aw (av _))
    case' O=>refine' ak ?P
    case P=>exact(ax (ar G_Y hr T.F_Y (aa (aj aI aK (dv 1) ae) ah)))
   case' M=>refine' ai ?Q ?R
   case Q=>
    refine' aH ?S ?T aG
    case S=>exact(aD (cI hr) cJ (dv 0) aw (av _))
    case' T=>refine' ak ?U
    case' U=>refine' ax ?V
    case' V=>refine' fe ?W
    case' W=>refine' lq (df ?X) (df ?Y)
    case X=>exact(fe (qk rfl T.n_list qf (aA (aj aI aK (dv 1) ae) aB)))
    case Y=>exact(uI (bV (aj aI aK (dv 1) ae)) (fe (bw (aa aw ah))) (fe (bw ah)))
   case' R=>refine' ak ?Z
   case Z=>exact(ax (fe (qk rfl T.n_list qf (aA (dv 1) aB))))
  case B=>
  clear hr T G_Y;have nw:∀{u v:Str}{l:List Str},u∈l->(∀z∈l,z≠v)->(u==v)=false:=λh h2=>by simpa using h2 _ h
  cases hd with
  | @paper _ _ k ms _ _ _ hm=>
   walk_at "a";have:=hm.len;refine⟨by rw [PB];omega,?_⟩;have e:lW [Pr k,Qx (QZ Pr ms)]=k::ms:=by
    show k::pM (.tuple (ms.map .str))=_;rw [rR]
   rw [e] at q;exact q
  | two hw=>
   walk_at "a";rw [nw hw td,nw hw td,nw hw td,Wm Qr,Wm Qr,Wm Qr];exact q
  | rule _ _ hp=>
   walk_at "a";refine⟨_,rfl,hp,?_⟩;cases hp <;> exact q
  | one hw=>
   walk_at "a";rw [nw hw td,nw hw td,nw hw td,Wm Qr,Wm Qr,Wm Qr];exact q
  | @hold _ _ g y b=>
   walk_at "a";cases b
   ·rw [Wm Qr];exact q
   ·rw [Wn rfl];exact q
def kE:Wr->List Str
 | .tuple (.str w:: .int n:: .str x::r)=>w::kr n::x::lW r
 | _=>[]
def bb(d:Wr):Str:=Txt.join (Pp " ") (kE d)
def Wz(z:Str):Prop:=z.length<=20/\∀c∈z.cps.toList,32 < c/\c < 128
theorem tj:∀c∈lr.cps.toList,(32 < c/\c < 128)/\c≠58:=td
theorem nX{z:Str}(h:Nm z):Wz z:=⟨Qt h.hi tx,λc hc=>(tj c (h.ab _ hc)).1⟩
theorem FN{z:Str}(h:Nm z):58 ∉ z.cps.toList:=λc=>(tj 58 (h.ab _ c)).2 rfl
theorem NO{z:Str}(h:Wz z):32 ∉ z.cps.toList:=λc=>RP _ (h.2 32 c).1
theorem vR{n:Int}(h:lu n):n < br 10000:=by
 have:br 10000=2921940:=tx
 have:=h.2;omega
theorem NP{n:Int}(h:lu n):Wz (kr n):=by
 unfold kr;split
 ·rename_i hx;obtain⟨y,m,k,D,e⟩:=hx.choose_spec;rw [e];refine⟨by rw [EB];decide,?_⟩;have e:(lC y m k).cps.toList=d4 y.toNat++45::(d2 m.toNat++45::d2 k.toNat):=by simp [lC,rD]
  have hy:=vh D h.1 (vR h);have hb:=rA (y:=y) D.m1 D.m12;have:=D.m12;have:=D.nl;intro c hc;rw [e] at hc;simp only [d4,d2,P7,P2,Pz,PV,or_false] at hc;rcases hc with h | h | h | h | h | h | h | h | h | h <;> omega
 ·unfold Wz;decide+kernel
theorem BF:∀{a b:List Str},a.map (λp:Str=>p.cps.toList)=b.map (λp:Str=>p.cps.toList)->a=b
 | [],[],_=>rfl
 | [],_::_,h=>by simp at h
 | _::_,[],h=>by simp at h
 | ⟨⟨x⟩⟩::a,⟨⟨y⟩⟩::b,h=>by
  simp only [Pw,PK] at h;rw [BF h.2,h.1]
theorem vS{c:Nat}{ws:List Str}(hn:ws≠[])(h:∀z∈ws,c ∉ z.cps.toList):Txt.split (Txt.join ⟨#[c]⟩ ws) ⟨#[c]⟩=ws:=by
 have e:Txt.join ⟨#[c]⟩ ws=SJ ⟨#[c]⟩ ws:=RS _ _;have h1:=rE (Txt.join ⟨#[c]⟩ ws) c;rw [e,qx,AJ c _ (by simpa using hn) (λp hp=>by obtain⟨q,hq,rfl⟩:=QG.mp hp;exact h q hq)] at h1;rw [e];exact BF h1
theorem rS:Pp ":"=⟨#[58]⟩:=td
theorem pN:Pp " "=⟨#[32]⟩:=td
def ku(m:Int):Str:=Pp (toString m)
theorem NR:∀m:Fin 1000,((ku (m.val:Int)).length<=3/\1<=(ku (m.val:Int)).length)/\bK (ku (m.val:Int)) ((ku (m.val:Int)).length:Int)=true/\(1 < (ku (m.val:Int)).length->(ku (m.val:Int)).cps.toList.headD 48≠48)/\(ku (m.val:Int)).cps.toList.all (λc=>decide (48<=c/\c<=57))=true:=td
theorem BG{m:Int}(h0:0<=m)(h1:m<=999):((ku m).length<=3/\1<=(ku m).length)/\bK (ku m) ((ku m).length:Int)=true/\(1 < (ku m).length->(ku m).cps.toList.headD 48≠48)/\(ku m).cps.toList.all (λc=>decide (48<=c/\c<=57))=true:=by
 obtain⟨k,rfl⟩:=Q0 h0;exact NR ⟨k,Ce⟩
theorem FO{m:Int}(h0:0<=m)(h1:m<=999):Wz (ku m):=by
 obtain⟨a,_,_,b⟩:=BG h0 h1;refine⟨Qt a.1 tx,λc hc=>?_⟩;have:=of_decide_eq_true (Rh.mp b _ hc);omega
theorem tZ{c x:Nat}:∀{ps:List (List Nat)},x∈lI c ps->x=c\/∃p∈ps,x∈p
 | [],h=>by cases h
 | [p],h=>.inr ⟨p,Wq,h⟩
 | p::q::r,h=>by
  have h:x∈p++c::lI c (q::r):=h;rcases Rq.mp h with z | z
  ·exact .inr ⟨p,Wq,z⟩
  ·rcases Pz.mp z with z | z
   ·exact .inl z
   ·rcases tZ z with z | ⟨s,hs,z⟩
    ·exact .inl z
    ·exact .inr ⟨s,by simp at hs⊢;exact .inr hs,z⟩
theorem BH{s:Wr}(h:lR s):kl s≠[]/\∀z∈kl s,Wz z/\58 ∉ z.cps.toList/\z.length<=8:=by
 have c1:Wz (Pp "coming")/\58 ∉ (Pp "coming").cps.toList/\(Pp "coming").length<=8:=by unfold Wz;decide+kernel
 have c2:Wz (Pp "first")/\58 ∉ (Pp "first").cps.toList/\(Pp "first").length<=8:=by unfold Wz;decide+kernel
 have c3:Wz (Pp "last")/\58 ∉ (Pp "last").cps.toList/\(Pp "last").length<=8:=by unfold Wz;decide+kernel
 cases h with
 | coming=>exact⟨by simp [kl],λz hz=>by rw [kl,Q9] at hz;rw [hz];exact c1⟩
 | first hn=>
  refine⟨by simp [kl],λz hz=>?_⟩;simp only [kl,Pz,PV,or_false] at hz;rcases hz with rfl | rfl
  ·exact c2
  ·exact⟨nX hn,FN hn,hn.hi⟩
 | last hn=>
  refine⟨by simp [kl],λz hz=>?_⟩;simp only [kl,Pz,PV,or_false] at hz;rcases hz with rfl | rfl
  ·exact c3
  ·exact⟨nX hn,FN hn,hn.hi⟩
theorem BI(c:Nat):∀ps:List (List Nat),(lI c ps).length<=(ps.map Tb).sum+ps.length
 | []=>Rt _
 | [p]=>by show p.length<=_;simp
 | p::q::r=>by
  have ih:=BI c (q::r);show(p++c::lI c (q::r)).length<=_;rw [Ra,Pu,Pw,R8,Pu];omega
theorem NS{s:Wr}(h:lR s):Wz (Txt.join (Pp ":") (kl s)):=by
 obtain⟨_,hw⟩:=BH h;have hl:(kl s).length<=2:=by cases h <;> simp [kl]
 rw [rS];have e:(Txt.join ⟨#[58]⟩ (kl s)).cps.toList=lI 58 ((kl s).map λp=>p.cps.toList):=by
  rw [show Txt.join ⟨#[58]⟩ (kl s)=SJ ⟨#[58]⟩ (kl s) from RS _ _,qx]
 refine⟨?_,λc hc=>?_⟩
 ·show(Txt.join ⟨#[58]⟩ (kl s)).cps.size<=20;rw [<-PY,e];refine Qt (BI _ _) ?_;rw [Rb,PB];have:∀l:List Str,(∀z∈l,z.length<=8)->(l.map (Tb ∘ λp:Str=>p.cps.toList)).sum<=8*l.length:=λl=>by
   induction l with
   | nil=>simp
   | cons a l ih=>
    intro hh;have h1:=ih λz hz=>hh z (by simp [hz]);have h2:a.cps.toList.length<=8:=by rw [PY];exact hh a Wq
    rw [Pw,R8,Pu];show a.cps.toList.length+_<=_;omega
  have:=this (kl s) λz hz=>(hw z hz).2.2;omega
 ·rw [e] at hc;rcases tZ hc with z | ⟨p,hp,z⟩
  ·rw [z];decide
  ·obtain⟨q,hq,rfl⟩:=QG.mp hp;exact(hw q hq).1.2 c z
theorem lits_wz:∀z∈(["keep","gone","while","follow","leave","days","months","years","paper","kind","happens","rule","end","lift","hold","deep"]:List Str),Wz z:=by unfold Wz;decide+kernel
theorem NT{p:Wr}(h:me p):(lV p).length<=5/\∀z∈lV p,Wz z:=by
 cases h with
 | wfl hw hk=>
  refine⟨by simp [lV],λz hz=>?_⟩;simp only [lV,Pz,PV,or_false] at hz hw;rcases hz with rfl | rfl
  ·rcases hw with rfl | rfl | rfl <;> exact lits_wz _ Wq
  ·exact nX hk
 | kg hw hk hs h0 h1 hu=>
  refine⟨by simp [lV],λz hz=>?_⟩;simp only [lV,units,Pz,PV,or_false] at hz hw hu;rcases hz with rfl | rfl | rfl | rfl | rfl
  ·rcases hw with rfl | rfl <;> exact lits_wz _ Wq
  ·exact nX hk
  ·exact NS hs
  ·exact FO h0 h1
  ·rcases hu with rfl | rfl | rfl <;> exact lits_wz _ Wq
theorem t6{d:Wr}(h:bo d):(kE d).length<=8/\∀z∈kE d,Wz z:=by
 have key:∀{w:Str}{n:Int}{x:Str}{ws:List Str},Wz w->lu n->Nm x->ws.length<=5->(∀z∈ws,Wz z)->(w::kr n::x::ws).length<=8/\∀z∈w::kr n::x::ws,Wz z:=λhw hn hx hl hz=>by
  refine⟨by simp only [Pu];omega,λz hz'=>?_⟩;rcases Pz.mp hz' with rfl | hz'
  ·exact hw
  ·rcases Pz.mp hz' with rfl | hz'
   ·exact NP hn
   ·rcases Pz.mp hz' with rfl | hz'
    ·exact nX hx
    ·exact hz z hz'
 cases h with
 | @paper n x k ms hn hx hk hm=>
  have e:kE (.tuple [.str "paper",.int n,.str x,.str k,.tuple (ms.map .str)])=Pp "paper"::kr n::x::k::ms:=by
   show Pp "paper"::kr n::x::k::pM (.tuple (ms.map .str))=_;rw [rR]
  rw [e];have:=hm.len;refine key (lits_wz _ Wq) hn hx (by rw [Pu];omega) λz hz=>?_;rcases Pz.mp hz with rfl | hz
  ·exact nX hk
  ·exact nX (hm.nm z hz)
 | two hw hn hx hy=>
  simp only [Pz,PV,or_false] at hw;refine key (ws:=[_]) (by rcases hw with rfl | rfl <;> exact lits_wz _ Wq) hn hx Wq λz hz=>?_;rw [Q9] at hz;rw [hz];exact nX hy
 | rule hn hx hp=>
  have hr:=NT hp;cases hp <;> exact key (lits_wz _ Wq) hn hx hr.1 hr.2
 | one hw hn hx=>
  simp only [Pz,PV,or_false] at hw;exact key (ws:=[]) (by rcases hw with rfl | rfl <;> exact lits_wz _ Wq) hn hx Wq λz hz=>by cases hz
 | @hold n x g y b hn hx hg hy=>
  simp only [Pz,PV,or_false] at hg;have wg:Wz g:=by rcases hg with rfl | rfl <;> exact lits_wz _ Wq
  refine key (ws:=[g,y]++if b=true then [Pp "deep"] else []) (lits_wz _ Wq) hn hx (by cases b <;> simp) λz hz=>?_;cases b
  ·simp only [PX,Pz,PV,or_false,PZ,if_false] at hz;rcases hz with rfl | rfl
   ·exact wg
   ·exact nX hy
  ·simp only [if_true,P7,P2,Pz,PV,or_false] at hz;rcases hz with rfl | rfl | rfl
   ·exact wg
   ·exact nX hy
   ·exact lits_wz _ Wq
theorem vT:∀{ws:List Str},(∀z∈ws,Wz z)->(ws.map (λx:Str=>x.length)).sum<=20*ws.length
 | [],_=>by simp
 | a::l,h=>by
  have ih:=vT (ws:=l) λz hz=>h z (by simp [hz]);have:=(h a Wq).1;rw [Pw,R8,Pu];omega
theorem t8{d:Wr}(h:bo d):QM (bb d)=true/\(bb d).length<=200:=by
 obtain⟨hl,hw⟩:=t6 h;have e:(bb d).cps.toList=lI 32 ((kE d).map λp=>p.cps.toList):=by
  unfold bb;rw [pN,show Txt.join ⟨#[32]⟩ (kE d)=SJ ⟨#[32]⟩ (kE d) from RS _ _,qx]
 refine⟨nP.mpr λc hc=>?_,?_⟩
 ·rw [e] at hc;rcases tZ hc with z | ⟨p,hp,z⟩
  ·rw [z];decide
  ·obtain⟨q,hq,rfl⟩:=QG.mp hp;exact Vh (hw q hq |>.2 c z).2 tx
 ·show(bb d).cps.size<=200;rw [<-PY,e];refine Qt (BI _ _) ?_;rw [Rb,PB];have sm:=vT hw;have e2:(kE d).map (Tb ∘ λp:Str=>p.cps.toList)=(kE d).map λx:Str=>x.length:=TU λz _=>PY;rw [e2];omega
def NU:List Wr->(Wr->Prop)->Prop:=λds Q=>∃d,ds=[d]/\bo d/\Q (.str (bb d))
theorem FP(T:Txt K mg t):aF P w K mg base CX0 6 t.a_a t.d_a ["deed"] (bg K NU):=by
 have G_L:=@Nd P w _ _ base _ T;have G_Z:=@NN P w _ _ base _ T;refine T.F_a.F.okD ME (λds Q h=>?_) (λ_ _ _ _ H O ds Q E hr h=>?_)
 ·obtain⟨d,rfl,_⟩:=h;rfl
 ·obtain⟨d,rfl,hd,q⟩:=h;refine'⟨_,?A,?B⟩
  case A=>
   refine' ak ?C
   case' C=>generalize hG2:VV _ _ _ _=eg2
   refine' ax ?D
   case' D=>subst hG2
   exact(mG aw (df (fe (lq (df (fe (bw (aa (aj aI aK (dv 0) ae) (aa (ar G_L hr T.F_L (aa (aj aI aK (dv 0) ae) ah)) (aa (aj aI aK (dv 0) ae) ah)))))) (df (ar G_Z hr T.F_Z (aa (aj aI aK (dv 0) ae) (aa (tq (df (dv 0)) (bP ae) kj) ah))))))))
  case B=>
  clear hr T G_L G_Z;have hw:=t6 hd;obtain⟨w,n,x,r,rfl,hn⟩:=oS hd;walk_at "a";have sm:=vT hw.2;have hl:=hw.1;have e:kE (.tuple (.str w:: .int n:: .str x::r))=w::kr n::x::lW r:=rfl;rw [e] at sm hl;refine⟨n,rfl,hn.1,vR hn,λy m k D=>?_⟩;rw [vP D];refine⟨w,r,n,x,rfl,hd,_,rfl,?_,w::kr n::x::lW r,rfl,?_,q⟩
  ·rw [PB];simp only [Pu] at hl;omega
  ·rw [tY];omega
local macro_rules | `(tactic| walk_at "d") =>rzT "ui wD wH wG wF qN nh n9 tC pY wR rI mO rU wV wX oZ uu tB wk wm wq wz wA wB wC sN sM uy sO xK xM sA qL sr wJ wK CK CL CM CN CO CP CQ CS cu cK cw L2.start Pw Qc Pu P1 PH P7 P2 PX QD QE QO QK QP PR PM P8 P9 P0 exists_eq_left' exists_eq_left exists_and_left exists_and_right V.int.injEq V.bl.injEq V.str.injEq V.ref.injEq PK and_true true_and QQ exists_const decide_eq_true_eq QR QS QI QJ P5 decide_eq_false_iff_not and_assoc bF Qn Qh Qo L2.cxK L2.cmK or_true true_or uw if_true if_false PZ Qb not_true_eq_false not_false_eq_true QL QA ite_true ite_false eq_self L2.E0 exists_eq forall_eq'"
def kY(z:Str):Wr:=match mf z with
 | some k=>.int k
 | none=>.none
def NV:List Wr->(Wr->Prop)->Prop:=λds Q=>∃z:Str,ds=[.str z]/\z.length<=1000/\Q (kY z)
theorem NW(T:Txt K mg t):aF P w K mg base CX0 5 t.a_d t.d_d ["word"] (bg K NV):=by
 have G_N:=@Ni P w _ _ base _ T;refine T.F_d.F.ok MH (λvs H Q E h=>?_) (λcdv A outer s H vs Q E hr h=>?_)
 ·obtain⟨O,ds,Qd,_,r,⟨d,rfl,_⟩,_⟩:=h;exact r.length
 ·obtain⟨O,ds,Qd,tr,r,⟨z,rfl,hz,q⟩,k⟩:=h;obtain⟨v,rfl,r1⟩:∃v,vs=[v]/\Dt K H O v (.str z):=by
   cases r with
   | cons r1 r2=>cases r2;exact⟨_,rfl,r1⟩
  refine'⟨_,?A,?B⟩
  case A=>
   refine' kz ?C
   case C=>exact(Mj (C:=t.u_NoText) G_N (hr.mono tx) rfl T.F_N.m T.F_N.kp T.F_N.b (λE'=>(aQ (pv 0) bJ)) rfl rfl T.c_NoText rfl T.xm_NoText.seen T.xm_NoText.seen tx T.i_NoText_NoText (λe=>(kz (kQ pV))))
  case B=>
  walk_at "d";have ha:Fx (.str z):=And.intro (λx h=>by cases h) (λy h=>by cases h;exact hz);refine⟨_,rfl,O,[.str z],λx=>x=kY z,λn=>mf z=none,tr,.cons r1 .nil,⟨_,rfl,ha,λk hk=>?_,λh=>h⟩,?_,?_⟩
  ·unfold kY;rw [show mf z=some k from hk]
  ·rintro x v2 H2 rfl s2 r2;exact k _ _ _ q s2 r2
  ·rintro n hn dd H2 s2 hdd;refine⟨rfl,λe he=>?_⟩;walk_at "d";have e0:kY z= .none:=by unfold kY;rw [hn]
   rw [e0] at q;exact k _ _ _ q (s2.trans (aq.new he)) .non
def BJ(a:Nat):List Nat:=[48+a]
def BK(a:Nat):List Nat:=[48+a / 100,48+a / 10 % 10,48+a % 10]
theorem NX:∀m:Fin 10,intText? ⟨(BJ m.val).toArray⟩=some (m.val:Int):=td
theorem NY:∀m:Fin 1000,intText? ⟨(BK m.val).toArray⟩=some (m.val:Int):=td
theorem BL{z:Str}{k:Int}(h:bK z k=true)(h1:1<=k)(h3:k<=3):∃y:Nat,y < 1000/\intText? z=some (y:Int):=by
 unfold bK at h;rw [P6,decide_eq_true_eq,Rh] at h;obtain⟨hl,hm⟩:=h;have hz:z.cps.toList.length=1\/z.cps.toList.length=2\/z.cps.toList.length=3:=by rw [show z.cps.toList.length=z.length from PY];omega
 have fm:∀x∈z.cps.toList,48<=x/\x < 58:=λx hx=>tV (by simpa using hm x hx)
 match e:z.cps.toList with
 | [a]=>
  have ha:=fm a (by rw [e];simp);have e1:[a]=BJ (a - 48):=by unfold BJ;rw [PK];exact⟨Ce,rfl⟩
  exact⟨a - 48,Ce,by rw [pL e,e1];exact NX ⟨a - 48,Ce⟩⟩
 | [a,b]=>
  have ha:=fm a (by rw [e];simp);have hb:=fm b (by rw [e];simp);have e1:[a,b]=d2 ((a - 48)*10+(b - 48)):=by unfold d2;rw [PK,PK];exact⟨Ce,Ce,rfl⟩
  exact⟨(a - 48)*10+(b - 48),Ce,by rw [pL e,e1];exact rC ⟨_,Ce⟩⟩
 | [a,b,c]=>
  have ha:=fm a (by rw [e];simp);have hb:=fm b (by rw [e];simp);have hc:=fm c (by rw [e];simp);have e1:[a,b,c]=BK ((a - 48)*100+(b - 48)*10+(c - 48)):=by unfold BK;rw [PK,PK,PK];exact⟨Ce,Ce,Ce,rfl⟩
  exact⟨(a - 48)*100+(b - 48)*10+(c - 48),Ce,by rw [pL e,e1];exact NY ⟨_,Ce⟩⟩
 | []=>rw [e] at hz;simp at hz
 | _::_::_::_::r=>rw [e] at hz;simp at hz
def ua(z:Str):Prop:=1<=z.length/\z.length<=3/\bK z (z.length:Int)=true/\¬(1 < z.length/\z.cps.toList.headD 48=48)
instance {z:Str}:Decidable (ua z):=by unfold ua;infer_instance
def nY(z:Str):Wr:=if ua z then .int (nv z) else .none
def NZ:List Wr->(Wr->Prop)->Prop:=λds Q=>∃z:Str,ds=[.str z,.int 3]/\z.length<=1000/\Q (nY z)
theorem N0(T:Txt K mg t):aF P w K mg base CX0 2 t.a_c t.d_c ["word","figures"] (bg K NZ):=by
 have G_M:=@Fp P w _ _ base _ T;refine T.F_c.F.okD MG (λds Q h=>?_) (λ_ _ _ _ H O ds Q E hr h=>?_)
 ·obtain⟨m,rfl,_⟩:=h;rfl
 ·obtain⟨z,rfl,hz,q⟩:=h;refine'⟨_,?A,?B⟩
  case A=>
   refine' ai ?C ?D
   case C=>
    refine' aH ?E ?F aG
    case E=>exact(PW.pt (kc (ki (pw kn kn bX bX (df ae) (df (PE.imp (aR oq rfl T.n_len Qj (aA (dv 0) aB)) (aE oH))) (df (dv 1)))) (kF (ki (bV (ar G_M hr T.F_M (aa (dv 0) (aa (PE.imp (aR oq rfl T.n_len Qj (aA (dv 0) aB)) (aE oH)) ah))))))))
    case F=>refine' ak (ax kh)
   case' D=>refine' ak ?G
   case' G=>refine' ax ?H
   case H=>exact(uI (PW.pt (kG (aD pd bX (PE.imp (aR oq rfl T.n_len Qj (aA (dv 0) aB)) (aE oH)) ae (av _)) (lF (aD (cI hr) cJ (aj xS y8 (dv 0) ae) aw (av _))))) kh (PE.imp (cf rk rfl T.n_int ni (aA (dv 0) aB)) (aE rz)))
  case B=>
  clear hr T G_M;simp only [Fq,true_and,↓jg,↓jq,↓jr,↓jt,↓ju,↓jv,↓jw,↓jh,↓fE,↓iN,↓jW,↓jX,↓jY,↓jZ,↓j3,↓j5,↓iO,↓iP,↓iQ,↓iR,↓iS,↓iT,↓iU,↓iV,↓iW,↓iX,↓iY,↓iZ,↓i3,↓i4,↓i5,↓i6,↓i7,↓i8,↓i9,↓ja,↓jb,↓jd,↓je,↓jf,dE,dF,dH,dG,fV,fW,cT,dJ,dM,dR,dS,gc,di,dC,bE,dI,d3,d6,d7,gk,d8,cy,eQ,eO,eg,d9,dL,cU,dj,fR,cR,cL,bS,dm,dn,dz,dA,fT,dB,dD,cM,cN,fU,gO,gQ,gR,gS,gT,gU,gW,gX,gY,gZ,g6,g9,hG,hJ,hV,hW,hX,hZ,h7,ic,ie,ig,ij,ik,il,ip,iq,iu,iw,ix,iy,iz,iA,iB,iC,iD,iE,iF,iG,iH,iI,iJ,iK,gP,eF,gj,eR,cY,gp,gm,ei,eD,eG,eJ,eL,eM,eN,cW,eT,eV,eX,cj,gf,gh,gi,dU,dW,fX,fY,dX,fZ,dY,gb,fv,fy,fz,gL,gM,gK,gN,fk,fq,ft,fu,cz,fx,fw,fh,fj,fA,fB,fC,fD,cE,iL,iM,jj,ji,jk,jl,jm,jn,jo,fF,fG,jA,jy,jz,jx,jF,jB,jC,jD,jE,cZ,fH,jJ,jK,jG,jH,jI,jL,jM,jN,fJ,jO,jP,fK,jR,fL,jS,jT,jU,jQ,jV,fM,fN,fO,fP,j6,j7,j8,fQ,cq,gB,gC,gD,gE,gF,gG,gH,gI,gJ,ne_eq,bU,gx,gy,gz,gA,gr,gs,gu,cO,cV,dZ,dN,dQ,dP,dO,bT,bZ,bx,cu,cK,cw,Pw,Qc,Pu,P1,PH,P7,P2,PX,QD,QE,QO,QK,QP,PR,PM,Qh,P8,P9,P0,exists_eq_left',exists_eq_left,exists_and_left,exists_and_right,Qn,Qo,Sl.v.injEq,Sl.o.injEq,Sl.k.injEq,Qs,Qp,Qu,Qi,Qq,PK,and_true,true_and,QQ,Qv,exists_const,decide_eq_true_eq,QR,QS,QI,QJ,P5,decide_eq_false_iff_not,and_assoc,or_true,true_or,↓reduceIte,if_true,if_false,PZ,Qb,not_true_eq_false,not_false_eq_true,QL,QA,ite_true,ite_false,eq_self,exists_eq,reduceCtorEq,false_and,and_false,or_false,false_or,exists_false,Qw,Qz,cH,QH,QU,QC,QV,P4,QB,Qg,QN,aX,bA,b0,cX,eY,bj,cP,fg,beq_self_eq_true,eZ,ff,gn,aV,WI];have hl:z.cps.toList.length=z.length:=PY;have no:¬ua z->Q .none:=λh=>by unfold nY at q;rw [Wm h] at q;exact q
  refine⟨Ce,?_⟩;split
  ·rename_i h1;split
   ·rename_i h2;exact no λh=>by have:=h.2.1;omega
   ·rename_i h2;refine⟨Ce,Ce,?_⟩;by_cases hf:bK z (z.length:Int)=true
    ·rw [Wm (by rw [hf];decide)];refine⟨Ce,?_⟩;obtain⟨y,y1,y2⟩:=BL hf h1 Ce;have fin:¬(1 < z.length/\z.cps.toList.headD 48=48)->∃x,intText? z=some x/\z.length<=640/\Q (.int x):=λh=>by
      have g:ua z:=⟨Ce,Ce,hf,h⟩;unfold nY at q;rw [Wn g] at q;exact⟨_,y2,Ce,by unfold nv at q;rw [y2] at q;exact q⟩
     split
     ·rename_i h3;refine⟨Ce,?_⟩
      match e:z.cps.toList with
      | []=>rw [e] at hl;simp at hl;omega
      | c::r=>
       refine⟨c,aX,?_⟩;by_cases hc:c=48
       ·rw [Wn (by rw [hc];decide+kernel)];exact no λh=>h.2.2.2 ⟨Ce,by rw [e,hc];rfl⟩
       ·rw [Wm λz=>hc (by
         have z:=eq_of_beq z;rw [show Pp "0"=⟨#[48]⟩ by decide+kernel] at z;simpa using z)]
        exact fin λh=>hc (by have:=h.2;rw [e] at this;exact this)
     ·rename_i h3;exact fin λh=>h3 Ce
    ·rw [Wn (by simpa using hf)];exact no λh=>hf h.2.2.1
  ·rename_i h1;exact no λh=>by have:=h.1;omega
theorem FQ{xs:List Wr}{k:Nat}:bz xs none (some (k:Int))=xs.take k:=by
 by_cases h:k<=xs.length
 ·rw [qm Ce Ce,Q7]
 ·unfold bz;have e:HT.sIx xs.length xs.length (some (k:Int))=xs.length:=by
   simp only [HT.sIx];rw [Wm Ce,Q7];omega
  rw [p7,UM,V6,e,RH (PL _),RH Ce]
theorem N1{xs:List Wr}{k:Nat}:bz xs (some (k:Int)) none=xs.drop k:=by
 by_cases h:k<=xs.length
 ·rw [qo Ce Ce,Q7]
 ·unfold bz;have e:HT.sIx xs.length 0 (some (k:Int))=xs.length:=by
   simp only [HT.sIx];rw [Wm Ce,Q7];omega
  rw [e,RI (PL _),RI Ce,U4]
theorem vU{ws:List Str}{k:Nat}:bz (ws.map Pr) none (some (k:Int))=(ws.take k).map .str:=by rw [FQ,Ta]
theorem pO{ws:List Str}{k:Nat}:bz (ws.map Pr) (some (k:Int)) none=(ws.drop k).map .str:=by rw [N1,Ub]
theorem FT:∀{ws:List Str},(∀z∈ws,QM z=true)->Q4 (ws.map .str)=true/\Rv (ws.map .str)=0
 | [],_=>⟨rfl,rfl⟩
 | z::r,h=>by
  obtain⟨a,b⟩:=FT (ws:=r) λy hy=>h y (by simp [hy]);rw [Pw,Q4,Rv,a,b,QW,h z Wq];exact⟨rfl,rfl⟩
theorem pP{ws:List Str}(h:∀z∈ws,QM z=true):PD (.list (ws.map .str))=true/\PD (.tuple (ws.map .str))=true:=by
 obtain⟨a,b⟩:=FT h;unfold PD;rw [QW,QW,Si,Si,a,b];exact⟨rfl,rfl⟩
theorem vV:∀{a b:List Str},Rc (a.map .str) (b.map .str)=decide (a=b)
 | [],[]=>by simp [Rc]
 | [],_::_=>by simp [Rc]
 | _::_,[]=>by simp [Rc]
 | x::a,y::b=>by
  rw [Pw,Pw,Rc,bj,vV,RM];simp
def lD(ws:List Str):List Wr:=ws.map .str
def rT:List Str->Wr
 | [a,b,c,d,e]=>.tuple [.str a,.str b,.tuple (lD (Txt.split c (Pp ":"))),nY d,.str e]
 | ws=>.tuple (lD ws)
def N2:List Wr->(Wr->Prop)->Prop:=λds Q=>∃ws:List Str,ds=[.list (lD ws)]/\ws.length<=1002/\(∀z∈ws,z.length<=1000)/\Q (rT ws)
theorem N3(T:Txt K mg t):aF P w K mg base CX0 3 t.a_e t.d_e ["words"] (bg K N2):=by
 have G_c:=@N0 P w _ _ base _ T;refine T.F_e.F.okD MI (λds Q h=>?_) (λ_ _ _ _ H O ds Q E hr h=>?_)
 ·obtain⟨p,rfl,_⟩:=h;rfl
 ·obtain⟨ws,rfl,hl,hw,q⟩:=h;refine'⟨_,?A,?B⟩
  case A=>
   refine' ai ?C ?D
   case C=>
    refine' aH ?E ?F aG
    case E=>exact(aD (mE hr.units) mF (PE.imp (aR ke rfl T.n_len Qj (aA (dv 0) aB)) (aE ko)) ae (av _))
    case' F=>refine' ak ?G
    case G=>exact(ax (PE.imp (cf lZ rfl T.n_tuple k6 (aA (dv 0) aB)) (aE l8)))
   case' D=>refine' ak ?H
   case' H=>generalize hG6:Expr.Tuple _ _ _=eg6
   refine' ax ?I
   case' I=>subst hG6
   refine' bD ?J
   case' J=>refine' aa ?K ?L
   case K=>exact(aj aO aP (dv 0) ae)
   case' L=>refine' aa ?M ?N
   case M=>exact(aj aO aP (dv 0) ae)
   case' N=>refine' aa ?O ?P
   case O=>exact(PE.imp (cf lZ rfl T.n_tuple k6 (aA (fe (oO (aj aO aP (dv 0) ae) aw)) aB)) (aE l8))
   case' P=>refine' aa ?Q ?R
   case Q=>exact(ar G_c hr T.F_c (aa (aj aO aP (dv 0) ae) (aa (dc (km rfl T.c_MANY_FIGURES T.r_MANY_FIGURES) (λ_ _=>.int _)) ah)))
   case' R=>refine' aa ?S ah
   case S=>exact(aj aO aP (dv 0) ae)
  case B=>
  clear hr T G_c;unfold lD;walk_at "a"
  match ws,hl,hw,q with
  | [a,b,c,d,e],hl,hw,q=>
   rw [Wm Wq];simp only [true_and,and_true,↓jg,↓jq,↓jr,↓jt,↓ju,↓jv,↓jw,↓jh,↓fE,↓iN,↓jW,↓jX,↓jY,↓jZ,↓j3,↓j5,↓iO,↓iP,↓iQ,↓iR,↓iS,↓iT,↓iU,↓iV,↓iW,↓iX,↓iY,↓iZ,↓i3,↓i4,↓i5,↓i6,↓i7,↓i8,↓i9,↓ja,↓jb,↓jd,↓je,↓jf,dE,dF,dH,dG,fV,fW,cT,dJ,dM,dR,dS,gc,di,dC,bE,dI,d3,d6,d7,gk,d8,cy,eQ,eO,eg,d9,dL,cU,dj,fR,cR,cL,bS,dm,dn,dz,dA,fT,dB,dD,cM,cN,fU,gO,gQ,gR,gS,gT,gU,gW,gX,gY,gZ,g6,g9,hG,hJ,hV,hW,hX,hZ,h7,ic,ie,ig,ij,ik,il,ip,iq,iu,iw,ix,iy,iz,iA,iB,iC,iD,iE,iF,iG,iH,iI,iJ,iK,gP,eF,gj,eR,cY,gp,gm,ei,eD,eG,eJ,eL,eM,eN,cW,eT,eV,eX,cj,gf,gh,gi,dU,dW,fX,fY,dX,fZ,dY,gb,fv,fy,fz,gL,gM,gK,gN,fk,fq,ft,fu,cz,fx,fw,fh,fj,fA,fB,fC,fD,cE,iL,iM,jj,ji,jk,jl,jm,jn,jo,fF,fG,jA,jy,jz,jx,jF,jB,jC,jD,jE,cZ,fH,jJ,jK,jG,jH,jI,jL,jM,jN,fJ,jO,jP,fK,jR,fL,jS,jT,jU,jQ,jV,fM,fN,fO,fP,j6,j7,j8,fQ,cq,gB,gC,gD,gE,gF,gG,gH,gI,gJ,ne_eq,bU,gx,gy,gz,gA,gr,gs,gu,cO,cV,dZ,dN,dQ,dP,dO,bT,bZ,bx,cu,cK,cw,Pw,Qc,Pu,P1,PH,P7,P2,PX,QD,QE,QO,QK,QP,PR,PM,Qh,P8,P9,P0,exists_eq_left',exists_eq_left,exists_and_left,exists_and_right,Qn,Qo,Sl.v.injEq,Sl.o.injEq,Sl.k.injEq,Qs,Qp,Qu,Qi,Qq,PK,and_true,true_and,QQ,Qv,exists_const,decide_eq_true_eq,QR,QS,QI,QJ,P5,decide_eq_false_iff_not,and_assoc,or_true,true_or,↓reduceIte,if_true,if_false,PZ,Qb,not_true_eq_false,not_false_eq_true,QL,QA,ite_true,ite_false,eq_self,exists_eq,reduceCtorEq,false_and,and_false,or_false,false_or,exists_false,Qw,Qz,cH,QH,QU,QC,QV,P4,QB,Qg,QN,aX,bA,b0,cX,eY,bj,cP,fg,beq_self_eq_true,eZ,ff,gn,aV,WI];have hc:=hw c Wq;have hd:=hw d Wq;exact⟨td,Ce,d,rfl,hd,q⟩
  | [],_,_,q=>rw [Wn Wq];exact q
  | [_],_,_,q=>rw [Wn Wq];exact q
  | [_,_],_,_,q=>rw [Wn Wq];exact q
  | [_,_,_],_,_,q=>rw [Wn Wq];exact q
  | [_,_,_,_],_,_,q=>rw [Wn Wq];exact q
  | _::_::_::_::_::_::r,_,_,q=>rw [Wn (by simp;omega)];exact q
def mY(w:Str)(ws:List Str):List Wr:=
 if w="paper" then lD (ws.take 1)++[.tuple (lD (ws.drop 1))]
 else if w="rule" then [rT ws]
 else if w="hold" then [.tuple (lD (ws.take 2)),.bool (decide (ws.drop 2=[Pp "deep"]))]
 else lD ws
def N4:List Wr->(Wr->Prop)->Prop:=λds Q=>∃(w:Str)(ws:List Str),ds=[.str w,.list (lD ws)]/\ws.length<=1002/\(∀z∈ws,z.length<=1000/\QM z=true)/\Q (.tuple (mY w ws))
theorem N5(T:Txt K mg t):aF P w K mg base CX0 4 t.a_f t.d_f ["word","words"] (bg K N4):=by
 have G_e:=@N3 P w _ _ base _ T;refine T.F_f.F.okD MJ (λds Q h=>?_) (λ_ _ _ _ H O ds Q E hr h=>?_)
 ·obtain⟨w,ws,rfl,_⟩:=h;rfl
 ·obtain⟨w,ws,rfl,hl,hw,q⟩:=h;refine'⟨_,?A,?B⟩
  case A=>
   refine' ai ?C ?D
   case C=>
    refine' aH ?E ?F aG
    case E=>exact(aD (cI hr) cJ (dv 0) aw (av _))
    case' F=>refine' ak ?G
    case' G=>refine' ax ?H
    case' H=>refine' aS nR nS ?I ?J
    case I=>exact(PE.imp (cf lZ rfl T.n_tuple k6 (aA (fe (kB (df (dv 1)) kj (bP ae))) aB)) (aE l8))
    case J=>exact(bD (aa (PE.imp (cf lZ rfl T.n_tuple k6 (aA (fe (kB (df (dv 1)) (bP ae) kj)) aB)) (aE l8)) ah))
   case' D=>refine' ai ?K ?L
   case K=>
    refine' aH ?M ?N aG
    case M=>exact(aD (cI hr) cJ (dv 0) aw (av _))
    case' N=>refine' ak ?O
    case O=>exact(ax (bD (aa (ar G_e hr T.F_e (aa (dv 1) ah)) ah)))
   case' L=>refine' ai ?P ?Q
   case P=>
    refine' aH ?R ?S aG
    case R=>exact(aD (cI hr) cJ (dv 0) aw (av _))
    case' S=>refine' ak ?T
    case' T=>refine' ax ?U
    case' U=>refine' bD ?V
    case' V=>refine' aa ?W ?X
    case W=>exact(PE.imp (cf lZ rfl T.n_tuple k6 (aA (fe (kB (df (dv 1)) kj (bP ae))) aB)) (aE l8))
    case' X=>refine' aa ?Y ah
    case Y=>exact(fS (ck hr.units) cn (df (fe (kB (df (dv 1)) (bP ae) kj))) (df (fe (bw (aa aw ah)))) (av _))
   case' Q=>refine' ak ?Z
   case Z=>exact(ax (PE.imp (cf lZ rfl T.n_tuple k6 (aA (dv 1) aB)) (aE l8)))
  case B=>
  clear hr T G_e;unfold lD;walk_at "a";have t1:bz (ws.map Pr) none (some 1)=(ws.take 1).map .str:=vU (k:=1);have t2:bz (ws.map Pr) none (some 2)=(ws.take 2).map .str:=vU (k:=2);have d1:bz (ws.map Pr) (some 1) none=(ws.drop 1).map .str:=pO (k:=1);have d2:bz (ws.map Pr) (some 2) none=(ws.drop 2).map .str:=pO (k:=2);rw [t1,t2,d1,d2];unfold mY lD at q;have bq:∀{u v:Str},(u==v)=true↔u=v:=beq_iff_eq;simp only [bq];split
  ·rename_i h;rw [Wn h] at q;exact⟨by rw [PB,Ro];omega,q⟩
  ·rename_i h;rw [Wm h] at q;split
   ·rename_i h2;rw [Wn h2] at q;exact⟨ws,rfl,hl,λz hz=>(hw z hz).1,q⟩
   ·rename_i h2;rw [Wm h2] at q;split
    ·rename_i h3;rw [Wn h3] at q;refine⟨(pP λz hz=>(hw z (RZ hz)).2).1,td,?_⟩;rw [show((Q8 ((ws.drop 2).map .str)).eqv (Q8 [Pr (Pp "deep")]))=decide (ws.drop 2=[Pp "deep"]) by rw [PJ];exact vV (b:=[Pp "deep"])];exact q
    ·rename_i h3;rw [Wm h3] at q;exact q
def uc:List Str->Wr
 | w::b::x::more=>.tuple ([.str w,kY b,.str x]++mY w more)
 | _=>.none
theorem N6(d:Int):∃y m n,lH d y m n:=by
 have yo:=EA d;generalize qw d=y at yo;have key:∀k:Nat,k<=12->d - br y < aL y ((k:Int)+1)->∃mo:Int,1<=mo/\mo<=12/\aL y mo<=d - br y/\d - br y < aL y (mo+1):=λk=>by
  induction k with
  | zero=>intro _ h;rw [show((0:Nat):Int)+1=1 from rfl,rB] at h;omega
  | succ k ih=>
   intro hk h;by_cases z:d - br y < aL y ((k:Int)+1)
   ·exact ih Ce z
   ·exact⟨(k:Int)+1,Ce,Ce,Ce,by rw [show((k+1:Nat):Int)+1=(k:Int)+1+1 by omega] at h;exact h⟩
 have ys:=vd y;have ba:=tM y;obtain⟨mo,m1,m2,h1,h2⟩:=key 12 (PL _) (by rw [show((12:Nat):Int)+1=13 from rfl];omega);have bs:=lx (y:=y) m1;exact⟨y,mo,d - br y - aL y mo+1,m1,m2,Ce,Ce,by unfold lU;omega⟩
theorem FU{n:Int}(h:lu n):mf (kr n)=some n:=by
 obtain⟨y,m,k,D⟩:=N6 n;have hy:=vh D h.1 (vR h);have hb:=rA (y:=y) D.m1 D.m12;have:=D.m1;have:=D.m12;have:=D.n1;have:=D.nl;have e1:=AF (y:=y.toNat) Ce Ce;have e2:=rC ⟨m.toNat,Ce⟩;have e3:=rC ⟨k.toNat,Ce⟩;simp only [SK (show 0<=y by omega),SK (show 0<=m by omega),SK (show 0<=k by omega)] at e1 e2 e3;rw [<-vP D];unfold mf;rw [Le];have v1:nv ⟨(d4 y.toNat).toArray⟩=y:=by unfold nv;rw [e1];rfl
 have v2:nv ⟨(d2 m.toNat).toArray⟩=m:=by unfold nv;rw [e2];rfl
 have v3:nv ⟨(d2 k.toNat).toArray⟩=k:=by unfold nv;rw [e3];rfl
 have en:lU y m k=n:=D.eq;dsimp only;rw [v1,v2,v3,en,Wn ⟨Ng Ce,Fs Ce,Fs Ce,⟨Ce,Ce,Ce,Ce,Ce,Ce⟩,h.2⟩]
theorem N7{n:Int}(h:lu n):kY (kr n)= .int n:=by unfold kY;rw [FU h]
theorem N8{m:Int}(h0:0<=m)(h1:m<=999):nY (ku m)= .int m:=by
 obtain⟨⟨l1,l2⟩,f1,f2,_⟩:=BG h0 h1;have rd:intText? (ku m)=some m:=by
  obtain⟨k,rfl⟩:=Q0 h0;exact UR Ce Ce
 unfold nY;rw [Wn ⟨l2,l1,f1,λh=>f2 h.1 h.2⟩];unfold nv;rw [rd];rfl
theorem N9{p:Wr}(h:me p):rT (lV p)=p:=by
 cases h with
 | wfl hw hk=>rfl
 | kg hw hk hs h0 h1 hu=>
  have hw:=BH hs;show Qx [_,_,.tuple (lD (Txt.split (Txt.join (Pp ":") (kl _)) (Pp ":"))),nY (ku _),_]=_;rw [rS,vS hw.1 λz hz=>(hw.2 z hz).2.1,N8 h0 h1];unfold lD;rw [<-(vQ hs).1]
theorem Oa{w:Str}{n:Int}{x:Str}{r:List Wr}(h:bo (.tuple (.str w:: .int n:: .str x::r))):mY w (lW r)=r:=by
 have nw:∀{u v:Str}{l:List Str},u∈l->(∀z∈l,z≠v)->¬u=v:=λh h2=>h2 _ h;have n1:¬(Pp "rule"=Pp "paper"):=td
 have n2:¬(Pp "hold"=Pp "paper"):=td
 have n3:¬(Pp "hold"=Pp "rule"):=td
 unfold mY;cases h with
 | @paper _ _ k ms _ _ _ hm=>
  have e:lW [Pr k,Qx (QZ Pr ms)]=k::ms:=by
   show k::pM (.tuple (ms.map .str))=_;rw [rR]
  rw [e,Wn rfl];rfl
 | two hw=>rw [Wm (nw hw td),Wm (nw hw td),Wm (nw hw td)];rfl
 | rule _ _ hp=>
  rw [Wm n1,Wn rfl];have e:∀{p:Wr},me p->lW [p]=lV p:=λh=>by cases h <;> rfl
  rw [e hp,N9 hp]
 | one hw=>rw [Wm (nw hw td),Wm (nw hw td),Wm (nw hw td)];rfl
 | @hold _ _ g y b=>
  rw [Wm n2,Wm n3,Wn rfl];have dd:(decide (([]:List Str)=[Pp "deep"]))=false:=td
  have de:(decide (([Pp "deep"]:List Str)=[Pp "deep"]))=true:=td
  cases b
  ·show [_,TF (decide (([]:List Str)=[Pp "deep"]))]=_;rw [dd];rfl
  ·show [_,TF (decide (([Pp "deep"]:List Str)=[Pp "deep"]))]=_;rw [de];rfl
theorem ue{d:Wr}(h:bo d):Txt.split (bb d) (Pp " ")=kE d/\uc (kE d)=d:=by
 have hw:=t6 h;obtain⟨w,n,x,r,rfl,hn⟩:=oS h;constructor
 ·unfold bb;rw [pN];exact vS (by simp [kE]) λz hz=>NO (hw.2 z hz)
 ·show Qx ([.str w,kY (kr n),.str x]++mY w (lW r))=_;rw [N7 hn,Oa h];rfl
theorem uf{c:Nat}{z p:Str}(h:p∈Txt.split z ⟨#[c]⟩):p.length<=z.length:=by
 have h2:p.cps.toList∈kD c z.cps.toList:=by
  rw [<-rE];exact QG.mpr ⟨p,h,rfl⟩
 have:=tX _ h2;have e1:p.cps.toList.length=p.length:=PY;have e2:z.cps.toList.length=z.length:=PY;omega
theorem vW{c:Nat}:∀{l:List Nat},∀p∈kD c l,∀x∈p,x∈l
 | [],p,h,x,hx=>by simp [kD] at h;rw [h] at hx;cases hx
 | a::xs,p,h,x,hx=>by
  unfold kD at h;split at h
  ·rcases Pz.mp h with e | h
   ·rw [e] at hx;cases hx
   ·exact Q2 _ (vW p h x hx)
  ·split at h
   ·rename_i e;exact absurd e (AH c xs)
   ·rename_i q qs e;rcases Pz.mp h with e2 | h
    ·rw [e2] at hx;rcases Pz.mp hx with e3 | hx
     ·rw [e3];simp
     ·exact Q2 _ (vW q (by rw [e];simp) x hx)
    ·exact Q2 _ (vW p (by rw [e];simp [h]) x hx)
theorem ug{c:Nat}{z p:Str}(hz:QM z=true)(h:p∈Txt.split z ⟨#[c]⟩):QM p=true:=by
 have h2:p.cps.toList∈kD c z.cps.toList:=by
  rw [<-rE];exact QG.mpr ⟨p,h,rfl⟩
 exact nP.mpr λx hx=>nP.mp hz x (vW _ h2 x hx)
def qC(z:Str):Prop:=z.length<=1000/\QM z=true
theorem rV:∀{ws:List Str},(∀z∈ws,z.length<=1000)->ma (lD ws)=true
 | [],_=>rfl
 | z::r,h=>by
  show(bB (.str z) && ma (lD r))=true;rw [rV λy hy=>h y (by simp [hy]),P4];show decide (z.length<=1000)=true;exact decide_eq_true (h z Wq)
theorem FV:∀{a b:List Wr},ma a=true->ma b=true->ma (a++b)=true
 | [],_,_,h=>h
 | x::a,b,h,h2=>by
  have h:(bB x && ma a)=true:=h;rw [P6] at h;show(bB x && ma (a++b))=true;rw [h.1,FV h.2 h2];rfl
theorem Ob(z:Str):bB (kY z)=true:=by unfold kY;split <;> rfl
theorem Oc(z:Str):bB (nY z)=true:=by unfold nY;split <;> rfl
theorem rW{l:List Wr}(h:ma l=true):bB (.tuple l)=true:=by simpa [bB] using h
theorem Od{ws:List Str}(h:∀z∈ws,z.length<=1000):bB (rT ws)=true:=by
 unfold rT;split
 ·rename_i a b c d e;have st:∀z∈[a,b,c,d,e],bB (.str z)=true:=λz hz=>decide_eq_true (h z hz);have tc:=rV (ws:=Txt.split c (Pp ":")) λz hz=>by
   rw [rS] at hz;exact Qt (uf hz) (h c Wq)
  refine rW ?_;show(bB (.str a) && (bB (.str b) && (bB (.tuple _) && (bB (nY d) && (bB (.str e) && true)))))=true;rw [st a Wq,st b Wq,st e Wq,Oc,rW tc];rfl
 ·exact rW (rV h)
theorem Oe{w:Str}{ws:List Str}(h:∀z∈ws,z.length<=1000):ma (mY w ws)=true:=by
 have tk:=λk=>rV (ws:=ws.take k) λz hz=>h z (RO hz);have dk:=λk=>rV (ws:=ws.drop k) λz hz=>h z (RZ hz);unfold mY;split
 ·exact FV (tk 1) (by show(bB (.tuple _) && true)=true;rw [rW (dk 1)];rfl)
 ·split
  ·show(bB (rT ws) && true)=true;rw [Od h];rfl
  ·split
   ·show(bB (.tuple _) && (bB (.bool _) && true))=true;rw [rW (tk 2)];rfl
   ·exact rV h
def Of:List Wr->(Wr->Prop)->Prop:=λds Q=>∃z,ds=[.str z]/\qC z/\(∀d,bo d->bb d=z->Q d)/\((∀d,bo d->bb d≠z)->Q .none)
theorem Og(T:Txt K mg t):aF P w K mg base CX0 7 t.a_g t.d_g ["row"] (bg K Of):=by
 have G_d:=@NW P w _ _ base _ T;have G_f:=@N5 P w _ _ base _ T;have G_W:=@Nv P w _ _ base _ T;have G_a:=@FP P w _ _ base _ T;refine T.F_g.F.okD Bx (λds Q h=>?_) (λ_ _ _ _ H O ds Q E hr h=>?_)
 ·obtain⟨d,rfl,_⟩:=h;rfl
 ·obtain⟨z,rfl,hz,q1,q2⟩:=h;refine'⟨_,?A,?B⟩
  case A=>
   refine' ai ?C ?D
   case C=>exact(aW (i:=1) Bx.nd rfl Wo (fe (oO (dv 0) aw)))
   case' D=>refine' ai ?E ?F
   case E=>
    refine' aH ?G ?H aG
    case G=>exact(aD qP bX (PE.imp (aR ke rfl T.n_len Qj (aA (dv 1) aB)) (aE ko)) ae (av _))
    case H=>refine' ak (ax kh)
   case' F=>refine' ai ?I ?J
   case I=>
    generalize hG8:VR _ _ _ _=eg8;refine' aW (i:=2) Bx.nd rfl Wo ?K (hs:=by subst hG8;exact qu)
    case' K=>subst hG8
    refine' aS nR nS ?L ?M
    case L=>
     refine' bD ?N
     case' N=>refine' aa ?O ?P
     case O=>exact(aj aO aP (dv 1) ae)
     case' P=>refine' aa ?Q ?R
     case Q=>exact(ar G_d hr T.F_d (aa (aj aO aP (dv 1) ae) ah))
     case' R=>refine' aa ?S ah
     case S=>exact(aj aO aP (dv 1) ae)
    case M=>exact(ar G_f hr T.F_f (aa (aj aO aP (dv 1) ae) (aa (fe (kB (df (dv 1)) (bP ae) kj)) ah)))
   case' J=>refine' ak ?T
   case' T=>refine' ax ?U
   case U=>exact(uI (PW.pt (kG (bV (ar G_W hr T.F_W (aa (dv 2) ah))) (lF (aD (cI hr) cJ (ar G_a hr T.F_a (aa (dv 2) ah)) (dv 0) (av _))))) (dv 2) kh)
  case B=>
  clear hr T G_d G_f G_W G_a;walk_at "a";have hd:∀d,bo d->bb d=z->uc (Txt.split z (Pp " "))=d:=λd h e=>by
   rw [<-e,(ue h).1];exact(ue h).2
  have hb:∀p∈Txt.split z (Pp " "),p.length<=1000/\QM p=true:=λp hp=>by
   rw [pN] at hp;exact⟨Qt (uf hp) hz.1,ug hz.2 hp⟩
  have hl:(Txt.split z (Pp " ")).length<=1002:=Qt (S4 z _) (by have:=hz.1;omega);refine⟨td,by have:=hz.1;omega,?_⟩;generalize Txt.split z (Pp " ")=ws at*;have few:ws.length < 3->Q .none:=λh=>q2 λd hv e=>by
   have e:=hd d hv e;obtain⟨w,n,x,r,rfl,_⟩:=oS hv
   match ws,h with
   | [],_=>cases e
   | [_],_=>cases e
   | [_,_],_=>cases e
  match ws with
  | []=>rw [Wn Wq];exact few Wq
  | [_]=>rw [Wn Wq];exact few Wq
  | [_,_]=>rw [Wn Wq];exact few Wq
  | w::b::x::more=>
   clear few;rw [Wm (by simp only [PB,Pu];omega)];have ec:bz (QZ Pr (w::b::x::more)) (some 3) none=lD more:=by
    rw [show bz (QZ Pr (w::b::x::more)) (some 3) none=_ from pO (k:=3)];rfl
   rw [ec];have hm:∀z∈more,z.length<=1000/\QM z=true:=λz hz=>hb z (by simp [hz]);have pl:(mY w more).length<=1004:=by
    simp only [Pu] at hl;unfold mY lD;split
    ·rw [Ra,PB,Ro];simp;omega
    ·split
     ·simp
     ·split
      ·simp
      ·rw [PB];omega
   refine⟨.str w,aX,.str b,bA,b,rfl,(hb b Wq).1,.str x,b0,.str w,aX,w,more,rfl,by simp only [Pu] at hl;omega,hm,_,rfl,Ce,?_⟩;have ed:Qx (.str w::kY b:: .str x::mY w more)=uc (w::b::x::more):=rfl;rw [ed];have tg:bB (uc (w::b::x::more))=true:=by
    refine rW ?_;show(bB (.str w) && (bB (kY b) && (bB (.str x) && ma (mY w more))))=true;rw [Ob,Oe λz hz=>(hm z hz).1,show bB (.str w)=true from decide_eq_true (hb w Wq).1,show bB (.str x)=true from decide_eq_true (hb x Wq).1];rfl
   refine⟨_,rfl,tg,_,rfl,?_⟩;generalize uc (w::b::x::more)=d0 at*;by_cases hv:lM d0=true
   ·rw [Wn hv];have hv:=D1.mp hv;refine⟨d0,rfl,hv,rfl,?_⟩;rw [bj];by_cases ee:bb d0=z
    ·rw [Wn (by rw [ee];simp)];exact q1 d0 hv ee
    ·rw [Wm (by simpa using ee)];exact q2 λd h e=>ee (by rw [hd d h e];exact e)
   ·rw [Wm hv];exact q2 λd h e=>hv (by rw [hd d h e];exact D1.mpr h)
end
local macro_rules | `(tactic| walk_at "d") =>rzT "ui wD wH wG wF qN nh n9 tC pY wR rI mO rU wV wX oZ uu tB wk wm wq wz wA wB wC sN sM uy sO xK xM sA qL sr wJ wK CK CL CM CN CO CP CQ CS cu cK cw L2.start Pw Qc Pu P1 PH P7 P2 PX QD QE QO QK QP PR PM P8 P9 P0 exists_eq_left' exists_eq_left exists_and_left exists_and_right V.int.injEq V.bl.injEq V.str.injEq V.ref.injEq PK and_true true_and QQ exists_const decide_eq_true_eq QR QS QI QJ P5 decide_eq_false_iff_not and_assoc bF Qn Qh Qo L2.cxK L2.cmK or_true true_or uw if_true if_false PZ Qb not_true_eq_false not_false_eq_true QL QA ite_true ite_false eq_self L2.E0 exists_eq forall_eq'"
open Day
theorem FW:bO (az vC) ["_law_pack_here","_law_way","_law_year","_law_month","_law_last"] ["_law_k","_law_year"] 1 [2] ⟨Qf,[ (Pt ".0",Ym),(Pt "_law_k",Ym),(Pt "_law_length",Qm),(Pt "_law_year",Rf)],false,false,[]⟩:= .of
section
variable {P:WH} {w:WJ} {K:Pq} {mg:Str->Option Ws} {base:WG} {t:k8}
theorem Oh{y m:Int}(h1:1<=m)(h2:m<=12)(hm:m≠2):atI [PN 31,PN 29,PN 31,PN 30,PN 31,PN 30,PN 31,PN 31,PN 30,PN 31,PN 30,PN 31] (m - 1)=some (.int (bh y m)):=by
 have a:=vf y;rcases AB h1 h2 with z | z | z | z | z | z | z | z | z | z | z | z <;> subst z
 ·rw [a.1];rfl
 ·exact absurd rfl hm
 ·rw [a.2.1];rfl
 ·rw [a.2.2.1];rfl
 ·rw [a.2.2.2.1];rfl
 ·rw [a.2.2.2.2.1];rfl
 ·rw [a.2.2.2.2.2.1];rfl
 ·rw [a.2.2.2.2.2.2.1];rfl
 ·rw [a.2.2.2.2.2.2.2.1];rfl
 ·rw [a.2.2.2.2.2.2.2.2.1];rfl
 ·rw [a.2.2.2.2.2.2.2.2.2.1];rfl
 ·rw [a.2.2.2.2.2.2.2.2.2.2];rfl
theorem FX{y:Int}(h:2000<=y):365*(y - 2000)<=br y:=by unfold br lb;omega
theorem qD(ss:List Str){i:Int}(h0:0<=i)(h1:i < ss.length):∃nm∈ss,atI (ss.map Pr) i=some (.str nm):=by
 obtain⟨v,e,m⟩:=CV (xs:=ss.map Pr) h0 (by rw [PB];exact h1);obtain⟨nm,hn,rfl⟩:=QG.mp m;exact⟨nm,hn,e⟩
theorem Oi:∀m:Fin 100,Txt.slice (Pp (toString (100+(m.val:Int)))) (some 1) none=⟨(d2 m.val).toArray⟩/\(Pp (toString (100+(m.val:Int)))).length=3:=td
theorem FY{m:Int}(h0:0<=m)(h1:m < 100):Txt.slice (Pp (toString (100+m))) (some 1) none=⟨(d2 m.toNat).toArray⟩/\(Pp (toString (100+m))).length=3:=by
 obtain⟨k,rfl⟩:=Q0 h0;exact Oi ⟨k,Ce⟩
theorem FZ{y m n:Int}:Txt.join (Pp "-") [⟨(d4 y.toNat).toArray⟩,⟨(d2 m.toNat).toArray⟩,⟨(d2 n.toNat).toArray⟩]=lC y m n:=by
 have e:Pp "-"=⟨#[45]⟩:=td
 have h:(Txt.join (Pp "-") [⟨(d4 y.toNat).toArray⟩,⟨(d2 m.toNat).toArray⟩,⟨(d2 n.toNat).toArray⟩]).cps.toList=(lC y m n).cps.toList:=by
  rw [e,show Txt.join ⟨#[45]⟩ [⟨(d4 y.toNat).toArray⟩,⟨(d2 m.toNat).toArray⟩,⟨(d2 n.toNat).toArray⟩]=SJ ⟨#[45]⟩ _ from RS _ _,qx];simp [lC,rD,lI]
 have:=BF (a:=[_]) (b:=[_]) (congrArg (λl=>[l]) h);exact(List.cons.inj this).1
def F0:List Wr->(Wr->Prop)->Prop:=λds Q=>∃y m:Int,ds=[.int y,.int m]/\1<=m/\m<=12/\Q (.int (bh y m))
theorem BM(T:Txt K mg t):aF P w K mg base CX0 1 t.a_n t.d_n ["_law_year","_law_month"] (bg K F0):=by
 refine T.F_n.F.okD MM (λds Q h=>?_) (λ_ _ _ _ H O ds Q E hr h=>?_)
 ·obtain⟨y,m,rfl,_⟩:=h;rfl
 ·obtain⟨y,m,rfl,h1,h2,q⟩:=h;refine'⟨_,?A,?B⟩
  case A=>
   refine' ai ?C ?D
   case C=>
    refine' aH ?E ?F aG
    case E=>exact(PW.pt (kG (aD (ck hr.units) cn (dv 1) ae (av _)) (lF (PW.pt (kc (aD (mE hr.units) mF (aS oh mR (dv 0) ae) ae (av _)) (kF (PW.pt (kG (aD (ck hr.units) cn (aS oh mR (dv 0) ae) ae (av _)) (lF (aD (mE hr.units) mF (aS oh mR (dv 0) ae) ae (av _)))))))))))
    case F=>refine' ak (ax ae)
   case' D=>refine' ak ?G
   case' G=>generalize hE6_0:S6 _ _=ee6_0
   exact(ax (aj aO aP (fe (qp (ds:=[.int 31,.int 29,.int 31,.int 30,.int 31,.int 30,.int 31,.int 31,.int 30,.int 31,.int 30,.int 31]) (by first | (subst hE6_0;rfl)))) (aS lg cx (dv 1) ae)))
  case B=>
  clear hr T;walk_at "a";have tb:=Oh (y:=y) h1 h2;by_cases hm:m=2
  ·subst hm;have l1:=Az y;have e2:=AA y;have t29:nG y=true->∃d,atI [PN 31,PN 29,PN 31,PN 30,PN 31,PN 30,PN 31,PN 31,PN 30,PN 31,PN 30,PN 31] (2 - 1)=some d/\Q d:=λh=>⟨.int 29,rfl,by rw [e2] at q;unfold ld at q;rw [h] at q;exact q⟩;have t28:¬nG y=true->Q (.int 28):=λh=>by rw [e2] at q;unfold ld at q;rw [Wm h] at q;exact q
   rw [Wn tx];split
   ·rename_i h4;exact t28 (by rw [l1];simp at h4;omega)
   ·rename_i h4;simp at h4;split
    ·rename_i h5;simp at h5;split
     ·rename_i h6;exact t28 (by rw [l1];simp at h6;omega)
     ·rename_i h6;exact t29 (l1.mpr (by simp at h6;omega))
    ·rename_i h5;exact t29 (l1.mpr (by simp at h5;omega))
  ·rw [Wm (by simpa using hm)];exact⟨_,tb hm,q⟩
def F1:List Wr->(Wr->Prop)->Prop:=λds Q=>∃y:Int,ds=[.int y]/\Q (.int (br y))
theorem BN(T:Txt K mg t):aF P w K mg base CX0 1 t.a_o t.d_o ["_law_year"] (bg K F1):=by
 refine T.F_o.F.okD E2 (λds Q h=>?_) (λ_ _ _ _ H O ds Q E hr h=>?_)
 ·obtain⟨y,rfl,_⟩:=h;rfl
 ·obtain⟨y,rfl,q⟩:=h;refine'⟨_,?A,?B⟩
  case A=>
   refine' ai ?C ?D
   case C=>exact(aW (i:=1) E2.nd rfl Wo (aS lg cx (dv 0) ae))
   case' D=>refine' ak ?E
   case' E=>generalize hG4:VR _ _ _ _=eg4
   refine' ax ?F
   case' F=>subst hG4
   exact(aS cb cx (aS lg cx (aS cb cx (aS qO mR ae (dv 1)) (aS oa mR (aS cb cx (dv 1) ae) ae)) (aS oa mR (aS cb cx (dv 1) ae) ae)) (aS oa mR (aS cb cx (dv 1) ae) ae))
  case B=>
  clear hr T;walk_at "a";have e:365*(y - 2000)+(y - 2000+3)/ 4 - (y - 2000+99)/ 100+(y - 2000+399)/ 400=br y:=by rw [<-La y]
  rw [e];exact q
def Oj:List Wr->(Wr->Prop)->Prop:=λds Q=>∃d:Int,ds=[.int d]/\lu d/\Q (.str (kr d))
theorem Ol(T:Txt K mg t):aF P w K mg base CX0 2 t.a_p t.d_p ["_law_day"] (bg K Oj):=by
 have G_o:=@BN P w _ _ base _ T;have G_n:=@BM P w _ _ base _ T;refine T.F_p.F.okD rL (λds Q h=>?_) (λ_ _ _ _ H O ds Q E hr h=>?_)
 ·obtain⟨d,rfl,_⟩:=h;rfl
 ·obtain⟨d,rfl,hd,q⟩:=h;refine'⟨_,?A,?B⟩
  case A=>
   refine' ai ?C ?D
   case C=>exact(aW (i:=1) rL.nd rfl Wo (aS cb cx ae (aS oa mR (dv 0) ae)))
   case' D=>refine' ai ?E ?F
   case E=>
    refine' Av RN ?G ?H
    case G=>exact(aD kn bX (ar G_o hr T.F_o (aa (aS cb cx (dv 1) ae) ah)) (dv 0) (av _))
    case' H=>refine' ak ?I
    case I=>exact(aW (i:=1) rL.nd rfl Wo (aS cb cx (dv 1) ae))
   case' F=>refine' ai ?J ?K
   case J=>exact(Jj (i:=2) (j:=3) rfl rL.nd rfl rfl tx rfl rfl (aa ae (aa (aS cb cx (aS lg cx (dv 0) (ar G_o hr T.F_o (aa (dv 1) ah))) ae) ah)) (by rfl))
   case' K=>refine' ai ?L ?M
   case L=>
    refine' Av RN ?N ?O
    case N=>exact(aD pd bX (dv 3) (ar G_n hr T.F_n (aa (dv 1) (aa (dv 2) ah))) (av _))
    case' O=>refine' ai ?P ?Q
    case P=>exact(aW (i:=3) rL.nd rfl Wo (aS lg cx (dv 3) (ar G_n hr T.F_n (aa (dv 1) (aa (dv 2) ah)))))
    case' Q=>refine' ak ?R
    case R=>exact(aW (i:=2) rL.nd rfl Wo (aS cb cx (dv 2) ae))
   case' M=>refine' ak ?S
   case' S=>generalize hG16:VV _ _ _ _=eg16
   refine' ax ?T
   case' T=>subst hG16
   exact(mG aw (df (fe (bw (aa (PE.imp (cf oj rfl T.n_str mP (aA (dv 1) aB)) (aE oN)) (aa (uN (df (PE.imp (cf oj rfl T.n_str mP (aA (aS cb cx ae (dv 2)) aB)) (aE oN))) (bP ae) kj) (aa (uN (df (PE.imp (cf oj rfl T.n_str mP (aA (aS cb cx ae (dv 3)) aB)) (aE oN))) (bP ae) kj) ah)))))))
  case B=>
  clear hr T G_o G_n;walk_at "a";have d0:=hd.1;refine⟨λm δ=>∃y:Int,2000<=y/\br y<=d/\m=(2001+d - y).toNat/\δ=[some (Sl.v (PN d)),some (Sl.v (PN y)),none,none],⟨_,_,Ce,Lb d0,rfl,rfl⟩,?_⟩;rintro m δ ⟨y,y0,hy,rfl,rfl⟩;walk_at "a";refine⟨y+1,rfl,?_⟩;walk_at "a";by_cases hc:br (y+1)<=d
  ·rw [Wn hc];have:=FX (y:=y+1) Ce;exact⟨_,Ce,y+1,Ce,hc,rfl,rfl⟩
  ·rw [Wm hc];refine⟨y,rfl,?_⟩;walk_at "a";have ys:=vd y;refine⟨λm δ=>∃mo:Int,1<=mo/\mo<=12/\aL y mo<=d - br y/\m=(12 - mo).toNat/\δ=[some (Sl.v (PN d)),some (Sl.v (PN y)),some (Sl.v (PN mo)),some (Sl.v (PN (d - br y - aL y mo+1)))],⟨11,1,Ce,Ce,by rw [rB];omega,rfl,by rw [rB,Int.sub_zero]⟩,?_⟩;rintro m δ ⟨mo,m1,m2,hb,rfl,rfl⟩;have ba:=vg (y:=y) m1 m2;have bs:=lx (y:=y) m1;walk_at "a";refine⟨y,mo,rfl,m1,m2,?_⟩;walk_at "a";split
   ·rename_i hge;have lt12:mo < 12:=by
     by_cases z:mo < 12
     ·exact z
     ·have e:mo=12:=Ce
      subst e;rw [show(12:Int)+1=13 from rfl] at bs;have:=(tM y);omega
    refine⟨y,mo,rfl,m1,m2,?_⟩;walk_at "a";exact⟨_,Ce,mo+1,Ce,Ce,by rw [bs];omega,rfl,rfl,by rw [bs];omega⟩
   ·rename_i hlt;have D:lH d y mo (d - br y - aL y mo+1):=⟨m1,m2,Ce,Ce,by unfold lU;omega⟩;generalize d - br y - aL y mo+1=n at D⊢;have hyb:=vh D d0 (vR hd);have hb2:=rA (y:=y) m1 m2;have:=D.n1;have:=D.nl;have e1:=vj (y:=y.toNat) Ce Ce;rw [SK Ce] at e1;obtain⟨s1,s2⟩:=FY (m:=mo) Ce Ce;obtain⟨s3,s4⟩:=FY (m:=n) Ce Ce;have lm:(Pp "-").length=1:=td
    refine⟨nW Ce Ce,nW Ce Ce,by rw [s2];decide,nW Ce Ce,by rw [s4];decide,?_,?_⟩
    ·rw [e1,s1,s3,lm];show 4+(2+(2+0))+3*1<=16777216;decide
    ·rw [e1,s1,s3,FZ,vP D];exact q
def F2:List Wr->(Wr->Prop)->Prop:=λds Q=>ds=[mi]/\∀d:Int,lu d->Q (.int d)
theorem Om(T:Txt K mg t):aF P w K mg base CX0 2 t.a_q t.d_q ["_law_pack_here"] (bg K F2):=by
 have G_k:=@qB P w _ _ base _ T;have G_o:=@BN P w _ _ base _ T;have G_n:=@BM P w _ _ base _ T;refine T.F_q.F.okD tS (λds Q h=>?_) (λ_ _ _ _ H O ds Q E hr h=>?_)
 ·obtain⟨rfl,_⟩:=h;rfl
 ·obtain⟨rfl,q⟩:=h;refine'⟨_,?A,?B⟩
  case A=>
   refine' ai ?C ?D
   case C=>exact(aW (i:=1) tS.nd rfl Wo (ar G_k hr T.F_k (aa (dv 0) (aa ae ah))))
   case' D=>refine' ai ?E ?F
   case E=>
    refine' aH ?G ?H aG
    case G=>exact(aD (ck hr.units) cn (dv 1) ae (av _))
    case' H=>refine' ak ?I
    case I=>exact(ax (ar G_k hr T.F_k (aa (dv 0) (aa ae ah))))
   case' F=>refine' ai ?J ?K
   case J=>
    refine' aH ?L ?M aG
    case L=>exact(aD (ck hr.units) cn (dv 1) ae (av _))
    case' M=>refine' ak ?N
    case N=>exact(ax (ar G_k hr T.F_k (aa (dv 0) (aa ae ah))))
   case' K=>refine' ai ?O ?P
   case O=>
    refine' aH ?Q ?R aG
    case Q=>exact(aD (ck hr.units) cn (dv 1) ae (av _))
    case' R=>refine' ak ?S
    case' S=>generalize hE14_0:S6 _ _=ee14_0
    exact(ax (aj aO aP (fe (qp (ds:=[.int 0,.int 99999,.int 59,.int 60,.int 365,.int 366,.int 36524,.int 36525,.int 99996]) (by first | (subst hE14_0;rfl)))) (ar G_k hr T.F_k (aa (dv 0) (aa ae ah)))))
   case' P=>refine' ai ?T ?U
   case T=>exact(C9 (bD (aa (aS cb cx ae (ar G_k hr T.F_k (aa (dv 0) (aa ae ah)))) (aa (aS cb cx ae (ar G_k hr T.F_k (aa (dv 0) (aa ae ah)))) ah))) (sC (n:=2) rfl (mw (bM (i:=2) tS.nd rfl Wo) (mw (bM (i:=3) tS.nd rfl Wo) qM))) (uM (nr bW (nr bW sY))))
   case' U=>refine' ai ?V ?W
   case V=>
    refine' aW (i:=4) tS.nd rfl Wo ?X (hs:=qu)
    case X=>exact(aS lg cx (aS cb cx (ar G_o hr T.F_o (aa (dv 2) ah)) (PE.imp (aR (x5 rfl) rfl T.n_sum TN (aA (fe (Ac rfl FW rfl T.n_range (aA ae (aA (aS cb cx (dv 3) ae) aB)) bW kU tx (λ_ _ _ _=>(bM (i:=0) FW.nd rfl Wo)) (λ_ _ _ _=>kW) (λ_ _ _ _=>(ar G_n hr T.F_n (aa (dv 1) (aa (dv 0) ah)))))) aB)) (aE Eu))) ae)
   case' W=>refine' ak ?Y
   case' Y=>refine' ax ?Z
   case Z=>exact(PE.imp (aR (Cj rfl) rfl T.n_min US (aA ae (aA (aS cb cx (dv 4) (ar G_k hr T.F_k (aa (dv 0) (aa ae ah)))) aB))) (aE y6))
  case B=>
  clear hr T G_k G_o G_n;simp only [cq,true_and,↓jg,↓jq,↓jr,↓jt,↓ju,↓jv,↓jw,↓jh,↓fE,↓iN,↓jW,↓jX,↓jY,↓jZ,↓j3,↓j5,↓iO,↓iP,↓iQ,↓iR,↓iS,↓iT,↓iU,↓iV,↓iW,↓iX,↓iY,↓iZ,↓i3,↓i4,↓i5,↓i6,↓i7,↓i8,↓i9,↓ja,↓jb,↓jd,↓je,↓jf,dE,dF,dH,dG,fV,fW,cT,dJ,dM,dR,dS,gc,di,dC,bE,dI,d3,d6,d7,gk,d8,cy,eQ,eO,eg,d9,dL,cU,dj,fR,cR,cL,bS,dm,dn,dz,dA,fT,dB,dD,cM,cN,fU,gO,gQ,gR,gS,gT,gU,gW,gX,gY,gZ,g6,g9,hG,hJ,hV,hW,hX,hZ,h7,ic,ie,ig,ij,ik,il,ip,iq,iu,iw,ix,iy,iz,iA,iB,iC,iD,iE,iF,iG,iH,iI,iJ,iK,gP,eF,gj,eR,cY,gp,gm,ei,eD,eG,eJ,eL,eM,eN,cW,eT,eV,eX,cj,gf,gh,gi,dU,dW,fX,fY,dX,fZ,dY,gb,fv,fy,fz,gL,gM,gK,gN,fk,fq,ft,fu,cz,fx,fw,fh,fj,fA,fB,fC,fD,cE,iL,iM,jj,ji,jk,jl,jm,jn,jo,fF,fG,jA,jy,jz,jx,jF,jB,jC,jD,jE,cZ,fH,jJ,jK,jG,jH,jI,jL,jM,jN,fJ,jO,jP,fK,jR,fL,jS,jT,jU,jQ,jV,fM,fN,fO,fP,j6,j7,j8,fQ,cq,gB,gC,gD,gE,gF,gG,gH,gI,gJ,ne_eq,bU,gx,gy,gz,gA,gr,gs,gu,cO,cV,dZ,dN,dQ,dP,dO,bT,bZ,bx,cu,cK,cw,Pw,Qc,Pu,P1,PH,P7,P2,PX,QD,QE,QO,QK,QP,PR,PM,Qh,P8,P9,P0,exists_eq_left',exists_eq_left,exists_and_left,exists_and_right,Qn,Qo,Sl.v.injEq,Sl.o.injEq,Sl.k.injEq,Qs,Qp,Qu,Qi,Qq,PK,and_true,true_and,QQ,Qv,exists_const,decide_eq_true_eq,QR,QS,QI,QJ,P5,decide_eq_false_iff_not,and_assoc,or_true,true_or,↓reduceIte,if_true,if_false,PZ,Qb,not_true_eq_false,not_false_eq_true,QL,QA,ite_true,ite_false,eq_self,exists_eq,reduceCtorEq,false_and,and_false,or_false,false_or,exists_false,Qw,Qz,cH,QH,QU,QC,QV,P4,QB,Qg,QN,aX,bA,b0,cX,eY,bj,cP,fg,beq_self_eq_true,eZ,ff,gn,aV,WI];intro i i0 i1;split
  ·exact λj j0 j1=>q j ⟨j0,Ce⟩
  ·split
   ·exact λj j0 j1=>q j ⟨j0,Ce⟩
   ·split
    ·intro j j0 j1;obtain⟨v,e,hv⟩:=CV (xs:=[PN 0,PN 99999,PN 59,PN 60,PN 365,PN 366,PN 36524,PN 36525,PN 99996]) (i:=j) j0 (by show _ < ((9:Nat):Int);omega);refine⟨v,e,?_⟩;simp only [Pz,PV,or_false] at hv;rcases hv with rfl | rfl | rfl | rfl | rfl | rfl | rfl | rfl | rfl <;> exact q _ ⟨tx,tx⟩
    ·intro y y0 y1 m m0 m1;have yg:=FX (y:=2000+y) Ce;refine⟨_,rfl,by have:((16777216:Nat):Int)=16777216:=rfl;omega,Ce,Ce,?_⟩;refine⟨λi acc=>∃ns:List Int,acc=ns.map .int/\(i:Int)<=ns.sum,⟨[],rfl,Wq⟩,?_,?_⟩
     ·rintro i z acc hz ⟨ns,rfl,hs⟩;obtain⟨hi,rfl⟩:=z9 hz;have hb:=rA (y:=2000+y) (m:=1+(i:Int)) Ce Ce;walk_at "a";exact⟨_,_,rfl,Ce,Ce,ns++[_],by rw [RE];rfl,by rw [UC,List.sum_singleton];omega⟩
     ·rintro acc ⟨ns,rfl,hs⟩;rw [Aa] at hs;refine⟨ns,rfl,_,rfl,λj j0 j1=>q _ ?_⟩;unfold lu;split <;> omega
def Oo:List Wr->(Wr->Prop)->Prop:=λds Q=>∃a b c d e:Str,ds=[mi,.list [.str a,.str b,.str c,.str d,.str e]]/\(∀z∈[a,b,c,d,e],Nm z)/\∀p,me p->Q p
theorem Oq(T:Txt K mg t):aF P w K mg base CX0 2 t.a_m t.d_m ["_law_pack_here","_law_names_here"] (bg K Oo):=by
 have G_k:=@qB P w _ _ base _ T;refine T.F_m.F.okD oR (λds Q h=>?_) (λ_ _ _ _ H O ds Q E hr h=>?_)
 ·obtain⟨a,b,c,d,e,rfl,_⟩:=h;rfl
 ·obtain⟨a,b,c,d,e,rfl,hn,q⟩:=h;refine'⟨_,?A,?B⟩
  case A=>
   refine' ai ?C ?D
   case C=>
    generalize hE2_0:S6 _ _=ee2_0;exact(aW (i:=2) oR.nd rfl Wo (aj aO aP (fe (qp (ds:=[.str "keep",.str "gone",.str "keep",.str "gone",.str "while",.str "follow",.str "leave"]) (by first | (subst hE2_0;rfl)))) (ar G_k hr T.F_k (aa (dv 0) (aa ae ah)))))
   case' D=>refine' ai ?E ?F
   case E=>exact(aW (i:=3) oR.nd rfl Wo (aj aO aP (dv 1) (ar G_k hr T.F_k (aa (dv 0) (aa ae ah)))))
   case' F=>refine' ai ?G ?H
   case G=>
    refine' aH ?I ?J aG
    case I=>exact(aD (oG hr) mT (dv 2) (fe (bw (ny (ds:=[.str "while",.str "follow",.str "leave"]) (by rfl)))) rfl)
    case' J=>refine' ak ?K
    case K=>exact(ax (bD (aa (dv 2) (aa (dv 3) ah))))
   case' H=>refine' ai ?L ?M
   case L=>exact(aW (i:=4) oR.nd rfl Wo (bD (aa aw ah)))
   case' M=>refine' ai ?N ?O
   case N=>exact(aW (i:=5) oR.nd rfl Wo (ar G_k hr T.F_k (aa (dv 0) (aa ae ah))))
   case' O=>refine' ai ?P ?Q
   case P=>
    refine' aH ?R ?S aG
    case R=>exact(aD pd bX (dv 5) ae (av _))
    case' S=>refine' ak ?T
    case' T=>refine' aW (i:=4) oR.nd rfl Wo ?U (hs:=An)
    case' U=>refine' bD ?V
    case' V=>refine' aa ?W ?X
    case W=>exact(aj aO aP (fe (bw (aa aw (aa aw ah)))) (aS lg cx (dv 5) ae))
    case' X=>refine' aa ?Y ah
    case Y=>exact(aj aO aP (dv 1) (ar G_k hr T.F_k (aa (dv 0) (aa ae ah))))
   case' Q=>refine' ai ?Z ?a
   case Z=>exact(aW (i:=5) oR.nd rfl Wo (ar G_k hr T.F_k (aa (dv 0) (aa ae ah))))
   case' a=>refine' ai ?b ?c
   case b=>exact(aW (i:=6) oR.nd rfl Wo (aj aO aP (fe (bw (aa ae (aa ae ah)))) (aS oh mR (dv 5) ae)))
   case' c=>refine' ai ?d ?e
   case d=>
    refine' aH ?f ?g aG
    case f=>exact(aD pd bX (dv 5) ae (av _))
    case' g=>refine' ak ?h
    case' h=>refine' aW (i:=6) oR.nd rfl Wo ?i (hs:=oM)
    case i=>exact(ar G_k hr T.F_k (aa (dv 0) (aa (aj aO aP (fe (bw (aa ae (aa ae ah)))) (aS lg cx (dv 5) ae)) ah)))
   case' e=>refine' ak ?j
   case' j=>refine' ax ?k
   case' k=>refine' bD ?l
   case' l=>refine' aa (dv 2) ?m
   case' m=>refine' aa (dv 3) ?n
   case' n=>refine' aa (dv 4) ?o
   case' o=>refine' aa (dv 6) ?p
   case' p=>refine' aa ?q ah
   case' q=>refine' pA aO aP (df ?r) ?s
   case r=>exact(fe (bw (ny (ds:=[.str "days",.str "months",.str "years"]) (by rfl))))
   case s=>exact(df (ar G_k hr T.F_k (aa (dv 0) (aa ae ah))))
  case B=>
  clear hr T G_k;simp only [cq,true_and,↓jg,↓jq,↓jr,↓jt,↓ju,↓jv,↓jw,↓jh,↓fE,↓iN,↓jW,↓jX,↓jY,↓jZ,↓j3,↓j5,↓iO,↓iP,↓iQ,↓iR,↓iS,↓iT,↓iU,↓iV,↓iW,↓iX,↓iY,↓iZ,↓i3,↓i4,↓i5,↓i6,↓i7,↓i8,↓i9,↓ja,↓jb,↓jd,↓je,↓jf,dE,dF,dH,dG,fV,fW,cT,dJ,dM,dR,dS,gc,di,dC,bE,dI,d3,d6,d7,gk,d8,cy,eQ,eO,eg,d9,dL,cU,dj,fR,cR,cL,bS,dm,dn,dz,dA,fT,dB,dD,cM,cN,fU,gO,gQ,gR,gS,gT,gU,gW,gX,gY,gZ,g6,g9,hG,hJ,hV,hW,hX,hZ,h7,ic,ie,ig,ij,ik,il,ip,iq,iu,iw,ix,iy,iz,iA,iB,iC,iD,iE,iF,iG,iH,iI,iJ,iK,gP,eF,gj,eR,cY,gp,gm,ei,eD,eG,eJ,eL,eM,eN,cW,eT,eV,eX,cj,gf,gh,gi,dU,dW,fX,fY,dX,fZ,dY,gb,fv,fy,fz,gL,gM,gK,gN,fk,fq,ft,fu,cz,fx,fw,fh,fj,fA,fB,fC,fD,cE,iL,iM,jj,ji,jk,jl,jm,jn,jo,fF,fG,jA,jy,jz,jx,jF,jB,jC,jD,jE,cZ,fH,jJ,jK,jG,jH,jI,jL,jM,jN,fJ,jO,jP,fK,jR,fL,jS,jT,jU,jQ,jV,fM,fN,fO,fP,j6,j7,j8,fQ,cq,gB,gC,gD,gE,gF,gG,gH,gI,gJ,ne_eq,bU,gx,gy,gz,gA,gr,gs,gu,cO,cV,dZ,dN,dQ,dP,dO,bT,bZ,bx,cu,cK,cw,Pw,Qc,Pu,P1,PH,P7,P2,PX,QD,QE,QO,QK,QP,PR,PM,Qh,P8,P9,P0,exists_eq_left',exists_eq_left,exists_and_left,exists_and_right,Qn,Qo,Sl.v.injEq,Sl.o.injEq,Sl.k.injEq,Qs,Qp,Qu,Qi,Qq,PK,and_true,true_and,QQ,Qv,exists_const,decide_eq_true_eq,QR,QS,QI,QJ,P5,decide_eq_false_iff_not,and_assoc,or_true,true_or,↓reduceIte,if_true,if_false,PZ,Qb,not_true_eq_false,not_false_eq_true,QL,QA,ite_true,ite_false,eq_self,exists_eq,reduceCtorEq,false_and,and_false,or_false,false_or,exists_false,Qw,Qz,cH,QH,QU,QC,QV,P4,QB,Qg,QN,aX,bA,b0,cX,eY,bj,cP,fg,beq_self_eq_true,eZ,ff,gn,aV,WI];intro i i0 i1;obtain⟨wo,hw,ew⟩:=qD [Pp "keep",Pp "gone",Pp "keep",Pp "gone",Pp "while",Pp "follow",Pp "leave"] (i:=i) i0 (by show _ < ((7:Nat):Int);omega)
  refine⟨_,ew,λi i0 i1=>?_⟩;have nm5:∀i:Int,0<=i->i < 5->∃nm,atI [Pr a,Pr b,Pr c,Pr d,Pr e] i=some (.str nm)/\Nm nm:=λi i0 i1=>by
   obtain⟨nm,hm,en⟩:=qD [a,b,c,d,e] i0 (show i < ((5:Nat):Int) by omega);exact⟨nm,en,hn nm hm⟩
  obtain⟨kd,ek,hk⟩:=nm5 i i0 i1;have hw2:wo∈(["while","follow","leave"]:List Str)\/wo∈(["keep","gone"]:List Str):=by
   simp only [Pz,PV,or_false] at hw⊢;rcases hw with h | h | h | h | h | h | h <;> simp [h]
  have wl:∀z∈(["while","follow","leave","keep","gone"]:List Str),PD (.str z)=true:=td
  refine⟨_,ek,wl wo (by
   simp only [Pz,PV,or_false] at hw2⊢;rcases hw2 with(h | h | h) | (h | h) <;> simp [h]),td,?_⟩
  rw [bj,bj,bj];split
  ·rename_i h;refine q _ (.wfl ?_ hk);simp only [Tf,beq_iff_eq] at h;simp only [Pz,PV,or_false];rcases h with h | h | h <;> simp [h]
  ·rename_i h;have hkg:wo∈(["keep","gone"]:List Str):=by
    rcases hw2 with z | z
    ·exfalso;apply h;simp only [Pz,PV,or_false] at z;rcases z with rfl | rfl | rfl <;> decide+kernel
    ·exact z
   have un:∀(s:Wr)(m:Int),lR s->0<=m->m<=999->∀i:Int,0<=i->i < 3->∃x_3,atI [Pr (Pp "days"),Pr (Pp "months"),Pr (Pp "years")] i=some x_3/\Q (Qx [.str wo,.str kd,s,.int m,x_3]):=λs m hs m0 m1 i i0 i1=>by
    obtain⟨u,hu,eu⟩:=qD [Pp "days",Pp "months",Pp "years"] i0 (show i < ((3:Nat):Int) by omega);exact⟨_,eu,q _ (.kg hkg hk hs m0 m1 hu)⟩
   have tl:∀s:Wr,lR s->∀i:Int,0<=i->i < 4->∃d,atI [PN 0,PN 999] (i % 2)=some d/\if 1 < i then ∃d,atI [PN 1000,PN 13] (i - 2)=some d/\y9 [mi,d] λd=>∀i:Int,0<=i->i < 3->∃x_3,atI [Pr (Pp "days"),Pr (Pp "months"),Pr (Pp "years")] i=some x_3/\Q (Qx [.str wo,.str kd,s,d,x_3]) else ∀i:Int,0<=i->i < 3->∃x_3,atI [Pr (Pp "days"),Pr (Pp "months"),Pr (Pp "years")] i=some x_3/\Q (Qx [.str wo,.str kd,s,d,x_3]):=λs hs i i0 i1=>by
    rcases(show i=0\/i=1\/i=2\/i=3 by omega) with rfl | rfl | rfl | rfl
    ·exact⟨_,rfl,un s 0 hs tx tx⟩
    ·exact⟨_,rfl,un s 999 hs tx tx⟩
    ·exact⟨_,rfl,_,rfl,1000,rfl,tx,tx,λj j0 j1=>un s j hs j0 Ce⟩
    ·exact⟨_,rfl,_,rfl,13,rfl,tx,tx,λj j0 j1=>un s j hs j0 Ce⟩
   intro i i0 i1;rcases(show i=0\/i=1\/i=2 by omega) with rfl | rfl | rfl
   ·exact tl _ .coming
   ·refine⟨_,rfl,λj j0 j1=>?_⟩;obtain⟨h,eh,hh⟩:=nm5 j j0 j1;exact⟨_,eh,tl _ (.first hh)⟩
   ·refine⟨_,rfl,λj j0 j1=>?_⟩;obtain⟨h,eh,hh⟩:=nm5 j j0 j1;exact⟨_,eh,tl _ (.last hh)⟩
end
theorem F3:bO (az vF) ["_law_word","_law_most"] ["_law_sign"] 1 [] ⟨Qf,[(Pt ".0",Ym),(Pt "_law_sign",Ym)],false,false,[]⟩:= .of
theorem F4:bO (az vG) ["_law_word"] ["_law_sign"] 1 [] ⟨Qf,[(Pt ".0",Ym),(Pt "_law_sign",Ym)],false,false,[]⟩:= .of
theorem F5:bO (az qz) ["_law_word","_law_parts","_law_year","_law_month","_law_number","_law_day"] ["_law_part"] 1 [] ⟨Qf,[ (Pt ".0",Ym),(Pt "_law_part",Ym),(Pt "_law_figures",Qm)],false,false,[]⟩:= .of
theorem F6:bO (az qz) ["_law_word","_law_parts","_law_year","_law_month","_law_number","_law_day"] ["_law_part"] 1 [] ⟨Qf,[ (Pt ".0",Ym),(Pt "_law_part",Ym),(Pt "len",Qm)],false,false,[]⟩:= .of
theorem F7:bO (az qz) ["_law_word","_law_parts","_law_year","_law_month","_law_number","_law_day"] ["_law_part"] 1 [] ⟨Qf,[ (Pt ".0",Ym),(Pt "_law_part",Ym),(Pt "int",Qm)],false,false,[]⟩:= .of
theorem F8:bO (az qz) ["_law_word","_law_parts","_law_year","_law_month","_law_number","_law_day"] ["_law_k","_law_year"] 1 [2] ⟨Qf,[ (Pt ".0",Ym),(Pt "_law_k",Ym),(Pt "_law_length",Qm),(Pt "_law_year",Rf)],false,false,[]⟩:= .of
section
variable {P:WH} {w:WJ} {K:Pq} {mg:Str->Option Ws} {base:WG} {t:k8}
theorem Ot{z:Str}(h:bK z (z.length:Int)=true)(h1:1<=z.length)(h4:z.length<=4):∃y:Nat,intText? z=some (y:Int):=by
 by_cases e:z.length=4
 ·obtain⟨y,_,_,h,_⟩:=tW (z:=z) (by rw [e] at h;exact h);exact⟨y,h⟩
 ·obtain⟨y,_,h⟩:=BL h Ce Ce;exact⟨y,h⟩
def mr(z:Str)(m:Int):Prop:=1<=z.length/\(z.length:Int)<=m/\bK z (z.length:Int)=true
instance {z:Str} {m:Int}:Decidable (mr z m):=by unfold mr;infer_instance
def kZ(z:Str)(m:Int):Wr:=if mr z m then .int (nv z) else .none
def F9:List Wr->(Wr->Prop)->Prop:=λds Q=>∃(z:Str)(m:Int),ds=[.str z,.int m]/\z.length<=1000/\m<=4/\Q (kZ z m)
theorem Ga(T:Txt K mg t):aF P w K mg base CX0 1 t.a_v t.d_v ["_law_word","_law_most"] (bg K F9):=by
 refine T.F_v.F.okD MP (λds Q h=>?_) (λ_ _ _ _ H O ds Q E hr h=>?_)
 ·obtain⟨z,m,rfl,_⟩:=h;rfl
 ·obtain⟨z,m,rfl,hz,hm,q⟩:=h;refine'⟨_,?A,?B⟩
  case A=>
   refine' ai ?C ?D
   case C=>
    refine' aH ?E ?F aG
    case E=>exact(PW.pt (kc (ki (pw kn kn bX bX (df ae) (df (PE.imp (aR oq rfl T.n_len Qj (aA (dv 0) aB)) (aE oH))) (df (dv 1)))) (kF (ki (bV (PE.imp (aR (pk rfl) rfl T.n_all pq (aA (fe (uQ rfl F3 (df (dv 0)) bW kU tx (λ_ _ _ _=>(bM (i:=0) F3.nd rfl Wo)) (λ_ _ _ _=>kW) (λ_ _ _ _=>(fS ur uS (df (dv 0)) (df aw) rfl)))) aB)) (aE nu)))))))
    case F=>refine' ak (ax kh)
   case' D=>refine' ak ?G
   case G=>exact(ax (PE.imp (cf rk rfl T.n_int ni (aA (dv 0) aB)) (aE rz)))
  case B=>
  clear hr T;walk_at "a";refine⟨Ce,?_⟩;have no:¬mr z m->Q .none:=λh=>by unfold kZ at q;rw [Wm h] at q;exact q
  split
  ·rename_i h1;split
   ·rename_i h2;exact no λh=>h2 h.2.1
   ·rename_i h2;refine⟨Ce,qt (p:=λb=>if b=false then Q .none else ∃x,intText? z=some x/\z.length<=640/\Q (.int x)) (λx=>match x with | .str y=>decide (y.cps.toList.headD 0∈pK.cps.toList) | _=>false) (λx hx R hR=>?_) ?_⟩
    ·obtain⟨c,_,rfl⟩:=QG.mp hx;walk_at "a";rw [Tx];exact hR
    ·have e:(QZ (λx=>match x with | Pr y=>decide (y.cps.toList.headD 0∈pK.cps.toList) | _=>false) (qW z)).all id=bK z (z.length:Int):=by
      unfold bK qW;rw [decide_eq_true rfl,Qg,Rb,SI];rfl
     simp only [e];by_cases hf:bK z (z.length:Int)=true
     ·rw [Wm (by rw [hf];decide)];obtain⟨y,hy⟩:=Ot hf Ce Ce;have g:mr z m:=⟨Ce,Ce,hf⟩;unfold kZ nv at q;rw [Wn g,hy] at q;exact⟨_,hy,Ce,q⟩
     ·rw [Wn (by simpa using hf)];exact no λh=>hf h.2.2
  ·rename_i h1;exact no λh=>by have:=h.1;omega
def BO:List Wr->(Wr->Prop)->Prop:=λds Q=>∃z:Str,ds=[.str z]/\z.length<=1000/\Q (.bool (cC (.str z)))
theorem Gb(T:Txt K mg t):aF P w K mg base CX0 1 t.a_w t.d_w ["_law_word"] (bg K BO):=by
 refine T.F_w.F.okD MQ (λds Q h=>?_) (λ_ _ _ _ H O ds Q E hr h=>?_)
 ·obtain⟨z,rfl,_⟩:=h;rfl
 ·obtain⟨z,rfl,hz,q⟩:=h;refine'⟨_,?A,?B⟩
  case A=>
   refine' ak ?C
   case' C=>refine' ax ?D
   case D=>exact(kI (uJ kn kn bX bX (df ae) (df (PE.imp (aR oq rfl T.n_len Qj (aA (dv 0) aB)) (aE oH))) (df ae)) (lK (PE.imp (aR (pk rfl) rfl T.n_all pq (aA (fe (uQ rfl F4 (df (dv 0)) bW kU tx (λ_ _ _ _=>(bM (i:=0) F4.nd rfl Wo)) (λ_ _ _ _=>kW) (λ_ _ _ _=>(fS ur uS (df (dv 0)) (df aw) rfl)))) aB)) (aE nu))))
  case B=>
  clear hr T;walk_at "a";refine⟨Ce,?_⟩;simp only [cC] at q;split
  ·rename_i h1;rw [decide_eq_true (p:=1<=z.length) Ce,Qg] at q;split
   ·rename_i h2;rw [decide_eq_true (p:=z.length<=8) Ce,Qg] at q;refine⟨Ce,qt (p:=λb=>Q (.bool b)) (λx=>match x with | .str y=>decide (y.cps.toList.headD 0∈lr.cps.toList) | _=>false) (λx hx R hR=>?_) ?_⟩
    ·obtain⟨c,_,rfl⟩:=QG.mp hx;walk_at "a";rw [Tx];exact hR
    ·unfold qW;rw [Rb,SI];exact q
   ·rename_i h2;rw [decide_eq_false (p:=z.length<=8) Ce] at q;exact q
  ·rename_i h1;rw [decide_eq_false (p:=1<=z.length) Ce] at q;exact q
theorem BP{z:Str}{m:Int}{Q:Wr->Prop}:F9 [.str z,.int m] Q↔z.length<=1000/\m<=4/\Q (kZ z m):=⟨λuu63=>by obtain⟨_,_,e,h⟩:=uu63;cases e;exact h,λh=>⟨_,_,rfl,h⟩⟩
theorem Gd{y m:Int}{Q:Wr->Prop}:F0 [.int y,.int m] Q↔1<=m/\m<=12/\Q (.int (bh y m)):=⟨λuu64=>by obtain⟨_,_,e,h⟩:=uu64;cases e;exact h,λh=>⟨_,_,rfl,h⟩⟩
theorem Ou{y:Int}{Q:Wr->Prop}:F1 [.int y] Q↔Q (.int (br y)):=⟨λuu65=>by obtain⟨_,e,h⟩:=uu65;cases e;exact h,λh=>⟨_,rfl,h⟩⟩
theorem Ge:∀{ns:List Int},Q4 (ns.map .int)=true/\Rv (ns.map .int)=0
 | []=>⟨rfl,rfl⟩
 | n::r=>by
  obtain⟨a,b⟩:=Ge (ns:=r);rw [Pw,Q4,Rv,a,b,QW];exact⟨rfl,rfl⟩
theorem Ov{ns:List Int}:PD (.list (ns.map .int))=true:=by
 obtain⟨a,b⟩:=Ge (ns:=ns);unfold PD;rw [QW,Si,a,b];rfl
theorem Gf(z:Str)(m:Int):QW (kZ z m)=true/\(kZ z m).eqv .none=!decide (mr z m):=by
 unfold kZ;split
 ·rename_i h;rw [decide_eq_true h];exact⟨rfl,rfl⟩
 ·rename_i h;rw [decide_eq_false h];exact⟨rfl,rfl⟩
def Gg:Wr->Wr | .str y=>.int y.length | _=>.none
def Ow:Wr->Wr | .str y=>kZ y 4 | _=>.none
def Gh:Wr->Wr | .str y=>.int (nv y) | _=>.none
theorem Ox(ws:List Str):(ws.map Pr).map Gg=(ws.map λy:Str=>(y.length:Int)).map .int:=by rw [Rb,Rb];rfl
def Gi:List Wr->(Wr->Prop)->Prop:=λds Q=>∃z:Str,ds=[.str z]/\z.length<=1000/\Q (kY z)
theorem Oy(T:Txt K mg t):aF P w K mg base CX0 2 t.a_x t.d_x ["_law_word"] (bg K Gi):=by
 have G_v:=@Ga P w _ _ base _ T;have G_o:=@BN P w _ _ base _ T;have G_n:=@BM P w _ _ base _ T;refine T.F_x.F.okD rO (λds Q h=>?_) (λ_ _ _ _ H O ds Q E hr h=>?_)
 ·obtain⟨z,rfl,_⟩:=h;rfl
 ·obtain⟨z,rfl,hz,q⟩:=h;refine'⟨_,?A,?B⟩
  case A=>
   refine' ai ?C ?D
   case C=>exact(aW (i:=1) rO.nd rfl Wo (fe (oO (dv 0) aw)))
   case' D=>refine' ai ?E ?F
   case E=>
    refine' aH ?G ?H aG
    case G=>exact(PW.pt (kc (aD (mE hr.units) mF (fe (oC rfl F6 (df (dv 1)) bW kU tx (λ_ _ _ _=>(bM (i:=0) F6.nd rfl Wo)) (λ_ _ _ _=>kW) (λ_ _ _ _=>(PE.imp (aR oq rfl T.n_len Qj (aA (dv 0) aB)) (aE oH))))) (fe (bw (ny (ds:=[.int 4,.int 2,.int 2]) (by rfl)))) (av _)) (kF (aD (oG hr) mT kh (fe (oC rfl F5 (df (dv 1)) bW kU tx (λ_ _ _ _=>(bM (i:=0) F5.nd rfl Wo)) (λ_ _ _ _=>kW) (λ_ _ _ _=>(ar G_v hr T.F_v (aa (dv 0) (aa ae ah)))))) rfl))))
    case H=>refine' ak (ax kh)
   case' F=>refine' ai ?I ?J
   case I=>exact(C9 (fe (oC rfl F7 (df (dv 1)) bW kU tx (λ_ _ _ _=>(bM (i:=0) F7.nd rfl Wo)) (λ_ _ _ _=>kW) (λ_ _ _ _=>(PE.imp (cf rk rfl T.n_int ni (aA (dv 0) aB)) (aE rz))))) (JG (n:=3) rfl (mw (bM (i:=2) rO.nd rfl Wo) (mw (bM (i:=3) rO.nd rfl Wo) (mw (bM (i:=4) rO.nd rfl Wo) qM)))) (JH (nr bW (nr bW (nr bW sY)))))
   case' J=>refine' ai ?K ?L
   case K=>
    refine' aH ?M ?N aG
    case M=>exact(PW.pt (kc (aD qP bX (dv 2) ae (av _)) (kc (ki (pw kn kn bX bX (df ae) (df (dv 3)) (df ae))) (kF (ki (pw kn kn bX bX (df ae) (df (dv 4)) (df (ar G_n hr T.F_n (aa (dv 2) (aa (dv 3) ah))))))))))
    case N=>refine' ak (ax kh)
   case' L=>refine' ai ?O ?P
   case O=>
    refine' aW (i:=5) rO.nd rfl Wo ?Q (hs:=qu)
    case Q=>exact(aS lg cx (aS cb cx (aS cb cx (ar G_o hr T.F_o (aa (dv 2) ah)) (PE.imp (aR (x5 rfl) rfl T.n_sum TN (aA (fe (Ac rfl F8 rfl T.n_range (aA ae (aA (dv 3) aB)) bW kU tx (λ_ _ _ _=>(bM (i:=0) F8.nd rfl Wo)) (λ_ _ _ _=>kW) (λ_ _ _ _=>(ar G_n hr T.F_n (aa (dv 1) (aa (dv 0) ah)))))) aB)) (aE Eu))) (dv 4)) ae)
   case' P=>refine' ak ?R
   case' R=>refine' ax ?S
   case' S=>refine' pA aO aP (df ?T) ?U
   case T=>exact(fe (bw (aa kh (aa (dv 5) ah))))
   case U=>exact(df (PE.imp (cf ux rfl T.n_int ni (aA (fS kn bX (df (dv 5)) (df ae) (av _)) aB)) (aE uO)))
  case B=>
  clear hr T G_v G_o G_n;walk_at "a";have hl:(Txt.split z (Pp "-")).length<=1002:=Qt (S4 z _) Ce;refine⟨td,Ce,by rw [PB];omega,?_⟩;have wl:=λp=>Fv (z:=z) (p:=p);have q1:∀k,mf z=some k->Q (.int k):=λk e=>by unfold kY at q;rw [e] at q;exact q
  have q2:mf z=none->Q .none:=λe=>by unfold kY at q;rw [e] at q;exact q
  clear q;unfold mf at q1 q2;generalize Txt.split z (Pp "-")=ws at*;refine mI Gg (λx hx R hR=>?_) ?_
  ·obtain⟨p,hp,rfl⟩:=QG.mp hx;walk_at "a";have:=wl p hp;exact⟨Ce,hR⟩
  ·rw [Ox];refine⟨Ov,td,?_⟩
   match ws with
   | [a,b,c]=>
    have la:=wl a Wq;have lb:=wl b Wq;have lc:=wl c Wq;simp only [] at q1 q2;have e:(Q8 (([a,b,c].map λy:Str=>(y.length:Int)).map .int)).eqv (Q8 [PN 4,PN 2,PN 2])=decide (a.length=4/\b.length=2/\c.length=2):=by
     rw [RM];simp [PJ,Rc];omega
    rw [e];by_cases hL:a.length=4/\b.length=2/\c.length=2
    ·rw [Wm (by rw [decide_eq_true hL];decide)];obtain⟨l4,l2,l2'⟩:=hL;refine⟨by rw [PB];exact Qt hl tx,?_⟩;refine mI Ow (λx hx R hR=>?_) ?_
     ·obtain⟨p,hp,rfl⟩:=QG.mp hx;have:=wl p hp;simp only [BP,true_and,↓jg,↓jq,↓jr,↓jt,↓ju,↓jv,↓jw,↓jh,↓fE,↓iN,↓jW,↓jX,↓jY,↓jZ,↓j3,↓j5,↓iO,↓iP,↓iQ,↓iR,↓iS,↓iT,↓iU,↓iV,↓iW,↓iX,↓iY,↓iZ,↓i3,↓i4,↓i5,↓i6,↓i7,↓i8,↓i9,↓ja,↓jb,↓jd,↓je,↓jf,dE,dF,dH,dG,fV,fW,cT,dJ,dM,dR,dS,gc,di,dC,bE,dI,d3,d6,d7,gk,d8,cy,eQ,eO,eg,d9,dL,cU,dj,fR,cR,cL,bS,dm,dn,dz,dA,fT,dB,dD,cM,cN,fU,gO,gQ,gR,gS,gT,gU,gW,gX,gY,gZ,g6,g9,hG,hJ,hV,hW,hX,hZ,h7,ic,ie,ig,ij,ik,il,ip,iq,iu,iw,ix,iy,iz,iA,iB,iC,iD,iE,iF,iG,iH,iI,iJ,iK,gP,eF,gj,eR,cY,gp,gm,ei,eD,eG,eJ,eL,eM,eN,cW,eT,eV,eX,cj,gf,gh,gi,dU,dW,fX,fY,dX,fZ,dY,gb,fv,fy,fz,gL,gM,gK,gN,fk,fq,ft,fu,cz,fx,fw,fh,fj,fA,fB,fC,fD,cE,iL,iM,jj,ji,jk,jl,jm,jn,jo,fF,fG,jA,jy,jz,jx,jF,jB,jC,jD,jE,cZ,fH,jJ,jK,jG,jH,jI,jL,jM,jN,fJ,jO,jP,fK,jR,fL,jS,jT,jU,jQ,jV,fM,fN,fO,fP,j6,j7,j8,fQ,cq,gB,gC,gD,gE,gF,gG,gH,gI,gJ,ne_eq,bU,gx,gy,gz,gA,gr,gs,gu,cO,cV,dZ,dN,dQ,dP,dO,bT,bZ,bx,cu,cK,cw,Pw,Qc,Pu,P1,PH,P7,P2,PX,QD,QE,QO,QK,QP,PR,PM,Qh,P8,P9,P0,exists_eq_left',exists_eq_left,exists_and_left,exists_and_right,Qn,Qo,Sl.v.injEq,Sl.o.injEq,Sl.k.injEq,Qs,Qp,Qu,Qi,Qq,PK,and_true,true_and,QQ,Qv,exists_const,decide_eq_true_eq,QR,QS,QI,QJ,P5,decide_eq_false_iff_not,and_assoc,or_true,true_or,↓reduceIte,if_true,if_false,PZ,Qb,not_true_eq_false,not_false_eq_true,QL,QA,ite_true,ite_false,eq_self,exists_eq,reduceCtorEq,false_and,and_false,or_false,false_or,exists_false,Qw,Qz,cH,QH,QU,QC,QV,P4,QB,Qg,QN,aX,bA,b0,cX,eY,bj,cP,fg,beq_self_eq_true,eZ,ff,gn,aV,WI];exact⟨Ce,hR⟩
     ·have f4:mr a 4↔bK a 4=true:=by unfold mr;rw [l4];simp
      have f2:mr b 4↔bK b 2=true:=by unfold mr;rw [l2];simp
      have f2':mr c 4↔bK c 2=true:=by unfold mr;rw [l2'];simp
      show Q4 [kZ a 4,kZ b 4,kZ c 4]=true/\if ([kZ a 4,kZ b 4,kZ c 4].any λd=>d.eqv .none)=true then _ else _
      refine⟨by simp [Q4,Gf],?_⟩;rw [show([kZ a 4,kZ b 4,kZ c 4].any λd=>d.eqv .none)=!decide (bK a 4=true/\bK b 2=true/\bK c 2=true) by
       rw [RM];simp [Gf,f4,f2,f2']]
      by_cases hF:bK a 4=true/\bK b 2=true/\bK c 2=true
      ·rw [Wm (by rw [decide_eq_true hF];decide)];obtain⟨fa,fb,fc⟩:=hF;obtain⟨y,y1,y2,y3,_⟩:=tW fa;obtain⟨m,m1,m2,m3⟩:=rP fb;obtain⟨n,n1,n2,n3⟩:=rP fc;have ea:nv a=y:=by unfold nv;rw [y3];rfl
       have eb:nv b=m:=by unfold nv;rw [m3];rfl
       have ec:nv c=n:=by unfold nv;rw [n3];rfl
       rw [ea,eb,ec] at q1 q2;refine⟨by rw [PB];exact Qt hl tx,?_⟩;refine mI Gh (λx hx R hR=>?_) ?_
       ·obtain⟨p,hp,rfl⟩:=QG.mp hx;walk_at "a";simp only [Pz,PV,or_false] at hp;rcases hp with rfl | rfl | rfl
        ·exact⟨_,y3,Ce,by rw [<-ea];exact hR⟩
        ·exact⟨_,m3,Ce,by rw [<-eb];exact hR⟩
        ·exact⟨_,n3,Ce,by rw [<-ec];exact hR⟩
       ·simp only [Pw,Qc,Gh];rw [ea,eb,ec];unfold Dr;simp only [Gd,Ou,true_and,↓jg,↓jq,↓jr,↓jt,↓ju,↓jv,↓jw,↓jh,↓fE,↓iN,↓jW,↓jX,↓jY,↓jZ,↓j3,↓j5,↓iO,↓iP,↓iQ,↓iR,↓iS,↓iT,↓iU,↓iV,↓iW,↓iX,↓iY,↓iZ,↓i3,↓i4,↓i5,↓i6,↓i7,↓i8,↓i9,↓ja,↓jb,↓jd,↓je,↓jf,dE,dF,dH,dG,fV,fW,cT,dJ,dM,dR,dS,gc,di,dC,bE,dI,d3,d6,d7,gk,d8,cy,eQ,eO,eg,d9,dL,cU,dj,fR,cR,cL,bS,dm,dn,dz,dA,fT,dB,dD,cM,cN,fU,gO,gQ,gR,gS,gT,gU,gW,gX,gY,gZ,g6,g9,hG,hJ,hV,hW,hX,hZ,h7,ic,ie,ig,ij,ik,il,ip,iq,iu,iw,ix,iy,iz,iA,iB,iC,iD,iE,iF,iG,iH,iI,iJ,iK,gP,eF,gj,eR,cY,gp,gm,ei,eD,eG,eJ,eL,eM,eN,cW,eT,eV,eX,cj,gf,gh,gi,dU,dW,fX,fY,dX,fZ,dY,gb,fv,fy,fz,gL,gM,gK,gN,fk,fq,ft,fu,cz,fx,fw,fh,fj,fA,fB,fC,fD,cE,iL,iM,jj,ji,jk,jl,jm,jn,jo,fF,fG,jA,jy,jz,jx,jF,jB,jC,jD,jE,cZ,fH,jJ,jK,jG,jH,jI,jL,jM,jN,fJ,jO,jP,fK,jR,fL,jS,jT,jU,jQ,jV,fM,fN,fO,fP,j6,j7,j8,fQ,cq,gB,gC,gD,gE,gF,gG,gH,gI,gJ,ne_eq,bU,gx,gy,gz,gA,gr,gs,gu,cO,cV,dZ,dN,dQ,dP,dO,bT,bZ,bx,cu,cK,cw,Pw,Qc,Pu,P1,PH,P7,P2,PX,QD,QE,QO,QK,QP,PR,PM,Qh,P8,P9,P0,exists_eq_left',exists_eq_left,exists_and_left,exists_and_right,Qn,Qo,Sl.v.injEq,Sl.o.injEq,Sl.k.injEq,Qs,Qp,Qu,Qi,Qq,PK,and_true,true_and,QQ,Qv,exists_const,decide_eq_true_eq,QR,QS,QI,QJ,P5,decide_eq_false_iff_not,and_assoc,or_true,true_or,↓reduceIte,if_true,if_false,PZ,Qb,not_true_eq_false,not_false_eq_true,QL,QA,ite_true,ite_false,eq_self,exists_eq,reduceCtorEq,false_and,and_false,or_false,false_or,exists_false,Qw,Qz,cH,QH,QU,QC,QV,P4,QB,Qg,QN,aX,bA,b0,cX,eY,bj,cP,fg,beq_self_eq_true,eZ,ff,gn,aV,WI];have no:¬lO y m n->Q .none:=λz=>q2 (Wm λw=>z w.2.2.2.1)
        split
        ·exact no λz=>by have:=z.1;omega
        ·split
         ·split
          ·exact no λz=>by have:=z.2.2.2.1;omega
          ·split
           ·refine⟨Ce,Ce,?_⟩;split
            ·exact no λz=>by have:=z.2.2.2.2.2;omega
            ·have hd:lO y m n:=⟨Ce,Ce,Ce,Ce,Ce,Ce⟩;refine⟨Ce,Ce,Ce,?_⟩;refine mI (λx=>match x with | .int k=>.int (bh y k) | _=>.none) (λx hx R hR=>?_) ?_
             ·obtain⟨k,hk,rfl⟩:=QG.mp hx;have hk:=Sa.mp hk;simp only [Gd,true_and,↓jg,↓jq,↓jr,↓jt,↓ju,↓jv,↓jw,↓jh,↓fE,↓iN,↓jW,↓jX,↓jY,↓jZ,↓j3,↓j5,↓iO,↓iP,↓iQ,↓iR,↓iS,↓iT,↓iU,↓iV,↓iW,↓iX,↓iY,↓iZ,↓i3,↓i4,↓i5,↓i6,↓i7,↓i8,↓i9,↓ja,↓jb,↓jd,↓je,↓jf,dE,dF,dH,dG,fV,fW,cT,dJ,dM,dR,dS,gc,di,dC,bE,dI,d3,d6,d7,gk,d8,cy,eQ,eO,eg,d9,dL,cU,dj,fR,cR,cL,bS,dm,dn,dz,dA,fT,dB,dD,cM,cN,fU,gO,gQ,gR,gS,gT,gU,gW,gX,gY,gZ,g6,g9,hG,hJ,hV,hW,hX,hZ,h7,ic,ie,ig,ij,ik,il,ip,iq,iu,iw,ix,iy,iz,iA,iB,iC,iD,iE,iF,iG,iH,iI,iJ,iK,gP,eF,gj,eR,cY,gp,gm,ei,eD,eG,eJ,eL,eM,eN,cW,eT,eV,eX,cj,gf,gh,gi,dU,dW,fX,fY,dX,fZ,dY,gb,fv,fy,fz,gL,gM,gK,gN,fk,fq,ft,fu,cz,fx,fw,fh,fj,fA,fB,fC,fD,cE,iL,iM,jj,ji,jk,jl,jm,jn,jo,fF,fG,jA,jy,jz,jx,jF,jB,jC,jD,jE,cZ,fH,jJ,jK,jG,jH,jI,jL,jM,jN,fJ,jO,jP,fK,jR,fL,jS,jT,jU,jQ,jV,fM,fN,fO,fP,j6,j7,j8,fQ,cq,gB,gC,gD,gE,gF,gG,gH,gI,gJ,ne_eq,bU,gx,gy,gz,gA,gr,gs,gu,cO,cV,dZ,dN,dQ,dP,dO,bT,bZ,bx,cu,cK,cw,Pw,Qc,Pu,P1,PH,P7,P2,PX,QD,QE,QO,QK,QP,PR,PM,Qh,P8,P9,P0,exists_eq_left',exists_eq_left,exists_and_left,exists_and_right,Qn,Qo,Sl.v.injEq,Sl.o.injEq,Sl.k.injEq,Qs,Qp,Qu,Qi,Qq,PK,and_true,true_and,QQ,Qv,exists_const,decide_eq_true_eq,QR,QS,QI,QJ,P5,decide_eq_false_iff_not,and_assoc,or_true,true_or,↓reduceIte,if_true,if_false,PZ,Qb,not_true_eq_false,not_false_eq_true,QL,QA,ite_true,ite_false,eq_self,exists_eq,reduceCtorEq,false_and,and_false,or_false,false_or,exists_false,Qw,Qz,cH,QH,QU,QC,QV,P4,QB,Qg,QN,aX,bA,b0,cX,eY,bj,cP,fg,beq_self_eq_true,eZ,ff,gn,aV,WI];exact⟨Ce,Ce,hR⟩
             ·refine⟨(Rx ((m:Int) - 1).toNat).map λ(i:Nat)=>bh y (1+(i:Int)),?_,?_⟩
              ·unfold lj;rw [Rb,Rb];rfl
              ·rw [show br y+((Rx ((m:Int) - 1).toNat).map λ(i:Nat)=>bh y (1+(i:Int))).sum+n - 1=lU y m n from rfl];split
               ·exact⟨_,rfl,q1 _ (Wn ⟨fa,fb,fc,hd,Ce⟩)⟩
               ·exact⟨_,rfl,q2 (Wm λw=>by have:=w.2.2.2.2;omega)⟩
           ·exact no λz=>by have:=z.2.2.2.2.1;omega
         ·exact no λz=>by have:=z.2.2.1;omega
      ·rw [Wn (by rw [decide_eq_false hF];decide)];exact q2 (Wm λz=>hF ⟨z.1,z.2.1,z.2.2.1⟩)
    ·rw [Wn (by rw [decide_eq_false hL])];exact q2 (Wm λz=>hL (by
      obtain⟨_,_,h4,_⟩:=tW z.1;obtain⟨_,_,h2,_⟩:=rP z.2.1;obtain⟨_,_,h2',_⟩:=rP z.2.2.1;exact⟨h4,h2,h2'⟩))
   | []=>rw [Wn (by simp [PJ,Rc])];exact q2 rfl
   | [a]=>rw [Wn (by simp [PJ,Rc])];exact q2 rfl
   | [a,b]=>rw [Wn (by simp [PJ,Rc])];exact q2 rfl
   | a::b::c::d::r=>rw [Wn (by simp [PJ,Rc])];exact q2 rfl
end
theorem Gj:bO (az vD) ["_law_pack_here","_law_names_here","_law_word","_law_head","_law_other","_law_some","_law_target"] ["_law_name_here","_law_pack_here"] 1 [0] ⟨Qf,[ (Pt ".0",Ym),(Pt "_law_name_here",Ym),(Pt "_law_take",Qm),(Pt "_law_pack_here",Rf)],false,false,[]⟩:= .of
section
variable {P:WH} {w:WJ} {K:Pq} {mg:Str->Option Ws} {base:WG} {t:k8}
theorem Gk{ns:List Str}(h:ns.Nodup):(kX ns).Pairwise pG:=by
 have p:=Dx ns;have n:(kX ns).Nodup:=(uT ns).nodup_iff.mpr h;refine List.Pairwise.imp₂ (λa b h1 h2=>?_) p n;by_cases q:a.cps.toList < b.cps.toList
 ·exact q
 ·exact absurd (Dw h1 (decide_eq_true (We.mp q))) h2
theorem Oz{Q:Wr->Prop}:F2 [mi] Q↔∀d:Int,lu d->Q (.int d):=⟨λuu66=>by obtain⟨_,h⟩:=uu66;exact h,λh=>⟨rfl,h⟩⟩
def OA:List Wr->(Wr->Prop)->Prop:=λds Q=>∃a b c d e:Str,ds=[mi,.list [.str a,.str b,.str c,.str d,.str e]]/\(∀z∈[a,b,c,d,e],Nm z)/\[a,b,c,d,e].Nodup/\∀p,bo p->Q p
theorem OB(T:Txt K mg t):aF P w K mg base CX0 3 t.a_r t.d_r ["_law_pack_here","_law_names_here"] (bg K OA):=by
 have G_k:=@qB P w _ _ base _ T;have G_q:=@Om P w _ _ base _ T;have G_m:=@Oq P w _ _ base _ T;refine T.F_r.F.okD rM (λds Q h=>?_) (λ_ _ _ _ H O ds Q E hr h=>?_)
 ·obtain⟨a,b,c,d,e,rfl,_⟩:=h;rfl
 ·obtain⟨a,b,c,d,e,rfl,hn,nd,q⟩:=h;refine'⟨_,?A,?B⟩
  case A=>
   refine' ai ?C ?D
   case C=>
    generalize hE2_0:S6 _ _=ee2_0;exact(aW (i:=2) rM.nd rfl Wo (aj aO aP (fe (qp (ds:=[.str "paper",.str "happens",.str "rule",.str "rule",.str "end",.str "hold",.str "lift",.str "leave"]) (by first | (subst hE2_0;rfl)))) (ar G_k hr T.F_k (aa (dv 0) (aa ae ah)))))
   case' D=>refine' ai ?E ?F
   case E=>
    refine' aW (i:=3) rM.nd rfl Wo ?G (hs:=An)
    case' G=>refine' bD ?H
    case' H=>refine' aa (dv 2) ?I
    case' I=>refine' aa ?J ?K
    case J=>exact(ar G_q hr T.F_q (aa (dv 0) ah))
    case' K=>refine' aa ?L ah
    case L=>exact(aj aO aP (dv 1) (ar G_k hr T.F_k (aa (dv 0) (aa ae ah))))
   case' F=>refine' ai ?M ?N
   case M=>exact(aW (i:=4) rM.nd rfl Wo (aj aO aP (dv 1) (ar G_k hr T.F_k (aa (dv 0) (aa ae ah)))))
   case' N=>refine' ai ?O ?P
   case O=>
    refine' aH ?Q ?R aG
    case Q=>exact(aD (cI hr) cJ (dv 2) aw (av _))
    case' R=>refine' ai ?S ?T
    case S=>
     refine' aW (i:=5) rM.nd rfl Wo ?U (hs:=oM)
     case U=>exact(fe (JX rfl T.n_sorted Uu (aA (fe (oC rfl Gj (df (dv 1)) bW kU tx (λ_ _ _ _=>(bM (i:=0) Gj.nd rfl Wo)) (λ_ _ _ _=>(IB (aD (ck hr.units) cn (ar G_k hr T.F_k (aa (dv 1) (aa ae ah))) ae (av _)))) (λ_ _ _ _=>(dv 0)))) aB)))
    case' T=>refine' ak ?V
    case' V=>refine' ax ?W
    case' W=>refine' aS nR nS (dv 3) ?X
    case' X=>refine' bD ?Y
    case' Y=>refine' aa (dv 4) ?Z
    case' Z=>refine' aa ?a ah
    case a=>exact(PE.imp (cf lZ rfl T.n_tuple k6 (aA (fe (kB (df (dv 5)) kj (bP ae))) aB)) (aE l8))
   case' P=>refine' ai ?b ?c
   case b=>
    refine' aH ?d ?e aG
    case d=>exact(aD (cI hr) cJ (dv 2) aw (av _))
    case' e=>refine' ak ?f
    case' f=>refine' ax ?g
    case' g=>refine' aS nR nS (dv 3) ?h
    case h=>exact(bD (aa (ar G_m hr T.F_m (aa (dv 0) (aa (dv 1) ah))) ah))
   case' c=>refine' ai ?i ?j
   case i=>
    refine' aH ?k ?l aG
    case k=>exact(aD (cI hr) cJ (dv 2) aw (av _))
    case' l=>refine' ai ?m ?n
    case m=>
     refine' aW (i:=6) rM.nd rfl Wo ?o (hs:=Ki)
     case' o=>refine' pA aO aP (df ?p) ?q
     case p=>
      refine' fe ?r
      case' r=>refine' bw ?s
      case' s=>refine' aa ?t ?u
      case t=>exact(bD (aa aw (aa (dv 4) ah)))
      case' u=>refine' aa ?v ah
      case v=>exact(bD (aa aw (aa (dv 4) ah)))
     case q=>exact(df (ar G_k hr T.F_k (aa (dv 0) (aa ae ah))))
    case' n=>refine' ak ?w
    case' w=>refine' ax ?x
    case' x=>refine' aS nR nS (dv 3) ?y
    case' y=>refine' bD ?z
    case' z=>refine' aa (dv 6) ?A0
    case' A0=>refine' aa ?A1 ah
    case A1=>exact(fS (ck hr.units) cn (df (ar G_k hr T.F_k (aa (dv 0) (aa ae ah)))) (df ae) (av _))
   case' j=>refine' ai ?A2 ?A3
   case A2=>
    refine' aH ?A4 ?A5 aG
    case A4=>exact(PW.pt (kc (aD (cI hr) cJ (dv 2) aw (av _)) (kF (aD (cI hr) cJ (dv 2) aw (av _)))))
    case' A5=>refine' ak ?A6
    case A6=>exact(ax (aS nR nS (dv 3) (bD (aa (dv 4) ah))))
   case' A3=>refine' ak ?A7
   case A7=>exact(ax (dv 3))
  case B=>
  clear hr T G_k G_q G_m;simp only [cq,Oz,true_and,↓jg,↓jq,↓jr,↓jt,↓ju,↓jv,↓jw,↓jh,↓fE,↓iN,↓jW,↓jX,↓jY,↓jZ,↓j3,↓j5,↓iO,↓iP,↓iQ,↓iR,↓iS,↓iT,↓iU,↓iV,↓iW,↓iX,↓iY,↓iZ,↓i3,↓i4,↓i5,↓i6,↓i7,↓i8,↓i9,↓ja,↓jb,↓jd,↓je,↓jf,dE,dF,dH,dG,fV,fW,cT,dJ,dM,dR,dS,gc,di,dC,bE,dI,d3,d6,d7,gk,d8,cy,eQ,eO,eg,d9,dL,cU,dj,fR,cR,cL,bS,dm,dn,dz,dA,fT,dB,dD,cM,cN,fU,gO,gQ,gR,gS,gT,gU,gW,gX,gY,gZ,g6,g9,hG,hJ,hV,hW,hX,hZ,h7,ic,ie,ig,ij,ik,il,ip,iq,iu,iw,ix,iy,iz,iA,iB,iC,iD,iE,iF,iG,iH,iI,iJ,iK,gP,eF,gj,eR,cY,gp,gm,ei,eD,eG,eJ,eL,eM,eN,cW,eT,eV,eX,cj,gf,gh,gi,dU,dW,fX,fY,dX,fZ,dY,gb,fv,fy,fz,gL,gM,gK,gN,fk,fq,ft,fu,cz,fx,fw,fh,fj,fA,fB,fC,fD,cE,iL,iM,jj,ji,jk,jl,jm,jn,jo,fF,fG,jA,jy,jz,jx,jF,jB,jC,jD,jE,cZ,fH,jJ,jK,jG,jH,jI,jL,jM,jN,fJ,jO,jP,fK,jR,fL,jS,jT,jU,jQ,jV,fM,fN,fO,fP,j6,j7,j8,fQ,cq,gB,gC,gD,gE,gF,gG,gH,gI,gJ,ne_eq,bU,gx,gy,gz,gA,gr,gs,gu,cO,cV,dZ,dN,dQ,dP,dO,bT,bZ,bx,cu,cK,cw,Pw,Qc,Pu,P1,PH,P7,P2,PX,QD,QE,QO,QK,QP,PR,PM,Qh,P8,P9,P0,exists_eq_left',exists_eq_left,exists_and_left,exists_and_right,Qn,Qo,Sl.v.injEq,Sl.o.injEq,Sl.k.injEq,Qs,Qp,Qu,Qi,Qq,PK,and_true,true_and,QQ,Qv,exists_const,decide_eq_true_eq,QR,QS,QI,QJ,P5,decide_eq_false_iff_not,and_assoc,or_true,true_or,↓reduceIte,if_true,if_false,PZ,Qb,not_true_eq_false,not_false_eq_true,QL,QA,ite_true,ite_false,eq_self,exists_eq,reduceCtorEq,false_and,and_false,or_false,false_or,exists_false,Qw,Qz,cH,QH,QU,QC,QV,P4,QB,Qg,QN,aX,bA,b0,cX,eY,bj,cP,fg,beq_self_eq_true,eZ,ff,gn,aV,WI];intro i i0 i1;obtain⟨wo,hw,ew⟩:=qD [Pp "paper",Pp "happens",Pp "rule",Pp "rule",Pp "end",Pp "hold",Pp "lift",Pp "leave"] (i:=i) i0 (by show _ < ((8:Nat):Int);omega)
  have nm5:∀i:Int,0<=i->i < 5->∃nm,atI [Pr a,Pr b,Pr c,Pr d,Pr e] i=some (.str nm)/\Nm nm:=λi i0 i1=>by
   obtain⟨nm,hm,en⟩:=qD [a,b,c,d,e] i0 (show i < ((5:Nat):Int) by omega);exact⟨nm,en,hn nm hm⟩
  refine⟨_,ew,λn hd i i0 i1=>?_⟩;obtain⟨x,ex,hx⟩:=nm5 i i0 i1;refine⟨_,ex,λi i0 i1=>?_⟩;obtain⟨y,ey,hy⟩:=nm5 i i0 i1;refine⟨_,ey,bU,?_⟩;rw [bj];split
  ·rename_i h;rw [eq_of_beq h];refine Kj (λx hx R S hR hS=>?_) λys hy'=>?_
   ·walk_at "a";intro i i0 i1;split
    ·exact hR
    ·exact hS
   ·have e5:([Pr a,.str b,.str c,.str d,.str e]:List Wr)=[a,b,c,d,e].map .str:=rfl;rw [e5] at hy';obtain⟨zs,hz,rfl⟩:=List.sublist_map_iff.mp hy';have zl:zs.length<=5:=hz.length_le;refine⟨zs,rfl,Ce,?_⟩;have ce:bz ((kX zs).map Pr) none (some 4)=((kX zs).take 4).map .str:=by rw [Ta];exact FQ (k:=4)
    rw [ce];refine q _ (.paper hd hx hy ⟨by rw [Ro];omega,λm hm=>hn m (hz.subset ((uT zs).mem_iff.mp (RO hm))),(Gk (nd.sublist hz)).sublist (Ug _ _)⟩)
  ·rename_i hp;refine⟨bU,?_⟩;rw [bj];split
   ·rename_i h;rw [eq_of_beq h];exact⟨a,b,c,d,e,rfl,hn,λp pp=>q _ (.rule hd hx pp)⟩
   ·rename_i hr;refine⟨bU,?_⟩;rw [bj];split
    ·rename_i h;rw [eq_of_beq h];intro i i0 i1;rcases(show i=0\/i=1 by omega) with rfl | rfl
     ·exact⟨_,rfl,λj _ _=>q _ (.hold hd hx Wq hy)⟩
     ·exact⟨_,rfl,λj _ _=>q _ (.hold hd hx Wq hy)⟩
    ·rename_i ho;refine⟨bU,?_⟩;rw [bj];split
     ·rename_i h;exact q _ (.two (by rw [eq_of_beq h];simp) hd hx hy)
     ·rename_i hh;refine⟨bU,?_⟩;rw [bj];split
      ·rename_i h;exact q _ (.two (by rw [eq_of_beq h];simp) hd hx hy)
      ·rename_i hl;refine q _ (.one ?_ hd hx);simp only [Pz,PV,or_false] at hw⊢;rcases hw with h | h | h | h | h | h | h | h
       ·exact absurd (by rw [h];rfl) hp
       ·exact absurd (by rw [h];rfl) hh
       ·exact absurd (by rw [h];rfl) hr
       ·exact absurd (by rw [h];rfl) hr
       ·exact .inl h
       ·exact absurd (by rw [h];rfl) ho
       ·exact .inr h
       ·exact absurd (by rw [h];rfl) hl
theorem OC{d:Wr}(h:bo d):((kE d).map (λx:Str=>x.length)).sum+(kE d).length*(Pp " ").length<=16777216:=by
 have dw:=t6 h;have:=vT dw.2;have:=dw.1;rw [tY];omega
def OD:List Wr->(Wr->Prop)->Prop:=λds Q=>∃d,ds=[d]/\bo d/\Q (.str (bb d))
theorem OE(T:Txt K mg t):aF P w K mg base CX0 3 t.a_s t.d_s ["_law_deed"] (bg K OD):=by
 have G_p:=@Ol P w _ _ base _ T;refine T.F_s.F.okD rN (λds Q h=>?_) (λ_ _ _ _ H O ds Q E hr h=>?_)
 ·obtain⟨d,rfl,_⟩:=h;rfl
 ·obtain⟨d,rfl,hd,q⟩:=h;refine'⟨_,?A,?B⟩
  case A=>
   refine' ai ?C ?D
   case C=>
    refine' nO (i:=1) rN.nd rfl Wo ?E (hs:=Kh)
    case' E=>refine' bw ?F
    case' F=>refine' aa ?G ?H
    case G=>exact(aj aI aK (dv 0) ae)
    case' H=>refine' aa ?I ?J
    case I=>exact(ar G_p hr T.F_p (aa (aj aI aK (dv 0) ae) ah))
    case' J=>refine' aa ?K ah
    case K=>exact(aj aI aK (dv 0) ae)
   case' D=>refine' ai ?L ?M
   case L=>
    refine' aH ?N ?O aG
    case N=>exact(aD (cI hr) cJ (aj aI aK (dv 0) ae) aw (av _))
    case' O=>refine' ak ?P
    case' P=>refine' nO (i:=1) rN.nd rfl Wo ?Q (hs:=qu)
    case' Q=>refine' lq (df ?R) (df ?S)
    case R=>exact(fe (lq (dw 1) (df (fe (bw (aa (aj aI aK (dv 0) ae) ah))))))
    case S=>exact(fe (qk rfl T.n_list qf (aA (aj aI aK (dv 0) ae) aB)))
   case' M=>refine' ai ?T ?U
   case T=>
    refine' aH ?V ?W aG
    case V=>exact(aD (cI hr) cJ (aj aI aK (dv 0) ae) aw (av _))
    case' W=>refine' ai ?X ?Y
    case X=>
     refine' nO (i:=1) rN.nd rfl Wo ?Z (hs:=qu)
     case' Z=>refine' lq (dw 1) (df ?a)
     case a=>exact(fe (qk rfl T.n_list qf (aA (tq (df (aj aI aK (dv 0) ae)) kj (bP ae)) aB)))
    case' Y=>refine' ak ?b
    case' b=>refine' aH ?c ?d aG
    case c=>exact(aD (ck hr.units) cn (PE.imp (aR ke rfl T.n_len Qj (aA (aj aI aK (dv 0) ae) aB)) (aE ko)) ae (av _))
    case' d=>refine' ak ?e
    case' e=>generalize hG27:VR _ _ _ _=eg27
    refine' nO (i:=1) rN.nd rfl Wo ?f (hs:=by subst hG27;exact qu)
    case' f=>subst hG27
    refine' lq (dw 1) (df ?g)
    case' g=>refine' fe ?h
    case' h=>refine' bw ?i
    case' i=>refine' aa ?j ?k
    case j=>exact(EC aw (df (aj aI aK (aj aI aK (dv 0) ae) ae)))
    case' k=>refine' aa ?l ?m
    case l=>exact(PE.imp (cf oj rfl T.n_str mP (aA (aj aI aK (aj aI aK (dv 0) ae) ae) aB)) (aE oN))
    case' m=>refine' aa ?n ah
    case n=>exact(aj aI aK (aj aI aK (dv 0) ae) ae)
   case' U=>refine' ai ?o ?p
   case o=>
    refine' aH ?q ?r aG
    case q=>exact(aD (cI hr) cJ (aj aI aK (dv 0) ae) aw (av _))
    case' r=>refine' ak ?s
    case' s=>refine' nO (i:=1) rN.nd rfl Wo ?t (hs:=qu)
    case' t=>refine' lq (df ?u) (df ?v)
    case u=>
     refine' fe ?w
     case' w=>refine' lq (dw 1) (df ?x)
     case x=>exact(fe (qk rfl T.n_list qf (aA (aj aI aK (dv 0) ae) aB)))
    case' v=>refine' fe ?y
    case y=>exact(Lg (bw (aa aw ah)) (PE.imp (cf ux rfl T.n_int ni (aA (aj aI aK (dv 0) ae) aB)) (aE uO)))
   case' p=>refine' ai ?z ?A0
   case z=>
    refine' aH ?A1 ?A2 aG
    case A1=>exact(PW.pt (kc (aD (cI hr) cJ (aj aI aK (dv 0) ae) aw (av _)) (kF (aD (cI hr) cJ (aj aI aK (dv 0) ae) aw (av _)))))
    case' A2=>refine' ak ?A3
    case A3=>exact(sW (i:=1) (pv 1) (aj aI aK (dv 0) ae))
   case' A0=>refine' ak ?A4
   case A4=>exact(ax (mG aw (dw 1)))
  case B=>
  clear hr T G_p;have sz:=OC hd;cases hd with
  | @paper n x k ms hn hx hk hm=>
   have e:kE (.tuple [.str "paper",.int n,.str x,.str k,.tuple (ms.map .str)])=Pp "paper"::kr n::x::k::ms:=by
    show Pp "paper"::kr n::x::k::pM (.tuple (ms.map .str))=_;rw [rR]
   walk_at "a";have:=hm.len;unfold bb at q;rw [e] at sz q;exact⟨n,rfl,hn,by rw [PB];omega,_,rfl,sz,q⟩
  | two hw hn hx hy=>
   simp only [Pz,PV,or_false] at hw;rcases hw with rfl | rfl
   ·walk_at "a";exact⟨_,rfl,hn,_,rfl,sz,q⟩
   ·walk_at "a";exact⟨_,rfl,hn,_,rfl,sz,q⟩
  | rule hn hx hp=>
   cases hp with
   | wfl hw hk=>
    walk_at "a";refine⟨_,rfl,hn,?_⟩;dsimp only;rw [Wm tx];exact⟨_,rfl,sz,q⟩
   | kg hw hk hs h0 h1 hu=>
    walk_at "a";refine⟨_,rfl,hn,?_⟩;dsimp only;rw [Wn tx];obtain⟨e,z⟩:=vQ hs;exact⟨_,e,z,nW h0 Ce,_,rfl,sz,q⟩
  | one hw hn hx=>
   simp only [Pz,PV,or_false] at hw;rcases hw with rfl | rfl
   ·walk_at "a";exact⟨_,rfl,hn,_,rfl,sz,q⟩
   ·walk_at "a";exact⟨_,rfl,hn,_,rfl,sz,q⟩
  | @hold n x g y b hn hx hg hy=>
   cases b
   ·walk_at "a";exact⟨n,rfl,hn,(by show(5:Nat)<=16777216;decide),[Pp "hold",kr n,x,g,y],rfl,sz,q⟩
   ·walk_at "a";exact⟨n,rfl,hn,(by show(6:Nat)<=16777216;decide),[Pp "hold",kr n,x,g,y,Pp "deep"],rfl,sz,q⟩
end
theorem Gm:bO (az vH) ["_law_text","_law_words","_law_head","_law_more"] ["_law_word"] 1 [] ⟨Qf,[ (Pt ".0",Ym),(Pt "_law_word",Ym),(Pt "_law_name",Qm)],false,false,[]⟩:= .of
section
variable {P:WH} {w:WJ} {K:Pq} {mg:Str->Option Ws} {base:WG} {t:k8}
theorem mZ{z:Str}{Q:Wr->Prop}:BO [.str z] Q↔z.length<=1000/\Q (.bool (cC (.str z))):=⟨λuu67=>by obtain⟨_,e,h⟩:=uu67;cases e;exact h,λh=>⟨_,rfl,h⟩⟩
theorem oT{z:Str}{Q:Wr->Prop}:Gi [.str z] Q↔z.length<=1000/\Q (kY z):=⟨λuu68=>by obtain⟨_,e,h⟩:=uu68;cases e;exact h,λh=>⟨_,rfl,h⟩⟩
theorem lX{z:Str}:cC (.str z)=true↔Nm z:=⟨λh=>by obtain⟨y,e,hy⟩:=mW h;injection e with e;rw [e];exact hy,Nm.is⟩
theorem BQ{u v a:Str}:(u==a || v==a)=decide (a∈[u,v]):=by
 rw [RM,Tf,beq_iff_eq,beq_iff_eq,decide_eq_true_eq,Pz,Q9];exact or_congr eq_comm eq_comm
theorem Gn{u v w a:Str}:(u==a || (v==a || w==a))=decide (a∈[u,v,w]):=by
 rw [RM,Tf,Tf,beq_iff_eq,beq_iff_eq,beq_iff_eq,decide_eq_true_eq,Pz,Pz,Q9];exact or_congr eq_comm (or_congr eq_comm eq_comm)
theorem vX{z:Str}{c:Nat}:Txt.join ⟨#[c]⟩ (Txt.split z ⟨#[c]⟩)=z:=by
 rw [show Txt.join ⟨#[c]⟩ (Txt.split z ⟨#[c]⟩)=SJ ⟨#[c]⟩ _ from RS _ _];exact T4 z ⟨#[c]⟩
theorem OF{a b:List Str}:(Qx (a.map .str)).eqv (Qx (b.map .str))=decide (a=b):=by rw [PJ];exact vV
theorem qE{a b:List Str}:(Q8 (a.map .str)).eqv (Q8 (b.map .str))=decide (a=b):=by rw [PJ];exact vV
theorem OG{cs:List Str}{Q:Wr->Prop}{X:Prop}(hw:∀z∈cs,qC z)(q:(∀s,lR s->kl s≠cs)->Q .none)(hx:∀s,lR s->kl s=cs->X):
 PD (Qx (QZ Pr cs))=true/\PD (Qx [Pr (Pp "coming")])=true/\
  if (Qx (QZ Pr cs)).eqv (Qx [Pr (Pp "coming")])=false then
   if (((QZ Pr cs).length:Int)==2)=false then Q RV
   else ∃x,atI (QZ Pr cs) 0=some x/\PD x=true/\Q4 [Pr (Pp "first"),Pr (Pp "last")]=true/\
    if ((Pr (Pp "first")).eqv x || (Pr (Pp "last")).eqv x)=false then Q RV
    else ∃x,atI (QZ Pr cs) 1=some x/\BO [x] λd=>∃b,d=TF b/\if b=false then Q RV else X
  else X:=by
 refine⟨(pP λz hz=>(hw z hz).2).2,td,?_⟩;rw [show(Qx (QZ Pr cs)).eqv (Qx [Pr (Pp "coming")])=decide (cs=[Pp "coming"]) from OF (b:=[Pp "coming"])];by_cases hc:cs=[Pp "coming"]
 ·rw [Wm (by rw [decide_eq_true hc];decide)];exact hx _ .coming hc.symm
 ·rw [Wn (decide_eq_false hc)];have no:(∀a b,cs=[a,b]->¬(a∈[Pp "first",Pp "last"]/\Nm b))->Q .none:=λh=>q λs hs e=>by
   cases hs with
   | coming=>exact hc e.symm
   | first hh=>exact h _ _ e.symm ⟨Wq,hh⟩
   | last hh=>exact h _ _ e.symm ⟨Wq,hh⟩
  match cs,hw with
  | [a,b],hw=>
   have wa:=hw a Wq;have wb:=hw b Wq;rw [Wm Wq];refine⟨_,aX,mH.mpr wa.2,td,?_⟩;rw [bj,bj,BQ];by_cases ha:a∈[Pp "first",Pp "last"]
   ·rw [Wm (by rw [decide_eq_true ha];decide)];refine⟨_,bA,_,rfl,wb.1,_,rfl,?_⟩;by_cases hb:Nm b
    ·rw [Wm (by rw [lX.mpr hb];decide)];simp only [Pz,PV,or_false] at ha;rcases ha with rfl | rfl
     ·exact hx _ (.first hb) rfl
     ·exact hx _ (.last hb) rfl
    ·rw [Wn (by simpa using λz=>hb (lX.mp z))];exact no λ_ _ e z=>by injection e with _ e;injection e with e;exact hb (e▸z.2)
   ·rw [Wn (decide_eq_false ha)];exact no λ_ _ e z=>by injection e with e _;exact ha (e▸z.1)
  | [],_=>rw [Wn Wq];exact no λ_ _ e=>by cases e
  | [_],_=>rw [Wn Wq];exact no λ_ _ e=>by cases e
  | _::_::_::_,_=>rw [Wn (by simp;omega)];exact no λ_ _ e=>by cases e
theorem OH{z:Str}(h:Wz z):QM z=true:=nP.mpr λc hc=>Vh (h.2 c hc).2 tx
def OI:List Wr->(Wr->Prop)->Prop:=λds Q=>∃ws:List Str,ds=[.list (lD ws)]/\ws.length<=1002/\(∀z∈ws,qC z)/\(∀p,me p->lV p=ws->Q p)/\((∀p,me p->lV p≠ws)->Q .none)
theorem OJ(T:Txt K mg t):aF P w K mg base CX0 2 t.a_y t.d_y ["_law_words"] (bg K OI):=by
 have G_v:=@Ga P w _ _ base _ T;have G_w:=@Gb P w _ _ base _ T;refine T.F_y.F.okD By (λds Q h=>?_) (λ_ _ _ _ H O ds Q E hr h=>?_)
 ·obtain⟨ws,rfl,_⟩:=h;rfl
 ·obtain⟨ws,rfl,hl,hw,q1,q2⟩:=h;refine'⟨_,?A,?B⟩
  case A=>
   refine' ai ?C ?D
   case C=>
    refine' aH ?E ?F aG
    case E=>exact(PW.pt (kG (aD (ck hr.units) cn (PE.imp (aR ke rfl T.n_len Qj (aA (dv 0) aB)) (aE ko)) ae (av _)) (kG (aD (oG hr) mT (aj aO aP (dv 0) ae) (fe (bw (ny (ds:=[.str "while",.str "follow",.str "leave"]) (by rfl)))) rfl) (lF (bV (ar G_w hr T.F_w (aa (aj aO aP (dv 0) ae) ah)))))))
    case' F=>refine' ak ?G
    case G=>exact(ax (PE.imp (cf lZ rfl T.n_tuple k6 (aA (dv 0) aB)) (aE l8)))
   case' D=>refine' ai ?H ?I
   case H=>
    refine' aH ?J ?K aG
    case J=>exact(PW.pt (kc (aD (mE hr.units) mF (PE.imp (aR ke rfl T.n_len Qj (aA (dv 0) aB)) (aE ko)) ae (av _)) (kc (aD (Ae hr) mT (aj aO aP (dv 0) ae) (fe (bw (aa aw (aa aw ah)))) rfl) (kF (ki (bV (ar G_w hr T.F_w (aa (aj aO aP (dv 0) ae) ah))))))))
    case K=>refine' ak (ax kh)
   case' I=>refine' ai ?L ?M
   case L=>
    refine' aW (i:=1) By.nd rfl Wo ?N (hs:=oM)
    case N=>exact(PE.imp (cf lZ rfl T.n_tuple k6 (aA (fe (oO (aj aO aP (dv 0) ae) aw)) aB)) (aE l8))
   case' M=>refine' ai ?O ?P
   case O=>
    refine' aH ?Q ?R aG
    case Q=>exact(aD (mE hr.units) mF (dv 1) (bD (aa aw ah)) (av _))
    case' R=>refine' ak ?S
    case' S=>refine' aH ?T ?U aG
    case T=>exact(PW.pt (kc (aD (mE hr.units) mF (PE.imp (aR ke rfl T.n_len Qj (aA (dv 1) aB)) (aE ko)) ae (av _)) (kc (aD (Ae hr) mT (aj aI aK (dv 1) ae) (fe (bw (aa aw (aa aw ah)))) rfl) (kF (ki (bV (ar G_w hr T.F_w (aa (aj aI aK (dv 1) ae) ah))))))))
    case U=>refine' ak (ax kh)
   case' P=>refine' ai ?V ?W
   case V=>exact(aW (i:=2) By.nd rfl Wo (ar G_v hr T.F_v (aa (aj aO aP (dv 0) ae) (aa ae ah))))
   case' W=>refine' ai ?X ?Y
   case X=>
    refine' aH ?Z ?a aG
    case Z=>exact(PW.pt (kc (aD qQ uX (dv 2) kh (av _)) (kc (aD (mE hr.units) mF (PE.imp (cf oj rfl T.n_str mP (aA (dv 2) aB)) (aE oN)) (aj aO aP (dv 0) ae) (av _)) (kF (aD (Ae hr) mT (aj aO aP (dv 0) ae) (fe (bw (ny (ds:=[.str "days",.str "months",.str "years"]) (by rfl)))) rfl)))))
    case a=>refine' ak (ax kh)
   case' Y=>refine' ak ?b
   case' b=>refine' ax ?c
   case' c=>refine' bD ?d
   case' d=>refine' aa ?e ?f
   case e=>exact(aj aO aP (dv 0) ae)
   case' f=>refine' aa ?g ?h
   case g=>exact(aj aO aP (dv 0) ae)
   case' h=>refine' aa (dv 1) ?i
   case' i=>refine' aa (dv 2) ?j
   case' j=>refine' aa ?k ah
   case k=>exact(aj aO aP (dv 0) ae)
  case B=>
  clear hr T G_v G_w;unfold lD;have two:(∀(a b:Str),ws≠[a,b])->(∀(a b c d e:Str),ws≠[a,b,c,d,e])->Q .none:=λh h2=>q2 λp hp e=>by
   cases hp with
   | wfl _ _=>exact h _ _ e.symm
   | kg _ _ _ _ _ _=>exact h2 _ _ _ _ _ e.symm
  match ws,hl,hw,q1,q2,two with
  | [a,b],hl,hw,q1,q2,_=>
   simp only [mZ,BP,true_and,↓jg,↓jq,↓jr,↓jt,↓ju,↓jv,↓jw,↓jh,↓fE,↓iN,↓jW,↓jX,↓jY,↓jZ,↓j3,↓j5,↓iO,↓iP,↓iQ,↓iR,↓iS,↓iT,↓iU,↓iV,↓iW,↓iX,↓iY,↓iZ,↓i3,↓i4,↓i5,↓i6,↓i7,↓i8,↓i9,↓ja,↓jb,↓jd,↓je,↓jf,dE,dF,dH,dG,fV,fW,cT,dJ,dM,dR,dS,gc,di,dC,bE,dI,d3,d6,d7,gk,d8,cy,eQ,eO,eg,d9,dL,cU,dj,fR,cR,cL,bS,dm,dn,dz,dA,fT,dB,dD,cM,cN,fU,gO,gQ,gR,gS,gT,gU,gW,gX,gY,gZ,g6,g9,hG,hJ,hV,hW,hX,hZ,h7,ic,ie,ig,ij,ik,il,ip,iq,iu,iw,ix,iy,iz,iA,iB,iC,iD,iE,iF,iG,iH,iI,iJ,iK,gP,eF,gj,eR,cY,gp,gm,ei,eD,eG,eJ,eL,eM,eN,cW,eT,eV,eX,cj,gf,gh,gi,dU,dW,fX,fY,dX,fZ,dY,gb,fv,fy,fz,gL,gM,gK,gN,fk,fq,ft,fu,cz,fx,fw,fh,fj,fA,fB,fC,fD,cE,iL,iM,jj,ji,jk,jl,jm,jn,jo,fF,fG,jA,jy,jz,jx,jF,jB,jC,jD,jE,cZ,fH,jJ,jK,jG,jH,jI,jL,jM,jN,fJ,jO,jP,fK,jR,fL,jS,jT,jU,jQ,jV,fM,fN,fO,fP,j6,j7,j8,fQ,cq,gB,gC,gD,gE,gF,gG,gH,gI,gJ,ne_eq,bU,gx,gy,gz,gA,gr,gs,gu,cO,cV,dZ,dN,dQ,dP,dO,bT,bZ,bx,cu,cK,cw,Pw,Qc,Pu,P1,PH,P7,P2,PX,QD,QE,QO,QK,QP,PR,PM,Qh,P8,P9,P0,exists_eq_left',exists_eq_left,exists_and_left,exists_and_right,Qn,Qo,Sl.v.injEq,Sl.o.injEq,Sl.k.injEq,Qs,Qp,Qu,Qi,Qq,PK,and_true,true_and,QQ,Qv,exists_const,decide_eq_true_eq,QR,QS,QI,QJ,P5,decide_eq_false_iff_not,and_assoc,or_true,true_or,↓reduceIte,if_true,if_false,PZ,Qb,not_true_eq_false,not_false_eq_true,QL,QA,ite_true,ite_false,eq_self,exists_eq,reduceCtorEq,false_and,and_false,or_false,false_or,exists_false,Qw,Qz,cH,QH,QU,QC,QV,P4,QB,Qg,QN,aX,bA,b0,cX,eY,bj,cP,fg,beq_self_eq_true,eZ,ff,gn,aV,WI];have wa:=hw a Wq;have wb:=hw b Wq;have no:¬(a∈[Pp "while",Pp "follow",Pp "leave"]/\Nm b)->Q .none:=λh=>q2 λp hp e=>by
    cases hp with
    | wfl h1 h2=>
     injection e with e1 e;injection e with e2 _
     subst e1 e2;exact h ⟨h1,h2⟩
    | kg _ _ _ _ _ _=>exact absurd (congrArg Tb e) (by simp [lV])
   rw [Wn tx,Gn];refine⟨mH.mpr wa.2,td,?_⟩;by_cases ha:a∈[Pp "while",Pp "follow",Pp "leave"]
   ·rw [Wn (decide_eq_true ha)];refine⟨wb.1,?_⟩;by_cases hb:Nm b
    ·rw [Wn (lX.mpr hb)];exact q1 _ (.wfl ha hb) rfl
    ·rw [Wm (λz=>hb (lX.mp z)),Wn tx];exact no λz=>hb z.2
   ·rw [Wm (by simpa using ha),Wn tx];exact no λz=>ha z.1
  | [a,b,c,d,e],hl,hw,q1,q2,_=>
   simp only [mZ,BP,true_and,↓jg,↓jq,↓jr,↓jt,↓ju,↓jv,↓jw,↓jh,↓fE,↓iN,↓jW,↓jX,↓jY,↓jZ,↓j3,↓j5,↓iO,↓iP,↓iQ,↓iR,↓iS,↓iT,↓iU,↓iV,↓iW,↓iX,↓iY,↓iZ,↓i3,↓i4,↓i5,↓i6,↓i7,↓i8,↓i9,↓ja,↓jb,↓jd,↓je,↓jf,dE,dF,dH,dG,fV,fW,cT,dJ,dM,dR,dS,gc,di,dC,bE,dI,d3,d6,d7,gk,d8,cy,eQ,eO,eg,d9,dL,cU,dj,fR,cR,cL,bS,dm,dn,dz,dA,fT,dB,dD,cM,cN,fU,gO,gQ,gR,gS,gT,gU,gW,gX,gY,gZ,g6,g9,hG,hJ,hV,hW,hX,hZ,h7,ic,ie,ig,ij,ik,il,ip,iq,iu,iw,ix,iy,iz,iA,iB,iC,iD,iE,iF,iG,iH,iI,iJ,iK,gP,eF,gj,eR,cY,gp,gm,ei,eD,eG,eJ,eL,eM,eN,cW,eT,eV,eX,cj,gf,gh,gi,dU,dW,fX,fY,dX,fZ,dY,gb,fv,fy,fz,gL,gM,gK,gN,fk,fq,ft,fu,cz,fx,fw,fh,fj,fA,fB,fC,fD,cE,iL,iM,jj,ji,jk,jl,jm,jn,jo,fF,fG,jA,jy,jz,jx,jF,jB,jC,jD,jE,cZ,fH,jJ,jK,jG,jH,jI,jL,jM,jN,fJ,jO,jP,fK,jR,fL,jS,jT,jU,jQ,jV,fM,fN,fO,fP,j6,j7,j8,fQ,cq,gB,gC,gD,gE,gF,gG,gH,gI,gJ,ne_eq,bU,gx,gy,gz,gA,gr,gs,gu,cO,cV,dZ,dN,dQ,dP,dO,bT,bZ,bx,cu,cK,cw,Pw,Qc,Pu,P1,PH,P7,P2,PX,QD,QE,QO,QK,QP,PR,PM,Qh,P8,P9,P0,exists_eq_left',exists_eq_left,exists_and_left,exists_and_right,Qn,Qo,Sl.v.injEq,Sl.o.injEq,Sl.k.injEq,Qs,Qp,Qu,Qi,Qq,PK,and_true,true_and,QQ,Qv,exists_const,decide_eq_true_eq,QR,QS,QI,QJ,P5,decide_eq_false_iff_not,and_assoc,or_true,true_or,↓reduceIte,if_true,if_false,PZ,Qb,not_true_eq_false,not_false_eq_true,QL,QA,ite_true,ite_false,eq_self,exists_eq,reduceCtorEq,false_and,and_false,or_false,false_or,exists_false,Qw,Qz,cH,QH,QU,QC,QV,P4,QB,Qg,QN,aX,bA,b0,cX,eY,bj,cP,fg,beq_self_eq_true,eZ,ff,gn,aV,WI];have wa:=hw a Wq;have wb:=hw b Wq;have wc:=hw c Wq;have wd:=hw d Wq;have we:=hw e Wq
   have no:¬(a∈[Pp "keep",Pp "gone"]/\Nm b/\(∃s,lR s/\kl s=Txt.split c (Pp ":"))/\(mr d 3/\ku (nv d)=d)/\e∈[Pp "days",Pp "months",Pp "years"])->Q .none:=λh=>q2 λp hp ee=>by
    cases hp with
    | wfl _ _=>exact absurd (congrArg Tb ee) (by simp [lV])
    | @kg _ _ _ s m hw2 hk hs h0 h1 hu=>
     injection ee with e1 ee;injection ee with e2 ee;injection ee with e3 ee;injection ee with e4 ee;injection ee with e5 _
     subst e1 e2 e3 e4 e5;have sw:=BH hs;obtain⟨⟨l1,l2⟩,f1,f2,_⟩:=BG h0 h1;have rd:intText? (ku m)=some m:=by
      obtain⟨k,rfl⟩:=Q0 h0;exact UR Ce Ce
     refine h ⟨hw2,hk,⟨s,hs,?_⟩,⟨⟨l2,by show((ku m).length:Int)<=3;omega,f1⟩,?_⟩,hu⟩
     ·rw [rS,vS sw.1 λz hz=>(sw.2 z hz).2.1]
     ·show ku (nv (ku m))=ku m;unfold nv;rw [rd];rfl
   rw [Wm tx,Wm tx,BQ,Gn];refine⟨mH.mpr wa.2,td,?_⟩;by_cases ha:a∈[Pp "keep",Pp "gone"]
   ·rw [Wm (by rw [decide_eq_true ha];decide)];refine⟨wb.1,?_⟩;by_cases hb:Nm b
    ·rw [Wm (by rw [lX.mpr hb];decide)];refine⟨td,by have:=wc.1;omega,OG (λz hz=>?_) (λh=>no λz=>?_) λs hs es=>?_⟩
     ·rw [rS] at hz;exact⟨Qt (uf hz) wc.1,ug wc.2 hz⟩
     ·obtain⟨s,hs,es⟩:=z.2.2.1;exact h s hs es
     ·refine⟨wd.1,?_⟩;by_cases hf:mr d 3
      ·have ef:kZ d 3= .int (nv d):=by unfold kZ;rw [Wn hf]
       have dl:d.length<=3:=by have:=hf.2.1;omega
       obtain⟨y,y1,y2⟩:=BL hf.2.2 (by have:=hf.1;omega) Ce;have en:nv d=y:=by unfold nv;rw [y2];rfl
       have nw:=FO (m:=(y:Int)) Ce Ce;rw [ef,en,Wm (by simp [lT])];refine⟨_,rfl,nW Ce Ce,mH.mpr (OH nw),mH.mpr wd.2,?_⟩;by_cases ed:ku (y:Int)=d
       ·rw [Wm (by rw [show Pp (toString (y:Int))=d from ed];simp)];refine⟨mH.mpr we.2,td,?_⟩;by_cases hu:e∈[Pp "days",Pp "months",Pp "years"]
        ·rw [Wm (by rw [decide_eq_true hu];decide)];have ex:Qx (QZ .str (Txt.split c (Pp ":")))=s:=by rw [<-es];exact(vQ hs).1.symm
         rw [ex];refine q1 _ (.kg ha hb hs Ce Ce hu) ?_;show [a,b,Txt.join (Pp ":") (kl s),ku (y:Int),e]=_;rw [es,ed,rS,vX]
        ·rw [Wn (decide_eq_false hu)];exact no λz=>hu z.2.2.2.2
       ·rw [Wn (show(Pp (toString (y:Int))==d)=false from beq_eq_false_iff_ne.mpr ed)];exact no λz=>ed (by rw [<-en];exact z.2.2.2.1.2)
      ·have ef:kZ d 3= .none:=by unfold kZ;rw [Wm hf]
       rw [ef,Wn tx];exact no λz=>hf z.2.2.2.1.1
    ·rw [Wn (by simpa using λz=>hb (lX.mp z))];exact no λz=>hb z.2.1
   ·rw [Wn (decide_eq_false ha)];exact no λz=>ha z.1
  | [],_,_,_,q2,two=>walk_at "a";rw [Wm tx,Wn tx];exact two (λ_ _ e=>by cases e) λ_ _ _ _ _ e=>by cases e
  | [_],_,_,_,q2,two=>walk_at "a";rw [Wm tx,Wn tx];exact two (λ_ _ e=>by cases e) λ_ _ _ _ _ e=>by cases e
  | [_,_,_],_,_,_,q2,two=>walk_at "a";rw [Wm tx,Wn tx];exact two (λ_ _ e=>by cases e) λ_ _ _ _ _ e=>by cases e
  | [_,_,_,_],_,_,_,q2,two=>walk_at "a";rw [Wm tx,Wn tx];exact two (λ_ _ e=>by cases e) λ_ _ _ _ _ e=>by cases e
  | _::_::_::_::_::_::r,_,_,_,q2,two=>walk_at "a";rw [Wm (by simp;omega),Wn (by simp;omega)];exact two (λ_ _ e=>by cases e) λ_ _ _ _ _ e=>by cases e
theorem OK{z:Str}(h:bK z 4=true):∃y:Nat,y < 10000/\z=⟨(d4 y).toArray⟩:=by
 unfold bK at h;rw [P6,decide_eq_true_eq,Rh] at h;obtain⟨hl,hm⟩:=h;have hz:z.cps.toList.length=4:=by rw [show z.cps.toList.length=z.length from PY];omega
 match e:z.cps.toList,hz with
 | [a,b,c,d],_=>
  rw [e] at hm;have f:∀x∈[a,b,c,d],48<=x/\x < 58:=λx hx=>tV (by simpa using hm x hx);have ha:=f a Wq;have hb:=f b Wq;have hc:=f c Wq;have hd:=f d Wq;refine⟨(a - 48)*1000+(b - 48)*100+(c - 48)*10+(d - 48),Ce,(pL e).trans (congrArg (λl:List Nat=>(⟨l.toArray⟩:Str)) ?_)⟩;unfold d4;rw [PK,PK,PK,PK];exact⟨Ce,Ce,Ce,Ce,rfl⟩
theorem Gp{z:Str}(h:bK z 2=true):∃y:Nat,y < 100/\z=⟨(d2 y).toArray⟩:=by
 unfold bK at h;rw [P6,decide_eq_true_eq,Rh] at h;obtain⟨hl,hm⟩:=h;have hz:z.cps.toList.length=2:=by rw [show z.cps.toList.length=z.length from PY];omega
 match e:z.cps.toList,hz with
 | [a,b],_=>
  rw [e] at hm;have f:∀x∈[a,b],48<=x/\x < 58:=λx hx=>tV (by simpa using hm x hx);have ha:=f a Wq;have hb:=f b Wq;refine⟨(a - 48)*10+(b - 48),Ce,(pL e).trans (congrArg (λl:List Nat=>(⟨l.toArray⟩:Str)) ?_)⟩;unfold d2;rw [PK,PK];exact⟨Ce,Ce,rfl⟩
theorem OL{z:Str}{k:Int}(h:mf z=some k):z=kr k/\lu k:=by
 have hj:=vX (z:=z) (c:=45);rw [show(⟨#[45]⟩:Str)=Pp "-" by decide+kernel] at hj;unfold mf at h;generalize Txt.split z (Pp "-")=ws at*
 match ws with
 | [a,b,c]=>
  simp only [] at h;split at h
  ·rename_i hc;obtain⟨fa,fb,fc,hd,hn⟩:=hc;injection h with h
   obtain⟨y,y1,rfl⟩:=OK fa;obtain⟨m,m1,rfl⟩:=Gp fb;obtain⟨n,n1,rfl⟩:=Gp fc;have v1:nv ⟨(d4 y).toArray⟩=y:=by
    unfold nv;obtain⟨y',_,_,e,_⟩:=tW fa;by_cases q:y < 1000
    ·rw [Ft ⟨y,q⟩];rfl
    ·rw [AF Ce Ce];rfl
   have v2:nv ⟨(d2 m).toArray⟩=m:=by unfold nv;rw [rC ⟨m,m1⟩];rfl
   have v3:nv ⟨(d2 n).toArray⟩=n:=by unfold nv;rw [rC ⟨n,n1⟩];rfl
   rw [v1,v2,v3] at hd hn h;have D:lH k y m n:=⟨hd.2.2.1,hd.2.2.2.1,hd.2.2.2.2.1,hd.2.2.2.2.2,h⟩;have nn:=Fy hd;refine⟨?_,Ce,Ce⟩;rw [<-vP D,<-hj,<-FZ];simp only [Q7]
  ·cases h
 | []=>cases h
 | [_]=>cases h
 | [_,_]=>cases h
 | _::_::_::_::_=>cases h
theorem OM{ms:List Str}(h:ms.Pairwise pG):kX (ms.foldl kC [])=ms:=by
 have nd:ms.Nodup:=h.imp λ{a b} z e=>by subst e;exact absurd z (List.lt_irrefl _)
 refine(Af ?_ (h.imp λ{a b} z=>decide_eq_true (Std.le_of_lt z))).symm;exact(List.perm_ext_iff_of_nodup nd (Aq .nil)).mpr λa=>by rw [Ap];simp
structure DW (w:Str) (more:List Str):Prop where
 fin:w∈(["end","lift"]:List Str)->more=[]
 tw:w∈(["happens","leave"]:List Str)->∃y,more=[y]/\Nm y
 ru:w="rule"->∃p,me p/\lV p=more
 ho:w="hold"->∃g y,g∈(["paper","kind"]:List Str)/\Nm y/\(more=[g,y]\/more=[g,y,"deep"])
 pa:w="paper"->∃k ms,more=k::ms/\Nm k/\Al ms
 al:w∈(["end","lift","happens","leave","hold","paper","rule"]:List Str)
theorem Gq{p:Wr}(h:me p):lW [p]=lV p:=by cases h <;> rfl
theorem ON{w x:Str}{n:Int}{r:List Wr}(h:bo (.tuple (.str w:: .int n:: .str x::r))):DW w (lW r):=by
 have nm:∀{u:Str}{l m:List Str},u∈l->(∀z∈l,z ∉ m)->u ∉ m:=λh h2=>h2 _ h;have ne:∀{u v:Str}{l:List Str},u∈l->(∀z∈l,z≠v)->u≠v:=λh h2=>h2 _ h;cases h with
 | @paper _ _ k ms _ _ hk hm=>
  have e:lW [Pr k,Qx (QZ Pr ms)]=k::ms:=by
   show k::pM (.tuple (ms.map .str))=_;rw [rR]
  rw [e];exact⟨λz=>absurd z td,λz=>absurd z td,λz=>absurd z td,λz=>absurd z td,λ_=>⟨k,ms,rfl,hk,hm⟩,td⟩
 | two hw _ _ hy=>exact⟨λz=>absurd z (nm hw td),λ_=>⟨_,rfl,hy⟩,λz=>absurd z (ne hw td),λz=>absurd z (ne hw td),λz=>absurd z (ne hw td),by
  simp only [Pz,PV,or_false] at hw⊢;rcases hw with h | h <;> simp [h]⟩
 | rule _ _ hp=>
  rw [Gq hp];exact⟨λz=>absurd z td,λz=>absurd z td,λ_=>⟨_,hp,rfl⟩,λz=>absurd z td,λz=>absurd z td,td⟩
 | one hw=>exact⟨λ_=>rfl,λz=>absurd z (nm hw td),λz=>absurd z (ne hw td),λz=>absurd z (ne hw td),λz=>absurd z (ne hw td),by
  simp only [Pz,PV,or_false] at hw⊢;rcases hw with h | h <;> simp [h]⟩
 | @hold _ _ g y b _ _ hg hy=>exact⟨λz=>absurd z td,λz=>absurd z td,λz=>absurd z td,λ_=>⟨g,y,hg,hy,by cases b;exact .inl rfl;exact .inr rfl⟩,λz=>absurd z td,td⟩
def OO:List Wr->(Wr->Prop)->Prop:=λds Q=>∃z,ds=[.str z]/\qC z/\(∀d,bo d->bb d=z->Q d)/\((∀d,bo d->bb d≠z)->Q .none)
theorem OP(T:Txt K mg t):aF P w K mg base CX0 3 t.a_z t.d_z ["_law_text"] (bg K OO):=by
 have G_x:=@Oy P w _ _ base _ T;have G_w:=@Gb P w _ _ base _ T;have G_y:=@OJ P w _ _ base _ T;refine T.F_z.F.okD vK (λds Q h=>?_) (λ_ _ _ _ H O ds Q E hr h=>?_)
 ·obtain⟨d,rfl,_⟩:=h;rfl
 ·obtain⟨z,rfl,hz,q1,q2⟩:=h;refine'⟨_,?A,?B⟩
  case A=>
   refine' ai ?C ?D
   case C=>exact(aW (i:=1) vK.nd rfl Wo (fe (oO (dv 0) aw)))
   case' D=>refine' ai ?E ?F
   case E=>
    refine' aH ?G ?H aG
    case G=>exact(PW.pt (kc (aD qP bX (PE.imp (aR ke rfl T.n_len Qj (aA (dv 1) aB)) (aE ko)) ae (av _)) (kc (aD qQ uX (ar G_x hr T.F_x (aa (aj aO aP (dv 1) ae) ah)) kh (av _)) (kF (ki (bV (ar G_w hr T.F_w (aa (aj aO aP (dv 1) ae) ah))))))))
    case H=>refine' ak (ax kh)
   case' F=>refine' ai ?I ?J
   case I=>
    refine' aW (i:=2) vK.nd rfl Wo ?K (hs:=An)
    case' K=>refine' bD ?L
    case' L=>refine' aa ?M ?N
    case M=>exact(aj aO aP (dv 1) ae)
    case' N=>refine' aa ?O ?P
    case O=>exact(ar G_x hr T.F_x (aa (aj aO aP (dv 1) ae) ah))
    case' P=>refine' aa ?Q ah
    case Q=>exact(aj aO aP (dv 1) ae)
   case' J=>refine' ai ?R ?S
   case R=>exact(aW (i:=3) vK.nd rfl Wo (fe (kB (df (dv 1)) (bP ae) kj)))
   case' S=>refine' ai ?T ?U
   case T=>
    refine' aH ?V ?W aG
    case V=>exact(PW.pt (kG (aD (oG hr) mT (aj aO aP (dv 1) ae) (fe (bw (aa aw (aa aw ah)))) rfl) (lF (aD (ck hr.units) cn (dv 3) (fe (bw ah)) (av _)))))
    case' W=>refine' ak ?X
    case X=>exact(ax (dv 2))
   case' U=>refine' ai ?Y ?Z
   case Y=>
    refine' aH ?a ?b aG
    case a=>exact(PW.pt (kG (aD (oG hr) mT (aj aO aP (dv 1) ae) (fe (bw (aa aw (aa aw ah)))) rfl) (kG (aD (ck hr.units) cn (PE.imp (aR ke rfl T.n_len Qj (aA (dv 3) aB)) (aE ko)) ae (av _)) (lF (bV (ar G_w hr T.F_w (aa (aj aO aP (dv 3) ae) ah)))))))
    case' b=>refine' ak ?c
    case c=>exact(ax (aS nR nS (dv 2) (bD (aa (aj aO aP (dv 3) ae) ah))))
   case' Z=>refine' ai ?d ?e
   case d=>
    refine' aH ?f ?g aG
    case f=>exact(PW.pt (kG (aD (cI hr) cJ (aj aO aP (dv 1) ae) aw (av _)) (kG (aD pd bX (PE.imp (aR ke rfl T.n_len Qj (aA (dv 3) aB)) (aE ko)) ae (av _)) (kG (aD (oG hr) mT (aj aO aP (dv 3) ae) (fe (bw (aa aw (aa aw ah)))) rfl) (lF (bV (ar G_w hr T.F_w (aa (aj aO aP (dv 3) ae) ah))))))))
    case' g=>refine' ak ?h
    case' h=>generalize hG30:VU _ _ _=eg30
    refine' ax ?i
    case' i=>subst hG30
    refine' pA aO aP (df ?j) ?k
    case j=>
     refine' fe ?l
     case' l=>refine' bw ?m
     case' m=>refine' aa kh ?n
     case' n=>refine' aa ?o ah
     case' o=>refine' aS nR nS (dv 2) ?p
     case' p=>refine' bD ?q
     case' q=>refine' aa ?r ?s
     case r=>exact(PE.imp (cf lZ rfl T.n_tuple k6 (aA (fe (kB (df (dv 3)) kj (bP ae))) aB)) (aE l8))
     case' s=>refine' aa ?t ah
     case t=>exact(fS (ck hr.units) cn (df (fe (kB (df (dv 3)) (bP ae) kj))) (df (fe (bw (aa aw ah)))) (av _))
    case k=>exact(df (PE.imp (cf ux rfl T.n_int ni (aA (fS (oG hr) mT (df (fe (kB (df (dv 3)) (bP ae) kj))) (df (fe (bw (aa (fe (bw ah)) (aa (fe (bw (aa aw ah))) ah))))) rfl) aB)) (aE uO)))
   case' e=>refine' ai ?u ?v
   case u=>
    refine' aH ?w ?x aG
    case w=>exact(PW.pt (kG (aD (cI hr) cJ (aj aO aP (dv 1) ae) aw (av _)) (kG (pw kn kn bX bX (df ae) (df (PE.imp (aR ke rfl T.n_len Qj (aA (dv 3) aB)) (aE ko))) (df ae)) (lF (bV (PE.imp (aR (pk rfl) rfl T.n_all pq (aA (fe (oC rfl Gm (df (dv 3)) bW kU tx (λ_ _ _ _=>(bM (i:=0) Gm.nd rfl Wo)) (λ_ _ _ _=>kW) (λ_ _ _ _=>(ar G_w hr T.F_w (aa (dv 0) ah))))) aB)) (aE nu)))))))
    case' x=>refine' ak ?y
    case' y=>generalize hG49:VU _ _ _=eg49
    refine' ax ?z
    case' z=>subst hG49
    refine' pA aO aP (df ?A0) ?A1
    case A0=>
     refine' fe ?A2
     case' A2=>refine' bw ?A3
     case' A3=>refine' aa kh ?A4
     case' A4=>refine' aa ?A5 ah
     case' A5=>refine' aS nR nS (dv 2) ?A6
     case' A6=>refine' bD ?A7
     case' A7=>refine' aa ?A8 ?A9
     case A8=>exact(aj aO aP (dv 3) ae)
     case' A9=>refine' aa ?AA ah
     case AA=>exact(PE.imp (cf lZ rfl T.n_tuple k6 (aA (fe (kB (df (dv 3)) (bP ae) kj)) aB)) (aE l8))
    case A1=>exact(df (PE.imp (cf ux rfl T.n_int ni (aA (fS (ck hr.units) cn (df (fe (kB (df (dv 3)) (bP ae) kj))) (df (fe (KZ rfl rfl T.n_sorted Uu rfl T.n_set (aA (fe (kB (df (dv 3)) (bP ae) kj)) aB)))) (av _)) aB)) (aE uO)))
   case' v=>refine' ai ?AB ?AC
   case AB=>
    refine' aH ?AD ?AE aG
    case AD=>exact(PW.pt (kG (aD (cI hr) cJ (aj aO aP (dv 1) ae) aw (av _)) (lF (aD Cf Ko (ar G_y hr T.F_y (aa (dv 3) ah)) kh (av _)))))
    case' AE=>refine' ak ?AF
    case AF=>exact(ax (aS nR nS (dv 2) (bD (aa (ar G_y hr T.F_y (aa (dv 3) ah)) ah))))
   case AC=>refine' ak (ax kh)
  case B=>
  clear hr T G_x G_w G_y;simp only [mZ,oT,true_and,↓jg,↓jq,↓jr,↓jt,↓ju,↓jv,↓jw,↓jh,↓fE,↓iN,↓jW,↓jX,↓jY,↓jZ,↓j3,↓j5,↓iO,↓iP,↓iQ,↓iR,↓iS,↓iT,↓iU,↓iV,↓iW,↓iX,↓iY,↓iZ,↓i3,↓i4,↓i5,↓i6,↓i7,↓i8,↓i9,↓ja,↓jb,↓jd,↓je,↓jf,dE,dF,dH,dG,fV,fW,cT,dJ,dM,dR,dS,gc,di,dC,bE,dI,d3,d6,d7,gk,d8,cy,eQ,eO,eg,d9,dL,cU,dj,fR,cR,cL,bS,dm,dn,dz,dA,fT,dB,dD,cM,cN,fU,gO,gQ,gR,gS,gT,gU,gW,gX,gY,gZ,g6,g9,hG,hJ,hV,hW,hX,hZ,h7,ic,ie,ig,ij,ik,il,ip,iq,iu,iw,ix,iy,iz,iA,iB,iC,iD,iE,iF,iG,iH,iI,iJ,iK,gP,eF,gj,eR,cY,gp,gm,ei,eD,eG,eJ,eL,eM,eN,cW,eT,eV,eX,cj,gf,gh,gi,dU,dW,fX,fY,dX,fZ,dY,gb,fv,fy,fz,gL,gM,gK,gN,fk,fq,ft,fu,cz,fx,fw,fh,fj,fA,fB,fC,fD,cE,iL,iM,jj,ji,jk,jl,jm,jn,jo,fF,fG,jA,jy,jz,jx,jF,jB,jC,jD,jE,cZ,fH,jJ,jK,jG,jH,jI,jL,jM,jN,fJ,jO,jP,fK,jR,fL,jS,jT,jU,jQ,jV,fM,fN,fO,fP,j6,j7,j8,fQ,cq,gB,gC,gD,gE,gF,gG,gH,gI,gJ,ne_eq,bU,gx,gy,gz,gA,gr,gs,gu,cO,cV,dZ,dN,dQ,dP,dO,bT,bZ,bx,cu,cK,cw,Pw,Qc,Pu,P1,PH,P7,P2,PX,QD,QE,QO,QK,QP,PR,PM,Qh,P8,P9,P0,exists_eq_left',exists_eq_left,exists_and_left,exists_and_right,Qn,Qo,Sl.v.injEq,Sl.o.injEq,Sl.k.injEq,Qs,Qp,Qu,Qi,Qq,PK,and_true,true_and,QQ,Qv,exists_const,decide_eq_true_eq,QR,QS,QI,QJ,P5,decide_eq_false_iff_not,and_assoc,or_true,true_or,↓reduceIte,if_true,if_false,PZ,Qb,not_true_eq_false,not_false_eq_true,QL,QA,ite_true,ite_false,eq_self,exists_eq,reduceCtorEq,false_and,and_false,or_false,false_or,exists_false,Qw,Qz,cH,QH,QU,QC,QV,P4,QB,Qg,QN,aX,bA,b0,cX,eY,bj,cP,fg,beq_self_eq_true,eZ,ff,gn,aV,WI];have hd:∀d,bo d->bb d=z->kE d=Txt.split z (Pp " "):=λd h e=>by rw [<-e,(ue h).1]
  have hd2:∀d,bo d->kE d=Txt.split z (Pp " ")->bb d=z:=λd h e=>by
   unfold bb;rw [e,pN,vX]
  have hb:∀p∈Txt.split z (Pp " "),qC p:=λp hp=>by
   rw [pN] at hp;exact⟨Qt (uf hp) hz.1,ug hz.2 hp⟩
  have hl:(Txt.split z (Pp " ")).length<=1002:=Qt (S4 z _) (by have:=hz.1;omega);refine⟨td,by have:=hz.1;omega,?_⟩
  replace q1:∀d,bo d->kE d=Txt.split z (Pp " ")->Q d:=λd h e=>q1 d h (hd2 d h e)
  replace q2:(∀d,bo d->kE d≠Txt.split z (Pp " "))->Q .none:=λh=>q2 λd h2 e=>h d h2 (hd d h2 e)
  clear hd hd2 hz;generalize Txt.split z (Pp " ")=ws at*;clear z;have few:ws.length < 3->Q .none:=λh=>q2 λd hv e=>by
   obtain⟨w,n,x,r,rfl,_⟩:=oS hv;rw [<-e] at h;simp only [kE,Pu] at h;omega
  match ws with
  | []=>rw [Wn Wq];exact few Wq
  | [_]=>rw [Wn Wq];exact few Wq
  | [_,_]=>rw [Wn Wq];exact few Wq
  | w::b::x::more=>
   clear few;rw [Wm (by simp only [PB,Pu];omega)];have ec:bz (QZ Pr (w::b::x::more)) (some 3) none=more.map .str:=by
    rw [show bz (QZ Pr (w::b::x::more)) (some 3) none=_ from pO (k:=3)];rfl
   simp only [ec];have ww:=hb w Wq;have wb:=hb b Wq;have wx:=hb x Wq;have hm:∀z∈more,qC z:=λz hz=>hb z (by simp [hz]);have lm:more.length<=1000:=by simp only [Pu] at hl;omega
   clear hb hl ec;have hday:(∃n,b=kr n/\kY b= .int n/\lu n)\/kY b= .none/\Q .none:=by
    cases e:mf b with
    | none=>exact .inr ⟨by unfold kY;rw [e],q2 λd hv ee=>by
     obtain⟨w',n,x',r,rfl,hn⟩:=oS hv;simp only [kE,PK] at ee;rw [<-ee.2.1,FU hn] at e;cases e⟩
    | some n=>
     obtain⟨h1,h2⟩:=OL e;exact .inl ⟨n,h1,by unfold kY;rw [e],h2⟩
   by_cases hx:Nm x
   ·rcases hday with⟨n,rfl,en,hn⟩ | ⟨en,qn⟩
    ·have hx2:cC (.str x)=true:=lX.mpr hx;have key:(DW w more->False)->Q .none:=λh=>q2 λd hv ee=>by
      obtain⟨w',n',x',r,rfl,hn'⟩:=oS hv;simp only [kE,PK] at ee;obtain⟨rfl,e2,rfl,e4⟩:=ee;rw [<-e4] at h;exact h (ON hv)
     simp only [Pw,aX,bA,b0];refine⟨_,rfl,_,rfl,wb.1,?_⟩;dsimp only;rw [en,Wm (show ¬lT (PN n)=true from λz=>by cases z)];refine⟨_,rfl,x,rfl,wx.1,_,rfl,?_⟩;rw [hx2,Wm (show ¬true=false by decide)];refine⟨_,rfl,_,rfl,_,rfl,wb.1,_,rfl,?_⟩;by_cases hw:w∈[Pp "end",Pp "lift",Pp "happens",Pp "leave",Pp "hold",Pp "paper",Pp "rule"]
     ·simp only [Pz,PV,or_false] at hw;rcases hw with rfl | rfl | rfl | rfl | rfl | rfl | rfl
      ·simp only [mZ,oT,en,↓jg,↓jq,↓jr,↓jt,↓ju,↓jv,↓jw,↓jh,↓fE,↓iN,↓jW,↓jX,↓jY,↓jZ,↓j3,↓j5,↓iO,↓iP,↓iQ,↓iR,↓iS,↓iT,↓iU,↓iV,↓iW,↓iX,↓iY,↓iZ,↓i3,↓i4,↓i5,↓i6,↓i7,↓i8,↓i9,↓ja,↓jb,↓jd,↓je,↓jf,dE,dF,dH,dG,fV,fW,cT,dJ,dM,dR,dS,gc,di,dC,bE,dI,d3,d6,d7,gk,d8,cy,eQ,eO,eg,d9,dL,cU,dj,fR,cR,cL,bS,dm,dn,dz,dA,fT,dB,dD,cM,cN,fU,gO,gQ,gR,gS,gT,gU,gW,gX,gY,gZ,g6,g9,hG,hJ,hV,hW,hX,hZ,h7,ic,ie,ig,ij,ik,il,ip,iq,iu,iw,ix,iy,iz,iA,iB,iC,iD,iE,iF,iG,iH,iI,iJ,iK,gP,eF,gj,eR,cY,gp,gm,ei,eD,eG,eJ,eL,eM,eN,cW,eT,eV,eX,cj,gf,gh,gi,dU,dW,fX,fY,dX,fZ,dY,gb,fv,fy,fz,gL,gM,gK,gN,fk,fq,ft,fu,cz,fx,fw,fh,fj,fA,fB,fC,fD,cE,iL,iM,jj,ji,jk,jl,jm,jn,jo,fF,fG,jA,jy,jz,jx,jF,jB,jC,jD,jE,cZ,fH,jJ,jK,jG,jH,jI,jL,jM,jN,fJ,jO,jP,fK,jR,fL,jS,jT,jU,jQ,jV,fM,fN,fO,fP,j6,j7,j8,fQ,cq,gB,gC,gD,gE,gF,gG,gH,gI,gJ,ne_eq,bU,gx,gy,gz,gA,gr,gs,gu,cO,cV,dZ,dN,dQ,dP,dO,bT,bZ,bx,cu,cK,cw,Pw,Qc,Pu,P1,PH,P7,P2,PX,QD,QE,QO,QK,QP,PR,PM,Qh,P8,P9,P0,exists_eq_left',exists_eq_left,exists_and_left,exists_and_right,Qn,Qo,Sl.v.injEq,Sl.o.injEq,Sl.k.injEq,Qs,Qp,Qu,Qi,Qq,PK,and_true,true_and,QQ,Qv,exists_const,decide_eq_true_eq,QR,QS,QI,QJ,P5,decide_eq_false_iff_not,and_assoc,or_true,true_or,↓reduceIte,if_true,if_false,PZ,Qb,not_true_eq_false,not_false_eq_true,QL,QA,ite_true,ite_false,eq_self,exists_eq,reduceCtorEq,false_and,and_false,or_false,false_or,exists_false,Qw,Qz,cH,QH,QU,QC,QV,P4,QB,Qg,QN,aX,bA,b0,cX,eY,bj,cP,fg,beq_self_eq_true,eZ,ff,gn,aV,WI];refine⟨td,td,(pP λz hz=>(hm z hz).2).1,td,?_⟩
       rw [show(Q8 (QZ Pr more)).eqv (Q8 [])=decide (more=[]) from qE (b:=[])];by_cases he:more=[]
       ·rw [Wn (decide_eq_true he)];exact q1 _ (.one Wq hn hx) (by rw [he];rfl)
       ·rw [Wm (by simpa using he)];exact⟨td,td,key λk=>he (k.fin td)⟩
      ·simp only [mZ,oT,en,↓jg,↓jq,↓jr,↓jt,↓ju,↓jv,↓jw,↓jh,↓fE,↓iN,↓jW,↓jX,↓jY,↓jZ,↓j3,↓j5,↓iO,↓iP,↓iQ,↓iR,↓iS,↓iT,↓iU,↓iV,↓iW,↓iX,↓iY,↓iZ,↓i3,↓i4,↓i5,↓i6,↓i7,↓i8,↓i9,↓ja,↓jb,↓jd,↓je,↓jf,dE,dF,dH,dG,fV,fW,cT,dJ,dM,dR,dS,gc,di,dC,bE,dI,d3,d6,d7,gk,d8,cy,eQ,eO,eg,d9,dL,cU,dj,fR,cR,cL,bS,dm,dn,dz,dA,fT,dB,dD,cM,cN,fU,gO,gQ,gR,gS,gT,gU,gW,gX,gY,gZ,g6,g9,hG,hJ,hV,hW,hX,hZ,h7,ic,ie,ig,ij,ik,il,ip,iq,iu,iw,ix,iy,iz,iA,iB,iC,iD,iE,iF,iG,iH,iI,iJ,iK,gP,eF,gj,eR,cY,gp,gm,ei,eD,eG,eJ,eL,eM,eN,cW,eT,eV,eX,cj,gf,gh,gi,dU,dW,fX,fY,dX,fZ,dY,gb,fv,fy,fz,gL,gM,gK,gN,fk,fq,ft,fu,cz,fx,fw,fh,fj,fA,fB,fC,fD,cE,iL,iM,jj,ji,jk,jl,jm,jn,jo,fF,fG,jA,jy,jz,jx,jF,jB,jC,jD,jE,cZ,fH,jJ,jK,jG,jH,jI,jL,jM,jN,fJ,jO,jP,fK,jR,fL,jS,jT,jU,jQ,jV,fM,fN,fO,fP,j6,j7,j8,fQ,cq,gB,gC,gD,gE,gF,gG,gH,gI,gJ,ne_eq,bU,gx,gy,gz,gA,gr,gs,gu,cO,cV,dZ,dN,dQ,dP,dO,bT,bZ,bx,cu,cK,cw,Pw,Qc,Pu,P1,PH,P7,P2,PX,QD,QE,QO,QK,QP,PR,PM,Qh,P8,P9,P0,exists_eq_left',exists_eq_left,exists_and_left,exists_and_right,Qn,Qo,Sl.v.injEq,Sl.o.injEq,Sl.k.injEq,Qs,Qp,Qu,Qi,Qq,PK,and_true,true_and,QQ,Qv,exists_const,decide_eq_true_eq,QR,QS,QI,QJ,P5,decide_eq_false_iff_not,and_assoc,or_true,true_or,↓reduceIte,if_true,if_false,PZ,Qb,not_true_eq_false,not_false_eq_true,QL,QA,ite_true,ite_false,eq_self,exists_eq,reduceCtorEq,false_and,and_false,or_false,false_or,exists_false,Qw,Qz,cH,QH,QU,QC,QV,P4,QB,Qg,QN,aX,bA,b0,cX,eY,bj,cP,fg,beq_self_eq_true,eZ,ff,gn,aV,WI];refine⟨td,td,(pP λz hz=>(hm z hz).2).1,td,?_⟩
       rw [show(Q8 (QZ Pr more)).eqv (Q8 [])=decide (more=[]) from qE (b:=[])];by_cases he:more=[]
       ·rw [Wn (decide_eq_true he)];exact q1 _ (.one Wq hn hx) (by rw [he];rfl)
       ·rw [Wm (by simpa using he)];exact⟨td,td,key λk=>he (k.fin td)⟩
      ·simp only [mZ,oT,en,↓jg,↓jq,↓jr,↓jt,↓ju,↓jv,↓jw,↓jh,↓fE,↓iN,↓jW,↓jX,↓jY,↓jZ,↓j3,↓j5,↓iO,↓iP,↓iQ,↓iR,↓iS,↓iT,↓iU,↓iV,↓iW,↓iX,↓iY,↓iZ,↓i3,↓i4,↓i5,↓i6,↓i7,↓i8,↓i9,↓ja,↓jb,↓jd,↓je,↓jf,dE,dF,dH,dG,fV,fW,cT,dJ,dM,dR,dS,gc,di,dC,bE,dI,d3,d6,d7,gk,d8,cy,eQ,eO,eg,d9,dL,cU,dj,fR,cR,cL,bS,dm,dn,dz,dA,fT,dB,dD,cM,cN,fU,gO,gQ,gR,gS,gT,gU,gW,gX,gY,gZ,g6,g9,hG,hJ,hV,hW,hX,hZ,h7,ic,ie,ig,ij,ik,il,ip,iq,iu,iw,ix,iy,iz,iA,iB,iC,iD,iE,iF,iG,iH,iI,iJ,iK,gP,eF,gj,eR,cY,gp,gm,ei,eD,eG,eJ,eL,eM,eN,cW,eT,eV,eX,cj,gf,gh,gi,dU,dW,fX,fY,dX,fZ,dY,gb,fv,fy,fz,gL,gM,gK,gN,fk,fq,ft,fu,cz,fx,fw,fh,fj,fA,fB,fC,fD,cE,iL,iM,jj,ji,jk,jl,jm,jn,jo,fF,fG,jA,jy,jz,jx,jF,jB,jC,jD,jE,cZ,fH,jJ,jK,jG,jH,jI,jL,jM,jN,fJ,jO,jP,fK,jR,fL,jS,jT,jU,jQ,jV,fM,fN,fO,fP,j6,j7,j8,fQ,cq,gB,gC,gD,gE,gF,gG,gH,gI,gJ,ne_eq,bU,gx,gy,gz,gA,gr,gs,gu,cO,cV,dZ,dN,dQ,dP,dO,bT,bZ,bx,cu,cK,cw,Pw,Qc,Pu,P1,PH,P7,P2,PX,QD,QE,QO,QK,QP,PR,PM,Qh,P8,P9,P0,exists_eq_left',exists_eq_left,exists_and_left,exists_and_right,Qn,Qo,Sl.v.injEq,Sl.o.injEq,Sl.k.injEq,Qs,Qp,Qu,Qi,Qq,PK,and_true,true_and,QQ,Qv,exists_const,decide_eq_true_eq,QR,QS,QI,QJ,P5,decide_eq_false_iff_not,and_assoc,or_true,true_or,↓reduceIte,if_true,if_false,PZ,Qb,not_true_eq_false,not_false_eq_true,QL,QA,ite_true,ite_false,eq_self,exists_eq,reduceCtorEq,false_and,and_false,or_false,false_or,exists_false,Qw,Qz,cH,QH,QU,QC,QV,P4,QB,Qg,QN,aX,bA,b0,cX,eY,bj,cP,fg,beq_self_eq_true,eZ,ff,gn,aV,WI];refine⟨td,td,td,td,?_⟩
       match more,hm with
       | [y],hm=>
        rw [Wn Wq];refine⟨_,aX,_,rfl,(hm y Wq).1,_,rfl,?_⟩;by_cases hy:Nm y
        ·rw [Wn (lX.mpr hy)];exact⟨_,aX,q1 _ (.two Wq hn hx hy) rfl⟩
        ·rw [Wm (λz=>hy (lX.mp z))];exact key λk=>by
          obtain⟨y',e,h⟩:=k.tw td;injection e with e
          exact hy (e▸h)
       | [],_=>rw [Wm Wq];exact key λk=>by obtain⟨_,e,_⟩:=k.tw td;cases e
       | _::_::_,_=>rw [Wm (by simp;omega)];exact key λk=>by obtain⟨_,e,_⟩:=k.tw td;cases e
      ·simp only [mZ,oT,en,↓jg,↓jq,↓jr,↓jt,↓ju,↓jv,↓jw,↓jh,↓fE,↓iN,↓jW,↓jX,↓jY,↓jZ,↓j3,↓j5,↓iO,↓iP,↓iQ,↓iR,↓iS,↓iT,↓iU,↓iV,↓iW,↓iX,↓iY,↓iZ,↓i3,↓i4,↓i5,↓i6,↓i7,↓i8,↓i9,↓ja,↓jb,↓jd,↓je,↓jf,dE,dF,dH,dG,fV,fW,cT,dJ,dM,dR,dS,gc,di,dC,bE,dI,d3,d6,d7,gk,d8,cy,eQ,eO,eg,d9,dL,cU,dj,fR,cR,cL,bS,dm,dn,dz,dA,fT,dB,dD,cM,cN,fU,gO,gQ,gR,gS,gT,gU,gW,gX,gY,gZ,g6,g9,hG,hJ,hV,hW,hX,hZ,h7,ic,ie,ig,ij,ik,il,ip,iq,iu,iw,ix,iy,iz,iA,iB,iC,iD,iE,iF,iG,iH,iI,iJ,iK,gP,eF,gj,eR,cY,gp,gm,ei,eD,eG,eJ,eL,eM,eN,cW,eT,eV,eX,cj,gf,gh,gi,dU,dW,fX,fY,dX,fZ,dY,gb,fv,fy,fz,gL,gM,gK,gN,fk,fq,ft,fu,cz,fx,fw,fh,fj,fA,fB,fC,fD,cE,iL,iM,jj,ji,jk,jl,jm,jn,jo,fF,fG,jA,jy,jz,jx,jF,jB,jC,jD,jE,cZ,fH,jJ,jK,jG,jH,jI,jL,jM,jN,fJ,jO,jP,fK,jR,fL,jS,jT,jU,jQ,jV,fM,fN,fO,fP,j6,j7,j8,fQ,cq,gB,gC,gD,gE,gF,gG,gH,gI,gJ,ne_eq,bU,gx,gy,gz,gA,gr,gs,gu,cO,cV,dZ,dN,dQ,dP,dO,bT,bZ,bx,cu,cK,cw,Pw,Qc,Pu,P1,PH,P7,P2,PX,QD,QE,QO,QK,QP,PR,PM,Qh,P8,P9,P0,exists_eq_left',exists_eq_left,exists_and_left,exists_and_right,Qn,Qo,Sl.v.injEq,Sl.o.injEq,Sl.k.injEq,Qs,Qp,Qu,Qi,Qq,PK,and_true,true_and,QQ,Qv,exists_const,decide_eq_true_eq,QR,QS,QI,QJ,P5,decide_eq_false_iff_not,and_assoc,or_true,true_or,↓reduceIte,if_true,if_false,PZ,Qb,not_true_eq_false,not_false_eq_true,QL,QA,ite_true,ite_false,eq_self,exists_eq,reduceCtorEq,false_and,and_false,or_false,false_or,exists_false,Qw,Qz,cH,QH,QU,QC,QV,P4,QB,Qg,QN,aX,bA,b0,cX,eY,bj,cP,fg,beq_self_eq_true,eZ,ff,gn,aV,WI];refine⟨td,td,td,td,?_⟩
       match more,hm with
       | [y],hm=>
        rw [Wn Wq];refine⟨_,aX,_,rfl,(hm y Wq).1,_,rfl,?_⟩;by_cases hy:Nm y
        ·rw [Wn (lX.mpr hy)];exact⟨_,aX,q1 _ (.two Wq hn hx hy) rfl⟩
        ·rw [Wm (λz=>hy (lX.mp z))];exact key λk=>by
          obtain⟨y',e,h⟩:=k.tw td;injection e with e
          exact hy (e▸h)
       | [],_=>rw [Wm Wq];exact key λk=>by obtain⟨_,e,_⟩:=k.tw td;cases e
       | _::_::_,_=>rw [Wm (by simp;omega)];exact key λk=>by obtain⟨_,e,_⟩:=k.tw td;cases e
      ·simp only [mZ,oT,en,↓jg,↓jq,↓jr,↓jt,↓ju,↓jv,↓jw,↓jh,↓fE,↓iN,↓jW,↓jX,↓jY,↓jZ,↓j3,↓j5,↓iO,↓iP,↓iQ,↓iR,↓iS,↓iT,↓iU,↓iV,↓iW,↓iX,↓iY,↓iZ,↓i3,↓i4,↓i5,↓i6,↓i7,↓i8,↓i9,↓ja,↓jb,↓jd,↓je,↓jf,dE,dF,dH,dG,fV,fW,cT,dJ,dM,dR,dS,gc,di,dC,bE,dI,d3,d6,d7,gk,d8,cy,eQ,eO,eg,d9,dL,cU,dj,fR,cR,cL,bS,dm,dn,dz,dA,fT,dB,dD,cM,cN,fU,gO,gQ,gR,gS,gT,gU,gW,gX,gY,gZ,g6,g9,hG,hJ,hV,hW,hX,hZ,h7,ic,ie,ig,ij,ik,il,ip,iq,iu,iw,ix,iy,iz,iA,iB,iC,iD,iE,iF,iG,iH,iI,iJ,iK,gP,eF,gj,eR,cY,gp,gm,ei,eD,eG,eJ,eL,eM,eN,cW,eT,eV,eX,cj,gf,gh,gi,dU,dW,fX,fY,dX,fZ,dY,gb,fv,fy,fz,gL,gM,gK,gN,fk,fq,ft,fu,cz,fx,fw,fh,fj,fA,fB,fC,fD,cE,iL,iM,jj,ji,jk,jl,jm,jn,jo,fF,fG,jA,jy,jz,jx,jF,jB,jC,jD,jE,cZ,fH,jJ,jK,jG,jH,jI,jL,jM,jN,fJ,jO,jP,fK,jR,fL,jS,jT,jU,jQ,jV,fM,fN,fO,fP,j6,j7,j8,fQ,cq,gB,gC,gD,gE,gF,gG,gH,gI,gJ,ne_eq,bU,gx,gy,gz,gA,gr,gs,gu,cO,cV,dZ,dN,dQ,dP,dO,bT,bZ,bx,cu,cK,cw,Pw,Qc,Pu,P1,PH,P7,P2,PX,QD,QE,QO,QK,QP,PR,PM,Qh,P8,P9,P0,exists_eq_left',exists_eq_left,exists_and_left,exists_and_right,Qn,Qo,Sl.v.injEq,Sl.o.injEq,Sl.k.injEq,Qs,Qp,Qu,Qi,Qq,PK,and_true,true_and,QQ,Qv,exists_const,decide_eq_true_eq,QR,QS,QI,QJ,P5,decide_eq_false_iff_not,and_assoc,or_true,true_or,↓reduceIte,if_true,if_false,PZ,Qb,not_true_eq_false,not_false_eq_true,QL,QA,ite_true,ite_false,eq_self,exists_eq,reduceCtorEq,false_and,and_false,or_false,false_or,exists_false,Qw,Qz,cH,QH,QU,QC,QV,P4,QB,Qg,QN,aX,bA,b0,cX,eY,bj,cP,fg,beq_self_eq_true,eZ,ff,gn,aV,WI];refine⟨td,td,td,td,?_⟩
       match more,hm with
       | g::y::tl,hm=>
        have wg:=hm g Wq;have wy:=hm y Wq;rw [Wn (by simp only [PB,Pu];omega)];refine⟨_,aX,mH.mpr wg.2,td,?_⟩;rw [bj,bj,BQ];by_cases hg:g∈[Pp "paper",Pp "kind"]
        ·rw [Wn (decide_eq_true hg)];refine⟨_,bA,_,rfl,wy.1,_,rfl,?_⟩;by_cases hy:Nm y
         ·rw [Wn (lX.mpr hy),show bz (QZ Pr (g::y::tl)) (some 2) none=tl.map .str from pO (k:=2),show bz (QZ Pr (g::y::tl)) none (some 2)=[g,y].map .str from vU (k:=2)];have st:=(pP λz (hz:z∈tl)=>(hm z (by simp [hz])).2).1;rw [show(Q8 (QZ Pr tl)).eqv (Q8 [Pr (Pp "deep")])=decide (tl=[Pp "deep"]) from qE (b:=[_]),
           show(Q8 []).eqv (Q8 (QZ Pr tl))=decide ([]=tl) from qE (a:=[]),
           show(Q8 [Pr (Pp "deep")]).eqv (Q8 (QZ Pr tl))=decide ([Pp "deep"]=tl) from qE (a:=[_])]
          refine⟨st,td,st,td,?_⟩;by_cases e0:tl=[]
          ·subst e0;rw [Wn Wq,show decide (([]:List Str)=[Pp "deep"])=false by decide+kernel];exact⟨_,bA,q1 _ (.hold hn hx hg hy) rfl⟩
          ·by_cases e1:tl=[Pp "deep"]
           ·subst e1;rw [Wn Wq,show decide ([Pp "deep"]=[Pp "deep"])=true by decide+kernel];exact⟨_,bA,q1 _ (.hold hn hx hg hy) rfl⟩
           ·rw [Wm (by
             rw [Tf,decide_eq_true_eq,decide_eq_true_eq];exact λz=>z.elim (λz=>e0 z.symm) λz=>e1 z.symm)]
            exact⟨_,aX,key λk=>by
             obtain⟨g',y',_,_,h⟩:=k.ho rfl;rcases h with h | h
             ·injection h with _ h;injection h with _ h;exact e0 h
             ·injection h with _ h;injection h with _ h;exact e1 h⟩
         ·rw [Wm (λz=>hy (lX.mp z))];exact key λk=>by
           obtain⟨g',y',_,h2,h⟩:=k.ho rfl;rcases h with h | h <;> (injection h with _ h;injection h with h _;exact hy (h▸h2))
        ·rw [Wm (by simpa using hg)];exact key λk=>by
          obtain⟨g',y',h2,_,h⟩:=k.ho rfl;rcases h with h | h <;> (injection h with h _;exact hg (h▸h2))
       | [],_=>rw [Wm Wq];exact key λk=>by obtain⟨_,_,_,_,h⟩:=k.ho rfl;rcases h with h | h <;> cases h
       | [_],_=>rw [Wm Wq];exact key λk=>by obtain⟨_,_,_,_,h⟩:=k.ho rfl;rcases h with h | h <;> cases h
      ·simp only [mZ,oT,en,↓jg,↓jq,↓jr,↓jt,↓ju,↓jv,↓jw,↓jh,↓fE,↓iN,↓jW,↓jX,↓jY,↓jZ,↓j3,↓j5,↓iO,↓iP,↓iQ,↓iR,↓iS,↓iT,↓iU,↓iV,↓iW,↓iX,↓iY,↓iZ,↓i3,↓i4,↓i5,↓i6,↓i7,↓i8,↓i9,↓ja,↓jb,↓jd,↓je,↓jf,dE,dF,dH,dG,fV,fW,cT,dJ,dM,dR,dS,gc,di,dC,bE,dI,d3,d6,d7,gk,d8,cy,eQ,eO,eg,d9,dL,cU,dj,fR,cR,cL,bS,dm,dn,dz,dA,fT,dB,dD,cM,cN,fU,gO,gQ,gR,gS,gT,gU,gW,gX,gY,gZ,g6,g9,hG,hJ,hV,hW,hX,hZ,h7,ic,ie,ig,ij,ik,il,ip,iq,iu,iw,ix,iy,iz,iA,iB,iC,iD,iE,iF,iG,iH,iI,iJ,iK,gP,eF,gj,eR,cY,gp,gm,ei,eD,eG,eJ,eL,eM,eN,cW,eT,eV,eX,cj,gf,gh,gi,dU,dW,fX,fY,dX,fZ,dY,gb,fv,fy,fz,gL,gM,gK,gN,fk,fq,ft,fu,cz,fx,fw,fh,fj,fA,fB,fC,fD,cE,iL,iM,jj,ji,jk,jl,jm,jn,jo,fF,fG,jA,jy,jz,jx,jF,jB,jC,jD,jE,cZ,fH,jJ,jK,jG,jH,jI,jL,jM,jN,fJ,jO,jP,fK,jR,fL,jS,jT,jU,jQ,jV,fM,fN,fO,fP,j6,j7,j8,fQ,cq,gB,gC,gD,gE,gF,gG,gH,gI,gJ,ne_eq,bU,gx,gy,gz,gA,gr,gs,gu,cO,cV,dZ,dN,dQ,dP,dO,bT,bZ,bx,cu,cK,cw,Pw,Qc,Pu,P1,PH,P7,P2,PX,QD,QE,QO,QK,QP,PR,PM,Qh,P8,P9,P0,exists_eq_left',exists_eq_left,exists_and_left,exists_and_right,Qn,Qo,Sl.v.injEq,Sl.o.injEq,Sl.k.injEq,Qs,Qp,Qu,Qi,Qq,PK,and_true,true_and,QQ,Qv,exists_const,decide_eq_true_eq,QR,QS,QI,QJ,P5,decide_eq_false_iff_not,and_assoc,or_true,true_or,↓reduceIte,if_true,if_false,PZ,Qb,not_true_eq_false,not_false_eq_true,QL,QA,ite_true,ite_false,eq_self,exists_eq,reduceCtorEq,false_and,and_false,or_false,false_or,exists_false,Qw,Qz,cH,QH,QU,QC,QV,P4,QB,Qg,QN,aX,bA,b0,cX,eY,bj,cP,fg,beq_self_eq_true,eZ,ff,gn,aV,WI];refine⟨td,td,td,td,?_⟩
       match more,hm with
       | k::ms,hm=>
        rw [Wn (by simp only [PB,Pu];omega)];by_cases h5:ms.length<=4
        ·rw [Wn (by simp only [PB,Pu];omega)];refine⟨by simp only [PB,Pu];omega,mI (λz=>.bool (cC z)) (λz hz R hR=>?_) ⟨(k::ms).map λy=>cC (.str y),by rw [Rb,Rb];rfl,?_⟩⟩
         ·obtain⟨y,hy,rfl⟩:=QG.mp hz;simp only [mZ,true_and,↓jg,↓jq,↓jr,↓jt,↓ju,↓jv,↓jw,↓jh,↓fE,↓iN,↓jW,↓jX,↓jY,↓jZ,↓j3,↓j5,↓iO,↓iP,↓iQ,↓iR,↓iS,↓iT,↓iU,↓iV,↓iW,↓iX,↓iY,↓iZ,↓i3,↓i4,↓i5,↓i6,↓i7,↓i8,↓i9,↓ja,↓jb,↓jd,↓je,↓jf,dE,dF,dH,dG,fV,fW,cT,dJ,dM,dR,dS,gc,di,dC,bE,dI,d3,d6,d7,gk,d8,cy,eQ,eO,eg,d9,dL,cU,dj,fR,cR,cL,bS,dm,dn,dz,dA,fT,dB,dD,cM,cN,fU,gO,gQ,gR,gS,gT,gU,gW,gX,gY,gZ,g6,g9,hG,hJ,hV,hW,hX,hZ,h7,ic,ie,ig,ij,ik,il,ip,iq,iu,iw,ix,iy,iz,iA,iB,iC,iD,iE,iF,iG,iH,iI,iJ,iK,gP,eF,gj,eR,cY,gp,gm,ei,eD,eG,eJ,eL,eM,eN,cW,eT,eV,eX,cj,gf,gh,gi,dU,dW,fX,fY,dX,fZ,dY,gb,fv,fy,fz,gL,gM,gK,gN,fk,fq,ft,fu,cz,fx,fw,fh,fj,fA,fB,fC,fD,cE,iL,iM,jj,ji,jk,jl,jm,jn,jo,fF,fG,jA,jy,jz,jx,jF,jB,jC,jD,jE,cZ,fH,jJ,jK,jG,jH,jI,jL,jM,jN,fJ,jO,jP,fK,jR,fL,jS,jT,jU,jQ,jV,fM,fN,fO,fP,j6,j7,j8,fQ,cq,gB,gC,gD,gE,gF,gG,gH,gI,gJ,ne_eq,bU,gx,gy,gz,gA,gr,gs,gu,cO,cV,dZ,dN,dQ,dP,dO,bT,bZ,bx,cu,cK,cw,Pw,Qc,Pu,P1,PH,P7,P2,PX,QD,QE,QO,QK,QP,PR,PM,Qh,P8,P9,P0,exists_eq_left',exists_eq_left,exists_and_left,exists_and_right,Qn,Qo,Sl.v.injEq,Sl.o.injEq,Sl.k.injEq,Qs,Qp,Qu,Qi,Qq,PK,and_true,true_and,QQ,Qv,exists_const,decide_eq_true_eq,QR,QS,QI,QJ,P5,decide_eq_false_iff_not,and_assoc,or_true,true_or,↓reduceIte,if_true,if_false,PZ,Qb,not_true_eq_false,not_false_eq_true,QL,QA,ite_true,ite_false,eq_self,exists_eq,reduceCtorEq,false_and,and_false,or_false,false_or,exists_false,Qw,Qz,cH,QH,QU,QC,QV,P4,QB,Qg,QN,aX,bA,b0,cX,eY,bj,cP,fg,beq_self_eq_true,eZ,ff,gn,aV,WI];exact⟨(hm y hy).1,hR⟩
         ·have ea:((k::ms).map λy=>cC (.str y)).all id=true↔∀y∈k::ms,Nm y:=by
           rw [SI,Rh];exact⟨λh y hy=>lX.mp (h y hy),λh y hy=>lX.mpr (h y hy)⟩
          by_cases ha:∀y∈k::ms,Nm y
          ·rw [Wn (ea.mpr ha),show bz (QZ Pr (k::ms)) (some 1) none=ms.map .str from pO (k:=1)];have mm:∀z∈kX (ms.foldl kC []),z∈ms:=λz hz=>by
            have:=Ap.mp ((uT _).mem_iff.mp hz);simpa using this
           refine⟨_,aX,ms,rfl,Ce,(pP λz hz=>(hm z (by simp [hz])).2).1,(pP λz hz=>(hm z (by simp [mm z hz])).2).1,?_⟩;rw [qE];by_cases hs:ms=kX (ms.foldl kC [])
           ·rw [Wn (decide_eq_true hs)];have up:ms.Pairwise pG:=by rw [hs];exact Gk (Aq .nil)
            refine⟨_,bA,q1 _ (.paper hn hx (ha k Wq) ⟨h5,λz hz=>ha z (by simp [hz]),up⟩) ?_⟩;show Pp "paper"::kr n::x::k::pM (.tuple (ms.map .str))=_;rw [rR]
           ·rw [Wm (by simpa using hs)];exact⟨_,aX,key λkk=>by
             obtain⟨k',ms',e,_,h⟩:=kk.pa rfl;injection e with _ e
             exact hs (by rw [e];exact(OM h.up).symm)⟩
          ·rw [Wm (λz=>ha (ea.mp z))];exact key λkk=>by
            obtain⟨k',ms',e,h1,h⟩:=kk.pa rfl;rw [e] at ha;exact ha λy hy=>by
             rcases Pz.mp hy with rfl | hy
             ·exact h1
             ·exact h.nm y hy
        ·rw [Wm (by simp only [PB,Pu];omega)];exact key λkk=>by
          obtain⟨k',ms',e,_,h⟩:=kk.pa rfl;injection e with _ e
          exact h5 (by rw [e];exact h.len)
       | [],_=>rw [Wm Wq];exact key λkk=>by obtain⟨_,_,e,_⟩:=kk.pa rfl;cases e
      ·simp only [mZ,oT,en,↓jg,↓jq,↓jr,↓jt,↓ju,↓jv,↓jw,↓jh,↓fE,↓iN,↓jW,↓jX,↓jY,↓jZ,↓j3,↓j5,↓iO,↓iP,↓iQ,↓iR,↓iS,↓iT,↓iU,↓iV,↓iW,↓iX,↓iY,↓iZ,↓i3,↓i4,↓i5,↓i6,↓i7,↓i8,↓i9,↓ja,↓jb,↓jd,↓je,↓jf,dE,dF,dH,dG,fV,fW,cT,dJ,dM,dR,dS,gc,di,dC,bE,dI,d3,d6,d7,gk,d8,cy,eQ,eO,eg,d9,dL,cU,dj,fR,cR,cL,bS,dm,dn,dz,dA,fT,dB,dD,cM,cN,fU,gO,gQ,gR,gS,gT,gU,gW,gX,gY,gZ,g6,g9,hG,hJ,hV,hW,hX,hZ,h7,ic,ie,ig,ij,ik,il,ip,iq,iu,iw,ix,iy,iz,iA,iB,iC,iD,iE,iF,iG,iH,iI,iJ,iK,gP,eF,gj,eR,cY,gp,gm,ei,eD,eG,eJ,eL,eM,eN,cW,eT,eV,eX,cj,gf,gh,gi,dU,dW,fX,fY,dX,fZ,dY,gb,fv,fy,fz,gL,gM,gK,gN,fk,fq,ft,fu,cz,fx,fw,fh,fj,fA,fB,fC,fD,cE,iL,iM,jj,ji,jk,jl,jm,jn,jo,fF,fG,jA,jy,jz,jx,jF,jB,jC,jD,jE,cZ,fH,jJ,jK,jG,jH,jI,jL,jM,jN,fJ,jO,jP,fK,jR,fL,jS,jT,jU,jQ,jV,fM,fN,fO,fP,j6,j7,j8,fQ,cq,gB,gC,gD,gE,gF,gG,gH,gI,gJ,ne_eq,bU,gx,gy,gz,gA,gr,gs,gu,cO,cV,dZ,dN,dQ,dP,dO,bT,bZ,bx,cu,cK,cw,Pw,Qc,Pu,P1,PH,P7,P2,PX,QD,QE,QO,QK,QP,PR,PM,Qh,P8,P9,P0,exists_eq_left',exists_eq_left,exists_and_left,exists_and_right,Qn,Qo,Sl.v.injEq,Sl.o.injEq,Sl.k.injEq,Qs,Qp,Qu,Qi,Qq,PK,and_true,true_and,QQ,Qv,exists_const,decide_eq_true_eq,QR,QS,QI,QJ,P5,decide_eq_false_iff_not,and_assoc,or_true,true_or,↓reduceIte,if_true,if_false,PZ,Qb,not_true_eq_false,not_false_eq_true,QL,QA,ite_true,ite_false,eq_self,exists_eq,reduceCtorEq,false_and,and_false,or_false,false_or,exists_false,Qw,Qz,cH,QH,QU,QC,QV,P4,QB,Qg,QN,aX,bA,b0,cX,eY,bj,cP,fg,beq_self_eq_true,eZ,ff,gn,aV,WI];refine⟨td,td,td,td,more,rfl,Ce,hm,λp hp e=>?_,λh=>?_⟩
       ·dsimp only;rw [Wn (show lT p=false by cases hp <;> rfl)];exact⟨more,rfl,Ce,hm,λp' hp' e'=>q1 _ (.rule hn hx hp') (by
         show Pp "rule"::kr n::x::lW [p']=_;rw [Gq hp',e']),λh=>absurd e (h p hp)⟩
       ·dsimp only;rw [Wm (show ¬lT RV=false by decide)];exact key λk=>by
         obtain⟨p,hp,e⟩:=k.ru rfl;exact h p hp e
     ·simp only [Pz,PV,or_false,not_or] at hw;have b1:(Pp "end"==w)=false:=beq_eq_false_iff_ne.mpr λz=>hw.1 z.symm;have b2:(Pp "lift"==w)=false:=beq_eq_false_iff_ne.mpr λz=>hw.2.1 z.symm;have b3:(Pp "happens"==w)=false:=beq_eq_false_iff_ne.mpr λz=>hw.2.2.1 z.symm;have b4:(Pp "leave"==w)=false:=beq_eq_false_iff_ne.mpr λz=>hw.2.2.2.1 z.symm;have b5:(w==Pp "hold")=false:=beq_eq_false_iff_ne.mpr hw.2.2.2.2.1;have b6:(w==Pp "paper")=false:=beq_eq_false_iff_ne.mpr hw.2.2.2.2.2.1;have b7:(w==Pp "rule")=false:=beq_eq_false_iff_ne.mpr hw.2.2.2.2.2.2;simp only [mZ,oT,en,b1,b2,b3,b4,b5,b6,b7,↓jg,↓jq,↓jr,↓jt,↓ju,↓jv,↓jw,↓jh,↓fE,↓iN,↓jW,↓jX,↓jY,↓jZ,↓j3,↓j5,↓iO,↓iP,↓iQ,↓iR,↓iS,↓iT,↓iU,↓iV,↓iW,↓iX,↓iY,↓iZ,↓i3,↓i4,↓i5,↓i6,↓i7,↓i8,↓i9,↓ja,↓jb,↓jd,↓je,↓jf,dE,dF,dH,dG,fV,fW,cT,dJ,dM,dR,dS,gc,di,dC,bE,dI,d3,d6,d7,gk,d8,cy,eQ,eO,eg,d9,dL,cU,dj,fR,cR,cL,bS,dm,dn,dz,dA,fT,dB,dD,cM,cN,fU,gO,gQ,gR,gS,gT,gU,gW,gX,gY,gZ,g6,g9,hG,hJ,hV,hW,hX,hZ,h7,ic,ie,ig,ij,ik,il,ip,iq,iu,iw,ix,iy,iz,iA,iB,iC,iD,iE,iF,iG,iH,iI,iJ,iK,gP,eF,gj,eR,cY,gp,gm,ei,eD,eG,eJ,eL,eM,eN,cW,eT,eV,eX,cj,gf,gh,gi,dU,dW,fX,fY,dX,fZ,dY,gb,fv,fy,fz,gL,gM,gK,gN,fk,fq,ft,fu,cz,fx,fw,fh,fj,fA,fB,fC,fD,cE,iL,iM,jj,ji,jk,jl,jm,jn,jo,fF,fG,jA,jy,jz,jx,jF,jB,jC,jD,jE,cZ,fH,jJ,jK,jG,jH,jI,jL,jM,jN,fJ,jO,jP,fK,jR,fL,jS,jT,jU,jQ,jV,fM,fN,fO,fP,j6,j7,j8,fQ,cq,gB,gC,gD,gE,gF,gG,gH,gI,gJ,ne_eq,bU,gx,gy,gz,gA,gr,gs,gu,cO,cV,dZ,dN,dQ,dP,dO,bT,bZ,bx,cu,cK,cw,Pw,Qc,Pu,P1,PH,P7,P2,PX,QD,QE,QO,QK,QP,PR,PM,Qh,P8,P9,P0,exists_eq_left',exists_eq_left,exists_and_left,exists_and_right,Qn,Qo,Sl.v.injEq,Sl.o.injEq,Sl.k.injEq,Qs,Qp,Qu,Qi,Qq,PK,and_true,true_and,QQ,Qv,exists_const,decide_eq_true_eq,QR,QS,QI,QJ,P5,decide_eq_false_iff_not,and_assoc,or_true,true_or,↓reduceIte,if_true,if_false,PZ,Qb,not_true_eq_false,not_false_eq_true,QL,QA,ite_true,ite_false,eq_self,exists_eq,reduceCtorEq,false_and,and_false,or_false,false_or,exists_false,Qw,Qz,cH,QH,QU,QC,QV,P4,QB,Qg,QN,aX,bA,b0,cX,eY,bj,cP,fg,beq_self_eq_true,eZ,ff,gn,aV,WI]
      exact⟨mH.mpr ww.2,td,mH.mpr ww.2,td,key λk=>by
       have:=k.al;simp only [Pz,PV,or_false] at this;exact absurd this (by simp only [not_or];exact hw)⟩
    ·simp only [Pw,bA];refine⟨_,rfl,b,rfl,wb.1,?_⟩;dsimp only;rw [en,Wn (show lT RV=true from rfl)];exact qn
   ·have no:Q .none:=q2 λd hv ee=>by
     obtain⟨w',n,x',r,rfl,_⟩:=oS hv;simp only [kE,PK] at ee;have hx':Nm x':=by cases hv <;> assumption
     exact hx (ee.2.2.1▸hx')
    simp only [Pw,bA,b0];refine⟨_,rfl,b,rfl,wb.1,?_⟩;dsimp only;rcases hday with⟨n,_,en,_⟩ | ⟨en,qn⟩
    ·rw [en,Wm (show ¬lT (PN n)=true from λz=>by cases z)];refine⟨_,rfl,x,rfl,wx.1,_,rfl,?_⟩;rw [Wn (show cC (.str x)=false by simpa using λz=>hx (lX.mp z))];exact no
    ·rw [en,Wn (show lT RV=true from rfl)];exact qn
end
theorem Gr:bO (az vA) ["deeds"] ["deed"] 1 [] ⟨Qf,[ (Pt ".0",Ym),(Pt "deed",Ym),(Pt "show_deed",Qm)],false,false,[]⟩:= .of
theorem Gs:bO (az vB) ["text","deeds","rows","number","row","deed"] ["other","deed"] 1 [5] ⟨Qf,[ (Pt ".0",Ym),(Pt "other",Ym),(Pt "quarrel",Qm),(Pt "deed",Rf)],false,false,[]⟩:= .of
section
variable {P:WH} {w:WJ} {K:Pq} {mg:Str->Option Ws} {base:WG} {t:k8}
def qF(d:Wr):Prop:=∃(w:Str)(n:Int)(x:Str)(r:List Wr),d= .tuple (.str w:: .int n:: .str x::r)/\aV d
def kO(w:Str)(a b:Str):Bool:=w==a || w==b
def dh(d e:Wr):Bool:=match d,e with
 | .tuple (.str w:: .int n:: .str x::r),.tuple (.str w':: .int n':: .str x'::r')=>
  PJ d e || (x==x' && ((w==("paper":Str) && w'==("paper":Str)) || (w==("leave":Str) && w'==("leave":Str)) || (n==n' && ((kO w "rule" "end" && kO w' "rule" "end") || (kO w "hold" "lift" && kO w' "hold" "lift")))))
 | _,_=>false
theorem OQ(A B C C' L L' R R' D D' N:Bool)(Q:Bool->Prop)(h:Q (A || (B && (C && C' || L && L' || N && (R && R' || D && D'))))):
 if A=true then Q true else if B=false then Q false else
  if C=true then if C'=true then Q true else
   if L=true then if L'=true then Q true else
    if R=true then if R'=true then Q N else if D=true then if D'=true then Q N else Q false else Q false
    else if D=true then if D'=true then Q N else Q false else Q false
   else if R=true then if R'=true then Q N else if D=true then if D'=true then Q N else Q false else Q false
    else if D=true then if D'=true then Q N else Q false else Q false
  else
   if L=true then if L'=true then Q true else
    if R=true then if R'=true then Q N else if D=true then if D'=true then Q N else Q false else Q false
    else if D=true then if D'=true then Q N else Q false else Q false
   else if R=true then if R'=true then Q N else if D=true then if D'=true then Q N else Q false else Q false
    else if D=true then if D'=true then Q N else Q false else Q false:=by
 cases A
 ·cases B
  ·simpa using h
  ·have tail:∀p:Bool,p=false->Q (false || (true && (p || N && (R && R' || D && D'))))->if R=true then if R'=true then Q N else if D=true then if D'=true then Q N else Q false else Q false else if D=true then if D'=true then Q N else Q false else Q false:=λp hp h=>by
    subst hp;cases R <;> cases R' <;> cases D <;> cases D' <;> simpa using h
   cases C <;> cases C' <;> cases L <;> cases L' <;> first | simpa using h | (simp only [PZ,if_false,if_true,reduceCtorEq];exact tail _ (by rfl) h)
 ·simpa using h
def OR:List Wr->(Wr->Prop)->Prop:=λds Q=>∃d e,ds=[d,e]/\qF d/\qF e/\Q (.bool (dh d e))
theorem OS(T:Txt K mg t):aF P w K mg base CX0 1 t.a_X t.d_X ["one","other"] (bg K OR):=by
 refine T.F_X.F.okD Bw (λds Q h=>?_) (λ_ _ _ _ H O ds Q E hr h=>?_)
 ·obtain⟨d,e,rfl,_⟩:=h;rfl
 ·obtain⟨d,e,rfl,⟨w,n,x,r,rfl,sd⟩,⟨w',n',x',r',rfl,se⟩,q⟩:=h;refine⟨_,(ai (aH (aD (ck hr.units) cn (dv 0) (dv 1) (av _)) (ak (ax k7)) aG)
   (ai (aH (aD (mE hr.units) mF (aj aI aK (dv 0) ae) (aj aI aK (dv 1) ae) (av _)) (ak (ax k7)) aG)
   (ai (Dd RN rfl (bD (aa aw (aa aw ah))) (bM (i:=2) Bw.nd rfl Wo) bW (ak (aH (PW.pt (kG (aD (ck hr.units) cn (aj aI aK (dv 0) ae) (dv 2) (av _)) (lF (aD (ck hr.units) cn (aj aI aK (dv 1) ae) (dv 2) (av _))))) (ak (ax k7)) aG)))
   (ai (Dd RN rfl (bD (aa (bD (aa aw (aa aw ah))) (aa (bD (aa aw (aa aw ah))) ah))) (bM (i:=3) Bw.nd rfl Wo) bW (ak (aH (PW.pt (kG (aD (oI hr) oJ (aj aI aK (dv 0) ae) (dv 3) rfl) (lF (aD (oI hr) oJ (aj aI aK (dv 1) ae) (dv 3) rfl)))) (ak (ax (fS (ck hr.units) cn (df (aj aI aK (dv 0) ae)) (df (aj aI aK (dv 1) ae)) (av _)))) aG)))
   (ak (ax k7)))))),?_⟩
  have hw:aV (.str w):=pB sd _ Wq;have hw':aV (.str w'):=pB se _ Wq;have hx:aV (.str x):=pB sd _ Wq;have hx':aV (.str x'):=pB se _ Wq;walk_at "a";simp only [hw,hw',hx,hx',sd,se,true_and,lit0,lit1,lit2,lit3,lit4,lit5,lit6,lit7,lit8,lit9,lit10,lit11,lit12,lit13,lit14,lit15,lit16,lit17,lit18,lit19,lit20,lit21,lit22,lit23,lit24,lit25,lit26,lit27,lit28,lit29,lit30,lit31,lit32,lit33,lit34,lit35,lit36,lit37,lit38,lit39,lit40,lit41,lit42,lit43,lit44,lit45,lit46,lit47,lit48,lit49,lit50,lit51,lit52,lit53];have fin:∀{b:Bool},b=dh (.tuple (.str w:: .int n:: .str x::r)) (.tuple (.str w':: .int n':: .str x'::r'))->Q (.bool b):=λe=>by rw [e];exact q
  have qd:dh (.tuple (.str w:: .int n:: .str x::r)) (.tuple (.str w':: .int n':: .str x'::r'))=(PJ (.tuple (.str w:: .int n:: .str x::r)) (.tuple (.str w':: .int n':: .str x'::r')) || (x==x' && ((w==("paper":Str) && w'==("paper":Str)) || (w==("leave":Str) && w'==("leave":Str)) || (n==n' && ((kO w "rule" "end" && kO w' "rule" "end") || (kO w "hold" "lift" && kO w' "hold" "lift")))))):=rfl;rw [qd] at fin;clear qd q;have cm:∀a b:Str,(a==b)=(b==a):=λa b=>TX;simp only [kO,cm w,cm w'] at fin;generalize (Qx (Pr w::PN n::Pr x::r)).eqv (Qx (Pr w'::PN n'::Pr x'::r'))=A at*;simp only [cm w,cm w'];generalize (x==x')=B at*;generalize (("paper":Str)==w)=C at*;generalize (("paper":Str)==w')=C' at*;generalize (("leave":Str)==w)=L at*;generalize (("leave":Str)==w')=L' at*;generalize (("rule":Str)==w || ("end":Str)==w)=R at*;generalize (("rule":Str)==w' || ("end":Str)==w')=R' at*;generalize (("hold":Str)==w || ("lift":Str)==w)=D at*;generalize (("hold":Str)==w' || ("lift":Str)==w')=D' at*;generalize (n==n')=N at*;exact OQ A B C C' L L' R R' D D' N (λb=>Q (.bool b)) (fin rfl)
theorem pQ{d:Wr}(h:bo d):qF d:=by
 have s:=h.shp;obtain⟨w,n,x,r,rfl,_⟩:=oS h;exact⟨w,n,x,r,rfl,s⟩
theorem vY{m:Nat}:∀{ws:List Str},(∀z∈ws,z.length<=m)->(ws.map λx:Str=>x.length).sum<=m*ws.length
 | [],_=>by simp
 | a::l,h=>by
  have ih:=vY (ws:=l) λz hz=>h z (by simp [hz]);have:=h a Wq;rw [Pw,R8,Pu,Nat.mul_add];omega
theorem OT:∀k:Fin 1001,(Pp (toString (k.val:Int))).length<=4:=td
def OU:List Wr->(Wr->Prop)->Prop:=λds Q=>∃l,ds=[.tuple l]/\(∀d∈l,bo d)/\l.length<=100/\Q (.str (Txt.join (Pp "\n") (l.map bb)))
theorem OV(T:Txt K mg t):aF P w K mg base CX0 7 t.a_b t.d_b ["deeds"] (bg K OU):=by
 have G_a:=@FP P w _ _ base _ T;refine T.F_b.F.okD MF (λds Q h=>?_) (λ_ _ _ _ H O ds Q E hr h=>?_)
 ·obtain⟨d,rfl,_⟩:=h;rfl
 ·obtain⟨l,rfl,hd,hl,q⟩:=h;refine'⟨_,?A,?B⟩
  case A=>
   refine' ak ?C
   case' C=>refine' ax ?D
   case D=>exact(mG aw (df (fe (Df rfl Gr (df (dv 0)) bW kU tx (λ_ _ _ _=>(bM (i:=0) Gr.nd rfl Wo)) (λ_ _ _ _=>kW) (λ_ _ _ _=>(ar G_a hr T.F_a (aa (dv 0) ah)))))))
  case B=>
  clear hr T G_a;walk_at "a";refine⟨Ce,mI (λd=>.str (bb d)) (λd hd' R hR=>?_) ⟨l.map bb,by rw [Rb];rfl,?_,q⟩⟩
  ·walk_at "a";exact⟨d,rfl,hd d hd',hR⟩
  ·have:=vY (ws:=l.map bb) (m:=200) λz hz=>by
    obtain⟨d,h,rfl⟩:=QG.mp hz;exact(t8 (hd d h)).2
   rw [show(Pp "\n").length=1 by decide+kernel];rw [PB] at this⊢;omega
open Classical in
def mM(z:Str):Option Wr:=if h:∃d,bo d/\bb d=z then some h.choose else none
theorem OW{d e:Wr}(h:bo d)(h':bo e)(z:bb d=bb e):d=e:=by
 have a:=ue h;have b:=ue h';rw [<-a.2,<-b.2,<-a.1,<-b.1,z]
theorem OX{z:Str}{d:Wr}(h:mM z=some d):bo d/\bb d=z:=by
 unfold mM at h;split at h
 ·rename_i hx;injection h with h
  rw [<-h];exact hx.choose_spec
 ·cases h
theorem BR{d:Wr}(h:bo d):mM (bb d)=some d:=by
 have hx:∃e,bo e/\bb e=bb d:=⟨d,h,rfl⟩;unfold mM;rw [dif_pos hx,P0];exact OW hx.choose_spec.1 h hx.choose_spec.2
theorem Gu{z:Str}(h:∀d,bo d->bb d≠z):mM z=none:=by
 unfold mM;rw [dif_neg λuu69=>by obtain⟨d,a,b⟩:=uu69;exact h d a b]
def run:List Wr->Nat->List Str->Except Nat (List Wr)
 | acc,_,[]=>.ok acc
 | acc,n,r::rs=>match mM r with
  | none=>.error n
  | some d=>if acc.any (λo=>dh o d)=true then .error n else run (acc++[d]) (n+1) rs
theorem vZ{acc:List Wr}{n:Nat}{r:Str}{rs:List Str}:run acc n (r::rs)=match mM r with
 | none=>.error n
 | some d=>if acc.any (λo=>dh o d)=true then .error n else run (acc++[d]) (n+1) rs:=rfl
def nZ(z:Str):List Str:=if z.length=0 then [] else Txt.split z (Pp "\n")
def qG(z:Str):Except Nat (List Wr):=run [] 0 (nZ z)
structure qH (z:Str):Prop where
 len:z.length<=100000
 rows:∀r∈nZ z,qC r
 few:(nZ z).length<=1000
def OY:vv:=λds Q R=>∃d,ds=[d]/\(∀x,d≠ .dict [(.none,x)])/\(∀z,d= .str z->qH z/\(∀l,qG z= .ok l->Q (.tuple l))/\∀n:Nat,qG z= .error n->R n)/\((∀z,d≠ .str z)->R 0)
theorem OZ(T:Txt K mg t):aF P w K mg base (kq P w) 8 t.a_h t.d_h ["text"] (vw K t.u_NoText "row" OY):=by
 have G_g:=@Og P w _ _ base _ T;have G_X:=@OS P w _ _ base _ T;have G_A:=@E6 P w _ _ base _ T;refine T.F_h.F.okDXn rK (λds Q R h=>?_) (λcdv A outer s H O ds Q R E hr h hx=>?_)
 ·obtain⟨d,rfl,_⟩:=h;rfl
 ·obtain⟨d,rfl,hd,hz,q2⟩:=h;refine'⟨_,?A,?B⟩
  case A=>
   refine' ai ?C ?D
   case C=>
    refine' aH ?E ?F aG
    case E=>exact(ki (bV (mJ (K':=K) (T:="str") rfl rfl T.n_isinstance lE (df (dv 0)) (lY (v:= .ty "str") rfl T.n_str mP rfl))))
    case' F=>refine' ak ?G
    case G=>exact(rH hx RB T.xm_NoText G_A hr T.c_NoText T.F_A.b (aa ae ah))
   case' D=>refine' ai ?H ?I
   case H=>exact(nO (i:=1) rK.nd rfl Wo (bw ah))
   case' I=>refine' ai ?J ?K
   case J=>exact(aW (i:=2) rK.nd rfl Wo (uI (Mk (dv 0)) (fe (oO (dv 0) aw)) (fe (bw ah))))
   case' K=>refine' ai ?L ?M
   case L=>
    refine' Et PassesOwn.leaving rfl rfl T.n_enumerate (aa (dv 2) ah) ?N (uM (nr bW (nr bW sY))) ?O
    case N=>exact(sC (n:=2) rfl (mw (bM (i:=3) rK.nd rfl Wo) (mw (bM (i:=4) rK.nd rfl Wo) qM)))
    case' O=>refine' ai ?P ?Q
    case P=>exact(aW (i:=5) rK.nd rfl Wo (ar G_g hr T.F_g (aa (dv 4) ah)))
    case' Q=>refine' ai ?R ?S
    case R=>
     refine' aH ?T ?U aG
     case T=>exact(PW.pt (kc (aD qQ uX (dv 5) kh (av _)) (kF (bV (PE.imp (aR (x6 rfl) rfl T.n_any x8 (aA (fe (oC rfl Gs (dw 1) bW kU tx (λ_ _ _ _=>(bM (i:=0) Gs.nd rfl Wo)) (λ_ _ _ _=>kW) (λ_ _ _ _=>(ar G_X hr T.F_X (aa (dv 0) (aa (dv 1) ah)))))) aB)) (aE nu))))))
     case' U=>refine' ak ?V
     case V=>exact(rH hx RB T.xm_NoText G_A hr T.c_NoText T.F_A.b (aa (dv 3) ah))
    case' S=>refine' ak ?W
    case W=>exact(sW (i:=1) (pv 1) (dv 5))
   case' M=>refine' ak ?X
   case X=>exact(ax (PE.imp (cf lZ rfl T.n_tuple k6 (qT (dw 1) aB)) (aE l8)))
  case B=>
  clear hr T hx G_g G_X G_A;walk_at "a";simp only [Ai];refine⟨_,rfl,hd,?_⟩;cases d with
  | str z=>
   obtain⟨tz,q1,qn⟩:=hz z rfl;rw [show tu (.str z)=true from rfl,Wm tx];refine⟨z,rfl,by have:=tz.len;omega,?_⟩;have hr:=tz.rows;have hf:=tz.few;unfold qG at q1 qn;unfold nZ at q1 qn hr hf;by_cases h0:z.length=0
   ·rw [Wm (by simp [h0])];rw [Wn h0] at q1;refine⟨λ_ δ=>δ=[some (Sl.v (Pr z)),some (Sl.o []),some (Sl.v (Q8 [])),none,none,none],rfl,(λi x δ hx=>by cases hx),?_⟩;rintro δ rfl;walk_at "a";exact q1 [] rfl
   ·rw [Wn (by simp;omega)];rw [Wm h0] at q1 qn hr hf;refine⟨z,rfl,td,by have:=tz.len;omega,?_⟩;generalize Txt.split z (Pp "\n")=rows at*;refine⟨λi δ=>∃(acc:List Wr)(o3 o4 o5:Option Sl),(∀d∈acc,bo d)/\acc.length=i/\run [] 0 rows=run acc i (rows.drop i)/\δ=[some (Sl.v (Pr z)),some (Sl.o acc),some (Sl.v (Q8 (QZ Pr rows))),o3,o4,o5],⟨[],_,_,_,(λd h=>by cases h),rfl,rfl,rfl⟩,?_,?_⟩
    ·rintro i x δ hx ⟨acc,o3,o4,o5,ha,hl,hrun,rfl⟩;rw [vc,Ru] at hx;obtain⟨r,er,rfl⟩:∃r,rows[i]?=some r/\x= .tuple [.int (i:Int),.str r]:=by
      cases e:rows[i]? with
      | none=>rw [e] at hx;cases hx
      | some r=>
       rw [e] at hx;simp only [Qw,P0,QK] at hx;exact⟨r,rfl,hx.symm⟩
     have hi:i < rows.length:=(Ql.mp er).1;have ed:rows.drop i=r::rows.drop (i+1):=by
      rw [Sz hi,(Ql.mp er).2]
     have hrm:r∈rows:=Rp er;have lz:(Pp (toString (i:Int))).length<=4:=OT ⟨i,Ce⟩;have ll:=nW (i:=(i:Int)) Ce Ce;rw [ed,vZ] at hrun;walk_at "a";refine⟨r,rfl,hr r hrm,λd hd' e=>?_,λh=>?_⟩
     ·rw [show mM r=some d by rw [<-e];exact BR hd'] at hrun;dsimp only at hrun⊢;rw [Wm (show ¬lT d=true by cases hd' <;> exact λz=>by cases z)];refine⟨Ce,mI (λo=>.bool (dh o d)) (λo ho R' hR=>?_) ⟨acc.map λo=>dh o d,by rw [Rb];rfl,?_⟩⟩
      ·walk_at "a";exact⟨o,d,rfl,pQ (ha o ho),pQ hd',hR⟩
      ·have ea:(acc.map λo=>dh o d).any id=acc.any λo=>dh o d:=by rw [Vm];rfl
       by_cases hq:(acc.any λo=>dh o d)=true
       ·rw [Wn hq] at hrun;rw [Wn (ea.trans hq)];exact⟨ll,Ce,qn i hrun⟩
       ·rw [Wm hq] at hrun;rw [Wm (λz=>hq (ea.symm.trans z))];refine⟨Ce,acc++[d],λx hx=>?_,by rw [Ra];simp;omega,hrun,rfl,_,rfl⟩;rcases Rq.mp hx with h | h
        ·exact ha x h
        ·rw [Q9.mp h];exact hd'
     ·rw [show mM r=none from Gu h] at hrun;dsimp only at hrun⊢;rw [Wn (show lT RV=true from rfl)];exact⟨ll,Ce,qn i hrun⟩
    ·rintro δ ⟨acc,o3,o4,o5,ha,hl,hrun,rfl⟩;walk_at "a";refine q1 _ ?_;rw [hrun,vb,PB,RI (PL _)];rfl
  | _=>exact⟨tx,td,q2 λz e=>by cases e⟩
end
theorem Gv:bO (az vI) ["_law_text","_law_found","_law_number","_law_row","_law_deed"] ["_law_ahead_here","_law_deed"] 1 [4] ⟨Qf,[ (Pt ".0",Ym),(Pt "_law_ahead_here",Ym),(Pt "_law_due",Qm),(Pt "_law_deed",Rf)],false,false,[]⟩:= .of
section
variable {P:WH} {w:WJ} {K:Pq} {mg:Str->Option Ws} {base:WG} {t:k8}
theorem O3(C C' L L' R R' D D' N X Z:Bool)(hz:Z=true->X=true/\N=true)(Q:Bool->Prop)(h:Q (Z || (X && (C && C' || L && L' || N && (R && R' || D && D'))))):
 if C=true then if C'=true then Q X else(if L=true then if L'=true then Q X else(if R=true then if R'=true then Q (N && X) else if D=true then if D'=true then Q (N && X) else Q Z else Q Z else if D=true then if D'=true then Q (N && X) else Q Z else Q Z) else(if R=true then if R'=true then Q (N && X) else if D=true then if D'=true then Q (N && X) else Q Z else Q Z else if D=true then if D'=true then Q (N && X) else Q Z else Q Z)) else(if L=true then if L'=true then Q X else(if R=true then if R'=true then Q (N && X) else if D=true then if D'=true then Q (N && X) else Q Z else Q Z else if D=true then if D'=true then Q (N && X) else Q Z else Q Z) else(if R=true then if R'=true then Q (N && X) else if D=true then if D'=true then Q (N && X) else Q Z else Q Z else if D=true then if D'=true then Q (N && X) else Q Z else Q Z)):=by
 have tail:(C && C' || L && L')=false->(if R=true then if R'=true then Q (N && X) else if D=true then if D'=true then Q (N && X) else Q Z else Q Z else if D=true then if D'=true then Q (N && X) else Q Z else Q Z):=λh0=>by
  rw [h0] at h;cases Z
  ·cases N <;> cases X <;> cases R <;> cases R' <;> cases D <;> cases D' <;> simpa using h
  ·obtain⟨rfl,rfl⟩:=hz rfl;cases R <;> cases R' <;> cases D <;> cases D' <;> simpa using h
 have one:(C && C' || L && L')=true->Q X:=λh0=>by
  rw [h0] at h;cases Z
  ·cases X <;> simpa using h
  ·obtain⟨rfl,rfl⟩:=hz rfl;simpa using h
 cases C <;> cases C' <;> cases L <;> cases L' <;> first | exact tail rfl | exact one rfl
def O4:List Wr->(Wr->Prop)->Prop:=λds Q=>∃d e,ds=[d,e]/\qF d/\qF e/\Q (.bool (dh d e))
theorem Gw(T:Txt K mg t):aF P w K mg base CX0 1 t.a_AA t.d_AA ["_law_one","_law_other"] (bg K O4):=by
 refine T.F_AA.F.okD E3 (λds Q h=>?_) (λ_ _ _ _ H O ds Q E hr h=>?_)
 ·obtain⟨d,e,rfl,_⟩:=h;rfl
 ·obtain⟨d,e,rfl,⟨w,n,x,r,rfl,sd⟩,⟨w',n',x',r',rfl,se⟩,q⟩:=h;refine'⟨_,?A,?B⟩
  case A=>
   refine' ai ?C ?D
   case C=>
    refine' aH ?E ?F aG
    case E=>exact(PW.pt (kc (PW.pt (kG (aD (cI hr) cJ (aj aI aK (dv 0) ae) aw (av _)) (lF (aD (cI hr) cJ (aj aI aK (dv 1) ae) aw (av _))))) (kF (PW.pt (kG (aD (cI hr) cJ (aj aI aK (dv 0) ae) aw (av _)) (lF (aD (cI hr) cJ (aj aI aK (dv 1) ae) aw (av _))))))))
    case' F=>refine' ak ?G
    case' G=>refine' ax ?H
    case H=>exact(fS (ck hr.units) cn (df (aj aI aK (dv 0) ae)) (df (aj aI aK (dv 1) ae)) (av _))
   case' D=>refine' ai ?I ?J
   case I=>
    refine' Jk RN rfl (fe (bw (aa (fe (bw (aa aw (aa aw ah)))) (aa (fe (bw (aa aw (aa aw ah)))) ah)))) ?K bW ?L
    case K=>exact(bM (i:=2) E3.nd rfl Wo)
    case' L=>refine' ak ?M
    case' M=>refine' aH ?N ?O aG
    case N=>exact(PW.pt (kG (aD (oG hr) mT (aj aI aK (dv 0) ae) (dv 2) rfl) (lF (aD (oG hr) mT (aj aI aK (dv 1) ae) (dv 2) rfl))))
    case' O=>refine' ak ?P
    case' P=>refine' ax ?Q
    case Q=>exact(fS (ck hr.units) cn (df (tq (df (dv 0)) (bP ae) (bP ae))) (df (tq (df (dv 1)) (bP ae) (bP ae))) (av _))
   case' J=>refine' ak ?R
   case R=>exact(ax (fS (ck hr.units) cn (df (dv 0)) (df (dv 1)) (av _)))
  case B=>
  have hw:aV (.str w):=pB sd _ Wq;have hw':aV (.str w'):=pB se _ Wq;have hx:aV (.str x):=pB sd _ Wq;have hx':aV (.str x'):=pB se _ Wq;clear hr T;walk_at "a";simp only [hw,hw',hx,hx',sd,se,true_and,lit0,lit1,lit2,lit3,lit4,lit5,lit6,lit7,lit8,lit9,lit10,lit11,lit12,lit13,lit14,lit15,lit16,lit17,lit18,lit19,lit20,lit21,lit22,lit23,lit24,lit25,lit26,lit27,lit28,lit29,lit30,lit31,lit32,lit33,lit34,lit35,lit36,lit37,lit38,lit39,lit40,lit41,lit42,lit43,lit44,lit45,lit46,lit47,lit48,lit49,lit50,lit51,lit52,lit53];have fin:∀{b:Bool},b=dh (.tuple (.str w:: .int n:: .str x::r)) (.tuple (.str w':: .int n':: .str x'::r'))->Q (.bool b):=λe=>by rw [e];exact q
  have qd:dh (.tuple (.str w:: .int n:: .str x::r)) (.tuple (.str w':: .int n':: .str x'::r'))=(PJ (.tuple (.str w:: .int n:: .str x::r)) (.tuple (.str w':: .int n':: .str x'::r')) || (x==x' && ((w==("paper":Str) && w'==("paper":Str)) || (w==("leave":Str) && w'==("leave":Str)) || (n==n' && ((kO w "rule" "end" && kO w' "rule" "end") || (kO w "hold" "lift" && kO w' "hold" "lift")))))):=rfl;rw [qd] at fin;clear qd q;have c1:Q4 [Pr (Pp "rule"),Pr (Pp "end")]=true:=td
  have c2:Q4 [Pr (Pp "hold"),Pr (Pp "lift")]=true:=td
  have pr:∀{k:Int}{y:Str},aV (.str y)->PD (Qx [PN k,Pr y])=true:=λ{k y} h=>by
   have h:=mH.mp h;unfold PD;simp [QW,Si,Q4,Rv,h]
  have e2:(Qx [PN n,Pr x]).eqv (Qx [PN n',Pr x'])=(n==n' && x==x'):=by
   simp only [PJ,Rc,cP,bj,P4]
  have hz:(Qx (Pr w::PN n::Pr x::r)).eqv (Qx (Pr w'::PN n'::Pr x'::r'))=true->(x==x')=true/\(n==n')=true:=λz=>by
   simp only [PJ,Rc,cP,bj,P6] at z;exact⟨z.2.2.1,z.2.1⟩
  have cm:∀a b:Str,(a==b)=(b==a):=λa b=>TX;simp only [kO,cm w "rule",cm w "end",cm w "hold",cm w "lift",cm w' "rule",cm w' "end",cm w' "hold",cm w' "lift"] at fin;simp only [c1,c2,e2,pr hx,pr hx',true_and];generalize (Qx (Pr w::PN n::Pr x::r)).eqv (Qx (Pr w'::PN n'::Pr x'::r'))=A at*;generalize (x==x')=B at*;generalize (w==("paper":Str))=C at*;generalize (w'==("paper":Str))=C' at*;generalize (w==("leave":Str))=L at*;generalize (w'==("leave":Str))=L' at*;generalize (("rule":Str)==w || ("end":Str)==w)=R at*;generalize (("rule":Str)==w' || ("end":Str)==w')=R' at*;generalize (("hold":Str)==w || ("lift":Str)==w)=D at*;generalize (("hold":Str)==w' || ("lift":Str)==w')=D' at*;generalize (n==n')=N at*;exact O3 C C' L L' R R' D D' N B A hz (λb=>Q (.bool b)) (fin rfl)
def n5(z:Str):Wr:=match qG z with
 | .ok l=>.tuple [.tuple l,.none]
 | .error n=>.tuple [.none,.int (n:Int)]
def Gx:List Wr->(Wr->Prop)->Prop:=λds Q=>∃z,ds=[.str z]/\qH z/\Q (n5 z)
theorem O5(T:Txt K mg t):aF P w K mg base CX0 4 t.a_AB t.d_AB ["_law_text"] (bg K Gx):=by
 have G_z:=@OP P w _ _ base _ T;have G_AA:=@Gw P w _ _ base _ T;refine T.F_AB.F.okD tT (λds Q h=>?_) (λ_ _ _ _ H O ds Q E hr h=>?_)
 ·obtain⟨d,rfl,_⟩:=h;rfl
 ·obtain⟨z,rfl,tz,q⟩:=h;refine'⟨_,?A,?B⟩
  case A=>
   refine' ai ?C ?D
   case C=>exact(nO (i:=1) tT.nd rfl Wo (bw ah))
   case' D=>refine' ai ?E ?F
   case E=>
    refine' aH ?G ?H aG
    case G=>exact(aD (cI hr) cJ (dv 0) aw (av _))
    case' H=>refine' ak ?I
    case I=>exact(ax (bD (aa (bD ah) (aa kh ah))))
   case' F=>refine' ai ?J ?K
   case J=>
    refine' Et RN rfl rfl T.n_enumerate (aa (fe (oO (dv 0) aw)) ah) ?L (uM (nr bW (nr bW sY))) ?M
    case L=>exact(sC (n:=2) rfl (mw (bM (i:=2) tT.nd rfl Wo) (mw (bM (i:=3) tT.nd rfl Wo) qM)))
    case' M=>refine' ai ?N ?O
    case N=>exact(aW (i:=4) tT.nd rfl Wo (ar G_z hr T.F_z (aa (dv 3) ah)))
    case' O=>refine' ai ?P ?Q
    case P=>
     refine' aH ?R ?S aG
     case R=>exact(PW.pt (kc (aD qQ uX (dv 4) kh (av _)) (kF (bV (PE.imp (aR (x6 rfl) rfl T.n_any x8 (aA (fe (oC rfl Gv (dw 1) bW kU tx (λ_ _ _ _=>(bM (i:=0) Gv.nd rfl Wo)) (λ_ _ _ _=>kW) (λ_ _ _ _=>(ar G_AA hr T.F_AA (aa (dv 0) (aa (dv 1) ah)))))) aB)) (aE nu))))))
     case' S=>refine' ak ?T
     case T=>exact(ax (bD (aa kh (aa (dv 2) ah))))
    case' Q=>refine' ak ?U
    case U=>exact(sW (i:=1) (pv 1) (dv 4))
   case' K=>refine' ak ?V
   case V=>exact(ax (bD (aa (PE.imp (cf lZ rfl T.n_tuple k6 (qT (dw 1) aB)) (aE l8)) (aa kh ah))))
  case B=>
  clear hr T G_z G_AA;walk_at "a";have hr:=tz.rows;have hf:=tz.few;unfold n5 qG at q;unfold nZ at q hr hf;by_cases h0:z.length=0
  ·have e0:z=Pp "":=by
    have:z.cps.toList=[]:=SU (by rw [<-nB];exact h0);exact pL this
   rw [Wn h0] at q;rw [Wn (by rw [e0];simp)];exact q
  ·rw [Wm (λz=>h0 (by
    have z:=eq_of_beq z;rw [z];decide+kernel))]
   rw [Wm h0] at q hr hf;refine⟨td,by have:=tz.len;omega,?_⟩;generalize Txt.split z (Pp "\n")=rows at*;refine⟨λi δ=>∃(acc:List Wr)(o2 o3 o4:Option Sl),(∀d∈acc,bo d)/\acc.length=i/\run [] 0 rows=run acc i (rows.drop i)/\δ=[some (Sl.v (Pr z)),some (Sl.o acc),o2,o3,o4],⟨[],_,_,_,(λd h=>by cases h),rfl,rfl,rfl⟩,?_,?_⟩
   ·rintro i x δ hx ⟨acc,o2,o3,o4,ha,hl,hrun,rfl⟩;rw [vc,Ru] at hx;obtain⟨r,er,rfl⟩:∃r,rows[i]?=some r/\x= .tuple [.int (i:Int),.str r]:=by
     cases e:rows[i]? with
     | none=>rw [e] at hx;cases hx
     | some r=>
      rw [e] at hx;simp only [Qw,P0,QK] at hx;exact⟨r,rfl,hx.symm⟩
    have hi:i < rows.length:=(Ql.mp er).1;have ed:rows.drop i=r::rows.drop (i+1):=by
     rw [Sz hi,(Ql.mp er).2]
    have hrm:r∈rows:=Rp er;rw [ed,vZ] at hrun;walk_at "a";refine⟨r,rfl,hr r hrm,λd hd' e=>?_,λh=>?_⟩
    ·rw [show mM r=some d by rw [<-e];exact BR hd'] at hrun;dsimp only at hrun⊢;rw [Wm (show ¬lT d=true by cases hd' <;> exact λz=>by cases z)];refine⟨Ce,mI (λo=>.bool (dh o d)) (λo ho R' hR=>?_) ⟨acc.map λo=>dh o d,by rw [Rb];rfl,?_⟩⟩
     ·walk_at "a";exact⟨o,d,rfl,pQ (ha o ho),pQ hd',hR⟩
     ·have ea:(acc.map λo=>dh o d).any id=acc.any λo=>dh o d:=by rw [Vm];rfl
      by_cases hq:(acc.any λo=>dh o d)=true
      ·rw [Wn hq] at hrun;rw [Wn (ea.trans hq)];rw [hrun] at q;exact q
      ·rw [Wm hq] at hrun;rw [Wm (λz=>hq (ea.symm.trans z))];refine⟨Ce,acc++[d],λx hx=>?_,by rw [Ra];simp;omega,hrun,rfl,_,rfl⟩;rcases Rq.mp hx with h | h
       ·exact ha x h
       ·rw [Q9.mp h];exact hd'
    ·rw [show mM r=none from Gu h] at hrun;dsimp only at hrun⊢;rw [Wn (show lT RV=true from rfl)];rw [hrun] at q;exact q
   ·rintro δ ⟨acc,o2,o3,o4,ha,hl,hrun,rfl⟩;walk_at "a";rw [hrun,vb,PB,RI (PL _)] at q;exact q
end
theorem Gy:bO (az vJ) ["_law_pack_here","_law_rows","_law_at","_law_way"] ["_law_row"] 1 [] ⟨Qf,[(Pt ".0",Ym),(Pt "_law_row",Ym)],false,false,[]⟩:= .of
section
variable {P:WH} {w:WJ} {K:Pq} {mg:Str->Option Ws} {base:WG} {t:k8}
def Sm(m:Nat)(z:Str):Prop:=z.length<=m/\QM z=true
instance {m:Nat} {z:Str}:Decidable (Sm m z):=by unfold Sm;infer_instance
def bL(ws:List Str):Nat:=(ws.map λp=>p.length+1).sum
theorem oU{a b:List Str}:bL (a++b)=bL a+bL b:=by unfold bL;rw [RE,UC]
theorem ng{a:Str}{b:List Str}:bL (a::b)=a.length+1+bL b:=by unfold bL;rw [Pw,R8]
theorem pR:∀{ws:List Str},(ws.map λp:Str=>p.length).sum+ws.length=bL ws
 | []=>rfl
 | a::l=>by
  have:=pR (ws:=l);rw [ng,Pw,R8,Pu];omega
theorem rX(c:Nat):∀{ws:List Str},ws≠[]->(lI c (ws.map λp=>p.cps.toList)).length+1=bL ws
 | [a],_=>by rw [ng,nB];rfl
 | a::b::r,_=>by
  have:=rX c (ws:=b::r) Wq;rw [ng,<-this,nB];show(a.cps.toList++c::lI c ((b::r).map λp=>p.cps.toList)).length+1=_;rw [Ra,Pu];omega
theorem qI{c:Nat}{ws:List Str}:(Txt.join ⟨#[c]⟩ ws).cps.toList=lI c (ws.map λp=>p.cps.toList):=by
 rw [show Txt.join ⟨#[c]⟩ ws=SJ ⟨#[c]⟩ ws from RS _ _,qx]
theorem O6{z:Str}{c:Nat}:bL (Txt.split z ⟨#[c]⟩)=z.length+1:=by
 have hj:=vX (z:=z) (c:=c);have hn:Txt.split z ⟨#[c]⟩≠[]:=λe=>by
  have h1:=rE z c;rw [e] at h1;exact AH _ _ h1.symm
 have:=rX c hn;rw [<-this,<-qI,hj,nB]
theorem uh{ws:List Str}{m c:Nat}(hc:c < 0x110000)(h:∀p∈ws,QM p=true)(hm:bL ws<=m+1):Sm m (Txt.join ⟨#[c]⟩ ws):=by
 refine⟨?_,nP.mpr λx hx=>?_⟩
 ·rw [nB,qI];by_cases hn:ws=[]
  ·rw [hn];exact Rt _
  ·have:=rX c hn;omega
 ·rw [qI] at hx;rcases tZ hx with z | ⟨p,hp,z⟩
  ·rw [z];exact hc
  ·obtain⟨q,hq,rfl⟩:=QG.mp hp;exact nP.mp (h q hq) x z
theorem Gz{ws:List Str}{n:Nat}:bL (ws.take n)<=bL ws:=by
 have:bL (ws.take n++ws.drop n)=bL ws:=by rw [Sw]
 rw [oU] at this;omega
theorem GA{ws:List Str}{n:Nat}:bL (ws.drop n)<=bL ws:=by
 have:bL (ws.take n++ws.drop n)=bL ws:=by rw [Sw]
 rw [oU] at this;omega
theorem GB{ws:List Str}{a:Nat}{hi:Option Int}:∃n,bz (ws.map Pr) (some (a:Int)) hi=((ws.drop a).take n).map .str:=by
 unfold bz;rw [PB];by_cases h:a<=ws.length
 ·rw [oF (i:=(a:Int)) Ce Ce,Q7];exact⟨_,by rw [Ta,Ub]⟩
 ·refine⟨0,?_⟩;rw [show HT.sIx ws.length 0 (some (a:Int))=ws.length by rw [HT.sIx_nat];omega,RI (by rw [PB];exact PL _)];simp
theorem GC{a b:Str}(h:QM a=true)(h2:QM b=true):QM (a++b)=true:=nP.mpr λc hc=>by
 simp only [tf,Sj,Rq] at hc;rcases hc with z | z
 ·exact nP.mp h c z
 ·exact nP.mp h2 c z
def GF:List Str:=["","paper","end 2000-01-01","leave 2000-01-01 a","END 2000-01-01 a","lift 2000-02-30 a"," ","-","end 2000-01-01 a b","hold 2000-01-01 a kind b Deep","paper 2000-01-01 a b d c","end  2000-01-01 a"]
theorem O7:∀z∈GF,Sm 30 z:=td
def O8:List Wr->(Wr->Prop)->Prop:=λds Q=>∃(rows:List Str)(m:Nat),ds=[mi,.list (rows.map .str)]/\(∀z∈rows,Sm m z)/\27<=m/\m<=900/\rows.length<=1000/\∀z,Sm (m+11) z->Q (.str z)
theorem O9(T:Txt K mg t):aF P w K mg base CX0 2 t.a_AD t.d_AD ["_law_pack_here","_law_rows"] (bg K O8):=by
 have G_k:=@qB P w _ _ base _ T;refine T.F_AD.F.okD vL (λds Q h=>?_) (λ_ _ _ _ H O ds Q E hr h=>?_)
 ·obtain⟨rows,m,rfl,_⟩:=h;rfl
 ·obtain⟨rows,m,rfl,hn,m1,m2,rl,q⟩:=h;refine'⟨_,?A,?B⟩
  case A=>
   refine' ai ?C ?D
   case C=>
    generalize hE2_0:S6 _ _=ee2_0;exact nO (i:=2) vL.nd rfl Wo (qp (ds:=[.str "",.str "paper",.str "end 2000-01-01",.str "leave 2000-01-01 a",.str "END 2000-01-01 a",.str "lift 2000-02-30 a",.str " ",.str "-"]) (by first | (subst hE2_0;rfl))) (hs:=Dm (ds:=[.str "",.str "paper",.str "end 2000-01-01",.str "leave 2000-01-01 a",.str "END 2000-01-01 a",.str "lift 2000-02-30 a",.str " ",.str "-"]) (by first | (subst hE2_0;rfl)))
   case' D=>refine' ai ?E ?F
   case E=>exact(nO (i:=2) vL.nd rfl Wo (lq (dw 2) (df (fe (bw (ny (ds:=[.str "end 2000-01-01 a b",.str "hold 2000-01-01 a kind b Deep",.str "paper 2000-01-01 a b d c"]) (by rfl)))))))
   case' F=>refine' ai ?G ?H
   case G=>exact(sW (i:=2) (pv 2) aw)
   case' H=>refine' ai ?I ?J
   case I=>
    refine' aH ?K ?L aG
    case K=>exact(PW.pt (kc (aD (ck hr.units) cn (dv 1) (fe (bw ah)) (av _)) (kF (aD (ck hr.units) cn (ar G_k hr T.F_k (aa (dv 0) (aa ae ah))) ae (av _)))))
    case' L=>refine' ak ?M
    case' M=>refine' ax ?N
    case' N=>refine' pA aO aP (dw 2) ?O
    case O=>exact(df (ar G_k hr T.F_k (aa (dv 0) (aa (PE.imp (aR ke rfl T.n_len Qj (qT (dw 2) aB)) (aE ko)) ah))))
   case' J=>refine' ai ?P ?Q
   case P=>
    refine' aW (i:=3) vL.nd rfl Wo ?R (hs:=oM)
    case R=>exact(fe (oO (aj aO aP (dv 1) (ar G_k hr T.F_k (aa (dv 0) (aa (PE.imp (aR ke rfl T.n_len Qj (aA (dv 1) aB)) (aE ko)) ah)))) aw))
   case' Q=>refine' ai ?S ?T
   case S=>
    refine' aH ?U ?V aG
    case U=>exact(aD (cI hr) cJ (aj aO aP (dv 3) ae) aw (av _))
    case' V=>refine' ak ?W
    case' W=>refine' ax ?X
    case X=>exact(aS sL sZ aw (mG aw (df (fe (kB (df (dv 3)) (bP ae) (bP ae))))))
   case' T=>refine' ai ?Y ?Z
   case Y=>
    refine' aH ?a ?b aG
    case a=>exact(aD (cI hr) cJ (aj aO aP (dv 3) ae) aw (av _))
    case' b=>refine' ak ?c
    case' c=>refine' ax ?d
    case d=>exact(aS sL sZ aw (mG aw (df (fe (kB (df (dv 3)) (bP ae) (bP ae))))))
   case' Z=>refine' ai ?e ?f
   case e=>
    refine' aH ?g ?h aG
    case g=>exact(PW.pt (kc (aD (cI hr) cJ (aj aO aP (dv 3) ae) aw (av _)) (kF (aD (cI hr) cJ (aj aO aP (dv 3) ae) aw (av _)))))
    case' h=>refine' ak ?i
    case' i=>generalize hG28:VV _ _ _ _=eg28
    refine' ax ?j
    case' j=>subst hG28
    exact(mG aw (df (fe (lq (df (fe (bw (aa (aj aO aP (dv 3) ae) (aa aw ah))))) (df (fe (kB (df (dv 3)) (bP ae) (bP ae))))))))
   case' f=>refine' ak ?k
   case k=>exact(ax (mG aw (df (dv 3))))
  case B=>
  clear hr T G_k;simp only [cq,true_and,↓jg,↓jq,↓jr,↓jt,↓ju,↓jv,↓jw,↓jh,↓fE,↓iN,↓jW,↓jX,↓jY,↓jZ,↓j3,↓j5,↓iO,↓iP,↓iQ,↓iR,↓iS,↓iT,↓iU,↓iV,↓iW,↓iX,↓iY,↓iZ,↓i3,↓i4,↓i5,↓i6,↓i7,↓i8,↓i9,↓ja,↓jb,↓jd,↓je,↓jf,dE,dF,dH,dG,fV,fW,cT,dJ,dM,dR,dS,gc,di,dC,bE,dI,d3,d6,d7,gk,d8,cy,eQ,eO,eg,d9,dL,cU,dj,fR,cR,cL,bS,dm,dn,dz,dA,fT,dB,dD,cM,cN,fU,gO,gQ,gR,gS,gT,gU,gW,gX,gY,gZ,g6,g9,hG,hJ,hV,hW,hX,hZ,h7,ic,ie,ig,ij,ik,il,ip,iq,iu,iw,ix,iy,iz,iA,iB,iC,iD,iE,iF,iG,iH,iI,iJ,iK,gP,eF,gj,eR,cY,gp,gm,ei,eD,eG,eJ,eL,eM,eN,cW,eT,eV,eX,cj,gf,gh,gi,dU,dW,fX,fY,dX,fZ,dY,gb,fv,fy,fz,gL,gM,gK,gN,fk,fq,ft,fu,cz,fx,fw,fh,fj,fA,fB,fC,fD,cE,iL,iM,jj,ji,jk,jl,jm,jn,jo,fF,fG,jA,jy,jz,jx,jF,jB,jC,jD,jE,cZ,fH,jJ,jK,jG,jH,jI,jL,jM,jN,fJ,jO,jP,fK,jR,fL,jS,jT,jU,jQ,jV,fM,fN,fO,fP,j6,j7,j8,fQ,cq,gB,gC,gD,gE,gF,gG,gH,gI,gJ,ne_eq,bU,gx,gy,gz,gA,gr,gs,gu,cO,cV,dZ,dN,dQ,dP,dO,bT,bZ,bx,cu,cK,cw,Pw,Qc,Pu,P1,PH,P7,P2,PX,QD,QE,QO,QK,QP,PR,PM,Qh,P8,P9,P0,exists_eq_left',exists_eq_left,exists_and_left,exists_and_right,Qn,Qo,Sl.v.injEq,Sl.o.injEq,Sl.k.injEq,Qs,Qp,Qu,Qi,Qq,PK,and_true,true_and,QQ,Qv,exists_const,decide_eq_true_eq,QR,QS,QI,QJ,P5,decide_eq_false_iff_not,and_assoc,or_true,true_or,↓reduceIte,if_true,if_false,PZ,Qb,not_true_eq_false,not_false_eq_true,QL,QA,ite_true,ite_false,eq_self,exists_eq,reduceCtorEq,false_and,and_false,or_false,false_or,exists_false,Qw,Qz,cH,QH,QU,QC,QV,P4,QB,Qg,QN,aX,bA,b0,cX,eY,bj,cP,fg,beq_self_eq_true,eZ,ff,gn,aV,WI];have od:∀i:Int,0<=i->i < 12->∃x,atI [Pr (Pp ""),Pr (Pp "paper"),Pr (Pp "end 2000-01-01"),Pr (Pp "leave 2000-01-01 a"),Pr (Pp "END 2000-01-01 a"),Pr (Pp "lift 2000-02-30 a"),Pr (Pp " "),Pr (Pp "-"),Pr (Pp "end 2000-01-01 a b"),Pr (Pp "hold 2000-01-01 a kind b Deep"),Pr (Pp "paper 2000-01-01 a b d c"),Pr (Pp "end  2000-01-01 a")] i=some x/\Q x:=λi i0 i1=>by
   obtain⟨nm,hm,em⟩:=qD GF i0 (show i < ((12:Nat):Int) from i1);have s:=O7 nm hm;exact⟨_,em,q nm ⟨Qt s.1 Ce,s.2⟩⟩
  refine⟨(pP λz hz=>(hn z hz).2).1,td,?_⟩;rw [show(Q8 (QZ Pr rows)).eqv (Q8 [])=decide (rows=[]) from qE (b:=[])];by_cases h0:rows=[]
  ·rw [Wn (decide_eq_true h0)];exact⟨tx,tx,od⟩
  ·rw [Wm (by simpa using h0)];intro i i0 i1;split
   ·exact⟨tx,tx,od⟩
   ·have rp:0 < rows.length:=Va.mpr h0;refine⟨by rw [PB];omega,by rw [PB];omega,λk k0 k1=>?_⟩;obtain⟨z,hm,em⟩:=qD rows k0 (by rw [PB] at k1;exact k1);have hz:=hn z hm;have zl:=hz.1;have ts:=O6 (z:=z) (c:=32);have hb:∀p∈Txt.split z ⟨#[32]⟩,QM p=true:=λp hp=>ug hz.2 hp;refine⟨_,em,z,rfl,td,Ce,?_⟩;rw [pN];generalize Txt.split z ⟨#[32]⟩=ws at*;have fin:∀ys:List Str,(∀p∈ys,QM p=true)->∀a,bL ys<=z.length+1+a->a<=11->(ys.map λx:Str=>x.length).sum+ys.length*(⟨#[32]⟩:Str).length<=16777216/\Sm (z.length+a) (Txt.join ⟨#[32]⟩ ys):=λys h1 a h2 h3=>by
     have:=pR (ws:=ys);exact⟨by rw [show(⟨#[32]⟩:Str).length=1 from rfl];omega,uh tx h1 Ce⟩
    have up:∀{a:Nat}{y:Str},a<=11->Sm (z.length+a) y->Q (.str y):=λh1 h2=>q _ ⟨Qt h2.1 Ce,h2.2⟩
    match ws with
    | []=>simp [bL] at ts
    | w0::rest=>
     have ok0:=hb w0 Wq;have qv:∀n m,∀p∈((w0::rest).drop n).take m,QM p=true:=λn m p hp=>hb p (RZ (RO hp));have tr:∀n m,bL (((w0::rest).drop n).take m)<=z.length+1:=λn m=>by
      have a:=Gz (ws:=(w0::rest).drop n) (n:=m);have b:=GA (ws:=w0::rest) (n:=n);omega
     obtain⟨n1,c1⟩:=GB (ws:=w0::rest) (a:=1) (hi:=some 3);obtain⟨n2,c2⟩:=GB (ws:=w0::rest) (a:=2) (hi:=some 4);simp only [Pw,aX] at*;have c1:bz (Pr w0::QZ Pr rest) (some 1) (some 3)=_:=c1;have c2:bz (Pr w0::QZ Pr rest) (some 2) (some 4)=_:=c2;rw [c1,c2];have hd:∀pre:Str,Sm 5 pre->pre.length+(Txt.join ⟨#[32]⟩ (((w0::rest).drop 1).take n1)).length<=16777216/\Q (.str (pre++Txt.join ⟨#[32]⟩ (((w0::rest).drop 1).take n1))):=λpre hp=>by
      have f:=(fin _ (qv 1 n1) 0 (tr 1 n1) Ce).2;have a:=f.1;have b:=hp.1;exact⟨Ce,up (a:=5) Ce ⟨by rw [pC];omega,GC hp.2 f.2⟩⟩
     have dt:∀n,(∀p∈w0::Pp "2003-04-05"::((w0::rest).drop 2).take n,QM p=true)/\bL (w0::Pp "2003-04-05"::((w0::rest).drop 2).take n)<=z.length+1+11:=λn=>by
      refine⟨λp hp=>?_,?_⟩
      ·simp only [Pz] at hp;rcases hp with rfl | rfl | hp
       ·exact ok0
       ·decide+kernel
       ·exact qv 2 n p hp
      ·rw [ng,ng,show(Pp "2003-04-05").length=10 by decide+kernel];rw [ng] at ts;have a:=Gz (ws:=(w0::rest).drop 2) (n:=n);have b:=GA (ws:=rest) (n:=1);rw [show(w0::rest).drop 2=rest.drop 1 from rfl] at a⊢;omega
     have last:∀n,∃ys:List Str,Pr w0::Pr (Pp "2003-04-05")::QZ Pr (((w0::rest).drop 2).take n)=ys.map .str/\(ys.map λx:Str=>x.length).sum+ys.length*(⟨#[32]⟩:Str).length<=16777216/\Q (.str (Txt.join ⟨#[32]⟩ ys)):=λn=>
      ⟨w0::Pp "2003-04-05"::((w0::rest).drop 2).take n,rfl,(fin _ (dt n).1 11 (dt n).2 Ce).1,up (a:=11) Ce (fin _ (dt n).1 11 (dt n).2 Ce).2⟩
     have l2:(QZ Pr (((w0::rest).drop 2).take n2)).length<=1000:=by
      have a:=pR (ws:=((w0::rest).drop 2).take n2);have b:=tr 2 n2;rw [PB];omega
     refine⟨_,rfl,bU,?_⟩;rw [bj];split
     ·exact⟨_,rfl,(fin _ (qv 1 n1) 0 (tr 1 n1) Ce).1,hd _ td⟩
     ·refine⟨_,rfl,bU,?_⟩;rw [bj];split
      ·exact⟨_,rfl,(fin _ (qv 1 n1) 0 (tr 1 n1) Ce).1,hd _ td⟩
      ·refine⟨_,rfl,bU,?_⟩;rw [bj];split
       ·exact⟨_,rfl,Ce,last n2⟩
       ·refine⟨_,rfl,bU,?_⟩;rw [bj];split
        ·exact⟨_,rfl,Ce,last n2⟩
        ·have f:=fin (w0::rest) hb 0 Ce Ce;exact⟨w0::rest,rfl,f.1,up Ce f.2⟩
def Pa:List Wr->(Wr->Prop)->Prop:=λds Q=>∃(rows:List Str)(m:Nat),ds=[mi,.list (rows.map .str)]/\(∀z∈rows,Sm m z)/\27<=m/\m<=900/\rows.length<=990/\∀rows':List Str,(∀z∈rows',Sm (m+11) z)->bL rows'<=bL rows+(m+12)->Q (.list (rows'.map .str))
theorem Pb(T:Txt K mg t):aF P w K mg base CX0 3 t.a_AE t.d_AE ["_law_pack_here","_law_rows"] (bg K Pa):=by
 have G_k:=@qB P w _ _ base _ T;have G_AD:=@O9 P w _ _ base _ T;refine T.F_AE.F.okD Bz (λds Q h=>?_) (λ_ _ _ _ H O ds Q E hr h=>?_)
 ·obtain⟨rows,m,rfl,_⟩:=h;rfl
 ·obtain⟨rows,m,rfl,hn,m1,m2,rl,q⟩:=h;refine'⟨_,?A,?B⟩
  case A=>
   refine' ai ?C ?D
   case C=>
    refine' aW (i:=2) Bz.nd rfl Wo ?E (hs:=oM)
    case E=>exact(ar G_k hr T.F_k (aa (dv 0) (aa (aS cb cx (PE.imp (aR ke rfl T.n_len Qj (aA (dv 1) aB)) (aE ko)) ae) ah)))
   case' D=>refine' ai ?F ?G
   case F=>exact(aW (i:=3) Bz.nd rfl Wo (ar G_k hr T.F_k (aa (dv 0) (aa ae ah))))
   case' G=>refine' ai ?H ?I
   case H=>
    refine' aH ?J ?K aG
    case J=>exact(aD qP bX (dv 3) ae (av _))
    case' K=>refine' ak ?L
    case' L=>refine' ax ?M
    case' M=>refine' fe ?N
    case' N=>refine' lq (df ?O) (df ?P)
    case O=>
     refine' fe ?Q
     case' Q=>refine' lq (df ?R) (df ?S)
     case R=>exact(fe (kB (df (dv 1)) kj (bP (dv 2))))
     case S=>exact(fe (bw (aa (ar G_AD hr T.F_AD (aa (dv 0) (aa (dv 1) ah))) ah)))
    case P=>exact(fe (kB (df (dv 1)) (bP (dv 2)) kj))
   case' I=>refine' ai ?T ?U
   case T=>
    refine' aH ?V ?W aG
    case V=>exact(aD (ck hr.units) cn (dv 3) ae (av _))
    case' W=>refine' ak ?X
    case' X=>refine' ax ?Y
    case' Y=>refine' fe ?Z
    case' Z=>refine' lq (df ?a) (df ?b)
    case a=>
     refine' fe ?c
     case' c=>refine' lq (df ?d) (df ?e)
     case d=>exact(fe (kB (df (dv 1)) kj (bP (dv 2))))
     case' e=>refine' fe ?f
     case f=>exact(oC rfl Gy (df (fe (kB (df (dv 1)) (bP (dv 2)) (bP (aS cb cx (dv 2) ae))))) bW kU tx (λ_ _ _ _=>(bM (i:=0) Gy.nd rfl Wo)) (λ_ _ _ _=>kW) (λ_ _ _ _=>(aS sL sZ (dv 0) aw)))
    case b=>exact(fe (kB (df (dv 1)) (bP (aS cb cx (dv 2) ae)) kj))
   case' U=>refine' ak ?g
   case' g=>refine' ax ?h
   case' h=>refine' pA aO aP (df ?i) ?j
   case i=>
    refine' fe ?k
    case' k=>refine' bw ?l
    case' l=>refine' aa ?m ?n
    case m=>exact(fe (lq (df (dv 1)) (df (fe (bw (aa aw ah))))))
    case' n=>refine' aa ?o ah
    case o=>exact(fe (lq (df (fe (bw (aa aw ah)))) (df (dv 1))))
   case j=>exact(df (ar G_k hr T.F_k (aa (dv 0) (aa ae ah))))
  case B=>
  clear hr T G_k G_AD;simp only [cq,true_and,↓jg,↓jq,↓jr,↓jt,↓ju,↓jv,↓jw,↓jh,↓fE,↓iN,↓jW,↓jX,↓jY,↓jZ,↓j3,↓j5,↓iO,↓iP,↓iQ,↓iR,↓iS,↓iT,↓iU,↓iV,↓iW,↓iX,↓iY,↓iZ,↓i3,↓i4,↓i5,↓i6,↓i7,↓i8,↓i9,↓ja,↓jb,↓jd,↓je,↓jf,dE,dF,dH,dG,fV,fW,cT,dJ,dM,dR,dS,gc,di,dC,bE,dI,d3,d6,d7,gk,d8,cy,eQ,eO,eg,d9,dL,cU,dj,fR,cR,cL,bS,dm,dn,dz,dA,fT,dB,dD,cM,cN,fU,gO,gQ,gR,gS,gT,gU,gW,gX,gY,gZ,g6,g9,hG,hJ,hV,hW,hX,hZ,h7,ic,ie,ig,ij,ik,il,ip,iq,iu,iw,ix,iy,iz,iA,iB,iC,iD,iE,iF,iG,iH,iI,iJ,iK,gP,eF,gj,eR,cY,gp,gm,ei,eD,eG,eJ,eL,eM,eN,cW,eT,eV,eX,cj,gf,gh,gi,dU,dW,fX,fY,dX,fZ,dY,gb,fv,fy,fz,gL,gM,gK,gN,fk,fq,ft,fu,cz,fx,fw,fh,fj,fA,fB,fC,fD,cE,iL,iM,jj,ji,jk,jl,jm,jn,jo,fF,fG,jA,jy,jz,jx,jF,jB,jC,jD,jE,cZ,fH,jJ,jK,jG,jH,jI,jL,jM,jN,fJ,jO,jP,fK,jR,fL,jS,jT,jU,jQ,jV,fM,fN,fO,fP,j6,j7,j8,fQ,cq,gB,gC,gD,gE,gF,gG,gH,gI,gJ,ne_eq,bU,gx,gy,gz,gA,gr,gs,gu,cO,cV,dZ,dN,dQ,dP,dO,bT,bZ,bx,cu,cK,cw,Pw,Qc,Pu,P1,PH,P7,P2,PX,QD,QE,QO,QK,QP,PR,PM,Qh,P8,P9,P0,exists_eq_left',exists_eq_left,exists_and_left,exists_and_right,Qn,Qo,Sl.v.injEq,Sl.o.injEq,Sl.k.injEq,Qs,Qp,Qu,Qi,Qq,PK,and_true,true_and,QQ,Qv,exists_const,decide_eq_true_eq,QR,QS,QI,QJ,P5,decide_eq_false_iff_not,and_assoc,or_true,true_or,↓reduceIte,if_true,if_false,PZ,Qb,not_true_eq_false,not_false_eq_true,QL,QA,ite_true,ite_false,eq_self,exists_eq,reduceCtorEq,false_and,and_false,or_false,false_or,exists_false,Qw,Qz,cH,QH,QU,QC,QV,P4,QB,Qg,QN,aX,bA,b0,cX,eY,bj,cP,fg,beq_self_eq_true,eZ,ff,gn,aV,WI];rw [PB];refine⟨Ce,Ce,λi i0 i1 g g0 g1=>?_⟩;obtain⟨k,rfl⟩:=Q0 i0
  have hk:k<=rows.length:=Ce
  have t1:=vU (ws:=rows) (k:=k);have t2:=pO (ws:=rows) (k:=k);have sp:bL rows=bL (rows.take k)+bL (rows.drop k):=by rw [<-oU,Sw]
  have st:∀p∈rows.take k,Sm (m+11) p:=λp hp=>by
   have:=hn p (RO hp);exact⟨Qt this.1 Ce,this.2⟩
  have sd:∀j,∀p∈rows.drop j,Sm (m+11) p:=λj p hp=>by
   have:=hn p (RZ hp);exact⟨Qt this.1 Ce,this.2⟩
  have sa:∀p∈rows,Sm (m+11) p:=λp hp=>by
   have:=hn p hp;exact⟨Qt this.1 Ce,this.2⟩
  have se:Sm (m+11) (Pp ""):=⟨by rw [show(Pp "").length=0 by decide+kernel];omega,td⟩;split
  ·refine⟨rows,m,rfl,hn,m1,m2,Ce,λo ho=>?_⟩;rw [t1,t2];have e:QZ Pr (rows.take k)++[Pr o]++QZ Pr (rows.drop k)=QZ Pr (rows.take k++[o]++rows.drop k):=by
    rw [RE,RE];rfl
   dsimp only;rw [e];refine⟨by rw [PB,Ro];omega,by simp only [Ra,PB,Ro,RU,Pu,P1];omega,q _ (λp hp=>?_) ?_⟩
   ·simp only [Rq,Q9] at hp;rcases hp with(h | h) | h
    ·exact st p h
    ·rw [h];exact ho
    ·exact sd k p h
   ·rw [oU,oU,ng];have:=ho.1;show bL (rows.take k)+(o.length+1+0)+_<=_;omega
  ·split
   ·have t3:bz (rows.map Pr) (some ((k:Int)+1)) none=(rows.drop (k+1)).map .str:=by
     rw [show(k:Int)+1=((k+1:Nat):Int) by omega];exact pO
    have t4:bz (rows.map Pr) (some (k:Int)) (some ((k:Int)+1))=((rows.drop k).take 1).map .str:=by
     unfold bz;rw [PB,oF (i:=(k:Int)) Ce Ce,Q7,Ta,Ub];by_cases h:k+1<=rows.length
     ·rw [oF Ce Ce,show((k:Int)+1).toNat - k=1 by omega]
     ·rw [RI (by rw [PB];omega),U4,U4]
    rw [t1,t3,t4];have sp1:bL (rows.drop k)=bL ((rows.drop k).take 1)+bL (rows.drop (k+1)):=by
     rw [<-List.drop_drop,<-oU,Sw]
    have lt:((rows.drop k).take 1).length<=1:=List.length_take_le _ _;have s4:∀p∈(rows.drop k).take 1,Sm m p:=λp hp=>hn p (RZ (RO hp));generalize (rows.drop k).take 1=xs at*;refine⟨by rw [PB];omega,mI (λy=>match y with | .str z=>.str (z++Pp " ") | _=>.none) (λx hx R hR=>?_) ?_⟩
    ·obtain⟨y,hy,rfl⟩:=QG.mp hx;have:=(s4 y hy).1;walk_at "a";exact⟨by rw [tY];omega,hR⟩
    ·have e:(xs.map Pr).map (λy=>match y with | Pr z=>Pr (z++Pp " ") | _=>RV)=(xs.map λz=>z++Pp " ").map .str:=by rw [Rb,Rb];rfl
     have e2:QZ Pr (rows.take k)++(xs.map Pr).map (λy=>match y with | Pr z=>Pr (z++Pp " ") | _=>RV)++QZ Pr (rows.drop (k+1))=QZ Pr (rows.take k++(xs.map λz=>z++Pp " ")++rows.drop (k+1)):=by
      rw [e,RE,RE]
     rw [e2];refine⟨by simp only [PB,Ro];omega,by simp only [Ra,PB,Ro,RU];omega,q _ (λp hp=>?_) ?_⟩
     ·simp only [Rq,QG] at hp;rcases hp with(h | ⟨y,hy,rfl⟩) | h
      ·exact st p h
      ·have:=s4 y hy;exact⟨by rw [pC,tY];have:=this.1;omega,GC this.2 td⟩
      ·exact sd _ p h
     ·rw [oU,oU];have:bL (xs.map λz=>z++Pp " ")<=bL xs+1:=by
       match xs,lt with
       | [],_=>simp [bL]
       | [y],_=>simp only [Pw,Qc,ng];rw [pC,tY];omega
      omega
   ·refine⟨Ce,Ce,λj j0 j1=>?_⟩;rcases(show j=0\/j=1 by omega) with rfl | rfl
    ·refine⟨_,aX,?_⟩;have:=q (rows++[Pp ""]) (λp hp=>by
      rcases Rq.mp hp with h | h
      ·exact sa p h
      ·rw [Q9.mp h];exact se) (by rw [oU];show bL rows+(0+1+0)<=_;omega)
     rw [RE] at this;exact this
    ·refine⟨_,bA,?_⟩;exact q (Pp ""::rows) (λp hp=>by
      rcases Pz.mp hp with h | h
      ·rw [h];exact se
      ·exact sa p h) (by rw [ng];show 0+1+bL rows<=_;omega)
end
theorem BS:bO (az vE) ["_law_found","_law_due_here"] ["_law_one","_law_other"] 2 [] ⟨Qf,[ (Pt ".0",Ym),(Pt "_law_one",Ym),(Pt "_law_other",Ym),(Pt "_law_same",Qm)],false,false,[]⟩:= .of
section
variable {P:WH} {w:WJ} {K:Pq} {mg:Str->Option Ws} {base:WG} {t:k8}
def BU:Wr->Prop
 | .bool _=>True
 | .int _=>True
 | .str z=>QM z=true
 | _=>False
def oV:Nat->Wr->Prop
 | 0,x=>BU x
 | d+1,x=>BU x\/∃xs,x= .tuple xs/\xs.length<=1000/\∀y∈xs,oV d y
theorem GG:∀{xs:List Wr}{x:Wr},x∈pI xs xs->∃y∈xs,x= .tuple [y,y]
 | [],_,h=>by cases h
 | a::l,x,h=>by
  have h:x∈Qx [a,a]::pI l l:=h;rcases Pz.mp h with e | e
  ·exact⟨a,Wq,e⟩
  ·obtain⟨y,hy,e⟩:=GG e;exact⟨y,by simp [hy],e⟩
def Pc(d:Nat):List Wr->(Wr->Prop)->Prop:=λds Q=>∃x,ds=[x,x]/\oV d x/\Q (.bool true)
theorem Pd{k:Nat}{f:Wu}{fd:WD}{ps:List Str}:aF P w K mg base CX0 k f fd ps (bg K λ_ _=>False):=⟨λvs H Q E uu70=>by obtain⟨_,_,_,_,_,h,_⟩:=uu70;exact h.elim,λ_ _ _ _ _ _ _ _ _ _ _ _ _ uu71=>by obtain⟨_,_,_,_,_,h,_⟩:=uu71;exact h.elim⟩
theorem GH{d:Nat}{F:List Wr->(Wr->Prop)->Prop}(T:Txt K mg t)(G_t:aF P w K mg base CX0 d t.a_t t.d_t ["_law_found","_law_due_here"] (bg K F)):
 aF P w K mg base CX0 (d+1) t.a_t t.d_t ["_law_found","_law_due_here"] (bg K λds Q=>∃x,ds=[x,x]/\(BU x\/∃xs,x= .tuple xs/\xs.length<=1000/\∀y∈xs,∀R:Wr->Prop,R (.bool true)->F [y,y] R)/\Q (.bool true)):=by
 refine T.F_t.F.okD MN (λds Q h=>?_) (λ_ _ _ _ H O ds Q E hr h=>?_)
 ·obtain⟨x,rfl,_⟩:=h;rfl
 ·obtain⟨x,rfl,hx,q⟩:=h;refine'⟨_,?A,?B⟩
  case A=>
   refine' ai ?C ?D
   case C=>
    refine' aH ?E ?F aG
    case E=>exact(bV (mJ (K':=K) (T:="tuple") rfl rfl T.n_isinstance lE (df (dv 1)) (lY (v:= .ty "tuple") rfl T.n_tuple k6 rfl)))
    case' F=>refine' ai ?G ?H
    case G=>
     refine' aH ?I ?J aG
     case I=>exact(PW.pt (kc (ki (bV (mJ (K':=K) (T:="tuple") rfl rfl T.n_isinstance lE (df (dv 0)) (lY (v:= .ty "tuple") rfl T.n_tuple k6 rfl)))) (kF (aD (mE hr.units) mF (PE.imp (aR ke rfl T.n_len Qj (aA (dv 0) aB)) (aE ko)) (PE.imp (aR ke rfl T.n_len Qj (aA (dv 1) aB)) (aE ko)) (av _)))))
     case J=>refine' ak (ax k7)
    case' H=>refine' ak ?K
    case' K=>refine' ax ?L
    case L=>exact(PE.imp (aR (pk rfl) rfl T.n_all pq (aA (fe (Lv rfl BS rfl T.n_zip (aA (dv 0) (aA (dv 1) aB)) (uM (nr bW (nr bW sY))) K2 tx (λ_ _ _ _=>(sC (n:=2) rfl (mw (bM (i:=0) BS.nd rfl Wo) (mw (bM (i:=1) BS.nd rfl Wo) qM)))) (λ_ _ _ _=>kW) (λ_ _ _ _=>(PE.imp (lN G_t (hr.mono (PL _)) rfl T.F_t (aa (dv 0) (aa (dv 1) ah))) C8)))) aB)) (aE nu))
   case' D=>refine' ak ?M
   case' M=>refine' ax ?N
   case N=>exact(kI (fS (ck hr.units) cn (df (mJ (K':=K) (T:="bool") rfl rfl T.n_isinstance lE (df (dv 0)) (lY (v:= .ty "bool") rfl T.n_bool sS rfl))) (df (mJ (K':=K) (T:="bool") rfl rfl T.n_isinstance lE (df (dv 1)) (lY (v:= .ty "bool") rfl T.n_bool sS rfl))) (av _)) (lK (fS (ck hr.units) cn (df (dv 0)) (df (dv 1)) (av _))))
  case B=>
  clear hr T G_t;walk_at "a";simp only [uU,Aj];rcases hx with hs | ⟨xs,rfl,hl,hF⟩
  ·obtain⟨t0,nd,sh,ev⟩:pE x=false/\(∀y:Wr,¬x=Wi [(RV,y)])/\PD x=true/\x.eqv x=true:=by
    cases x with
    | bool b=>exact⟨rfl,(λ_ e=>by cases e),ff,by rw [fg];exact beq_self_eq_true _⟩
    | int i=>exact⟨rfl,(λ_ e=>by cases e),eZ,by rw [cP];exact beq_self_eq_true _⟩
    | str z=>exact⟨rfl,(λ_ e=>by cases e),mH.mpr hs,by rw [bj];exact beq_self_eq_true _⟩
    | none=>exact hs.elim
    | list l=>exact hs.elim
    | tuple l=>exact hs.elim
    | dict l=>exact hs.elim
   refine⟨_,rfl,nd,?_⟩;rw [t0,Wm Qr];refine⟨_,rfl,nd,_,rfl,nd,?_⟩;rw [Wn Wq,ev];exact⟨sh,sh,q⟩
  ·have nd:∀y:Wr,¬Qx xs=Wi [(RV,y)]:=λ_ e=>by cases e
   refine⟨_,rfl,nd,?_⟩;rw [show pE (.tuple xs)=true from rfl,Wn rfl];refine⟨_,rfl,nd,?_⟩;rw [Wm tx];refine⟨xs,.inr rfl,xs,.inr rfl,?_⟩;rw [Wm Wq];refine⟨xs,rfl,xs,rfl,rfl,Ce,qt (p:=λb=>Q (.bool b)) (λ_=>true) (λx hx R hR=>?_) ?_⟩
   ·obtain⟨y,hy,rfl⟩:=GG hx;walk_at "a";exact hF y hy R hR
   ·have e:∀l:List Wr,((l.map λ_=>true).all id)=true:=λl=>by rw [SI];exact Rh.mpr λ_ _=>rfl
    rw [e];exact q
theorem GI(T:Txt K mg t):∀n,aF P w K mg base CX0 (16+n) t.a_t t.d_t ["_law_found","_law_due_here"] (bg K (Pc n))
 | 0=>(GH T (d:=15) Pd).imp λvs H Q E uu72=>by obtain⟨O,ds,Qd,a,b,⟨x,e,hx,q⟩,k⟩:=uu72;exact⟨O,ds,Qd,a,b,⟨x,e,.inl hx,q⟩,k⟩
 | n+1=>(GH T (GI T n)).imp λvs H Q E uu73=>by obtain⟨O,ds,Qd,a,b,⟨x,e,hx,q⟩,k⟩:=uu73;exact⟨O,ds,Qd,a,b,⟨x,e,hx.imp id (λuu74=>by obtain⟨xs,e1,e2,e3⟩:=uu74;exact⟨xs,e1,e2,λy hy R hR=>⟨y,rfl,e3 y hy,hR⟩⟩),q⟩,k⟩
theorem Pe{d:Wr}(h:bo d):oV 3 d:=by
 have st:∀{z:Str}(n:Nat),QM z=true->oV n (.str z):=λn h=>by cases n;exact h;exact .inl h
 have it:∀{z:Int}(n:Nat),oV n (.int z):=λn=>by cases n;exact trivial;exact .inl trivial
 have bt:∀{z:Bool}(n:Nat),oV n (.bool z):=λn=>by cases n;exact trivial;exact .inl trivial
 have tp:∀{l:List Wr}{n:Nat},l.length<=1000->(∀x∈l,oV n x)->oV (n+1) (.tuple l):=λh1 h2=>.inr ⟨_,rfl,h1,h2⟩;have ac:∀{p:Wr->Prop}{a:Wr}{l:List Wr},p a->(∀x∈l,p x)->∀x∈a::l,p x:=λh1 h2=>List.forall_mem_cons.mpr ⟨h1,h2⟩;have an:∀{p:Wr->Prop},∀x∈([]:List Wr),p x:=λx hx=>by cases hx
 have wl:∀{u:Str}{l:List Str},u∈l->(∀z∈l,QM z=true)->QM u=true:=λh h2=>h2 _ h;have sn:∀{s:Wr},lR s->oV 1 s:=λh=>by
  cases h with
  | coming=>exact tp Wq (ac (st 0 td) an)
  | first h=>exact tp Wq (ac (st 0 td) (ac (st 0 h.ok) an))
  | last h=>exact tp Wq (ac (st 0 td) (ac (st 0 h.ok) an))
 cases h with
 | paper _ hx hk hm=>exact tp Wq (ac (st _ td) (ac (it _) (ac (st _ hx.ok) (ac (st _ hk.ok) (ac (tp (by rw [PB];have:=hm.len;omega) λx hx=>by obtain⟨m,hm',rfl⟩:=QG.mp hx;exact st _ (hm.nm m hm').ok) an)))))
 | two hw _ hx hy=>exact tp Wq (ac (st _ (wl hw td)) (ac (it _) (ac (st _ hx.ok) (ac (st _ hy.ok) an))))
 | rule _ hx hp=>
  refine tp Wq (ac (st _ td) (ac (it _) (ac (st _ hx.ok) (ac ?_ an))));cases hp with
  | wfl hw hk=>exact tp Wq (ac (st _ (wl hw td)) (ac (st _ hk.ok) an))
  | kg hw hk hs _ _ hu=>exact tp Wq (ac (st _ (wl hw td)) (ac (st _ hk.ok) (ac (sn hs) (ac (it _) (ac (st _ (wl hu td)) an)))))
 | one hw _ hx=>exact tp Wq (ac (st _ (wl hw td)) (ac (it _) (ac (st _ hx.ok) an)))
 | hold _ hx hg hy=>exact tp Wq (ac (st _ td) (ac (it _) (ac (st _ hx.ok) (ac (tp Wq (ac (st _ (wl hg td)) (ac (st _ hy.ok) an))) (ac (bt _) an)))))
theorem zk(T:Txt K mg t):lP K t.u_NoText:=⟨T.z1,T.z2,T.z3,T.z4,T.z5,T.z6,T.z7,T.z8⟩
def Pf(C:Wu):Sp:=λvs H Q _=>∃(e dd:Wu)(n:Int),vs=[.ref e]/\H e=some (.ext (kN e (.ref C) (some dd)))/\H dd=some (.xd [("row",.int n)])/\∀H',aq H H'->Q (.bl true) H'
theorem Pg(T:Txt K mg t):aF P w K mg base CX0 1 t.a_u t.d_u ["_law_e"] (Pf t.u_NoText):=by
 refine T.F_u.F.ok MO (λvs H Q E h=>?_) (λcdv A outer s H vs Q E hr h=>?_)
 ·obtain⟨e,dd,n,rfl,_⟩:=h;rfl
 ·obtain⟨e,dd,n,rfl,he,hd,k⟩:=h;refine'⟨_,?A,?B⟩
  case A=>
   refine' kP ?C ?D
   case C=>
    refine' oY ?E ?F oX
    case E=>exact(PW.pt (wt (wu (qK (aR (EU (K':=K) rfl) rfl T.n_isinstance lE (aQ (pv 0) (aQ (km (v:= .ref t.u_NoText) rfl T.c_NoText rfl) bJ))))) (wt (wu (qK (aR (EU (K':=K) rfl) rfl T.n_isinstance lE (aQ (pv 0) (aQ (lY (v:= .ty "ValueError") rfl T.n_ValueError IX rfl) bJ))))) (BY (qK (aR IF rfl T.n_isinstance lE (aQ (EL (pv 0) rfl) (aQ (lY (v:= .ty "bool") rfl T.n_bool sS rfl) bJ))))))))
    case' F=>refine' kz ?G
    case G=>refine' kQ v9
   case' D=>refine' kP ?H ?I
   case H=>
    refine' oY ?J ?K oX
    case J=>exact(qK (aR (EV (K':=K) rfl) rfl T.n_isinstance lE (aQ (pv 0) (aQ (uz (aQ (km (v:= .ref t.u_GoneMaker) rfl T.c_GoneMaker rfl) (aQ (km (v:= .ref t.u_Held) rfl T.c_Held rfl) (aQ (km (v:= .ref t.u_MustStay) rfl T.c_MustStay rfl) (aQ (km (v:= .ref t.u_NoCall) rfl T.c_NoCall rfl) (aQ (km (v:= .ref t.u_NoDay) rfl T.c_NoDay rfl) bJ)))))) bJ))))
    case' K=>refine' kz ?L
    case L=>refine' kQ v9
   case' I=>refine' kz ?M
   case' M=>refine' kQ ?N
   case N=>exact(B0 (aR (EV (K':=K) rfl) rfl T.n_isinstance lE (aQ (pv 0) (aQ (uz (aQ (km (v:= .ref t.u_NoDeed) rfl T.c_NoDeed rfl) (aQ (km (v:= .ref t.u_NoLeave) rfl T.c_NoLeave rfl) (aQ (km (v:= .ref t.u_NoNumber) rfl T.c_NoNumber rfl) (aQ (km (v:= .ref t.u_NoPaper) rfl T.c_NoPaper rfl) (aQ (km (v:= .ref t.u_Twice) rfl T.c_Twice rfl) bJ)))))) bJ))))
  case B=>
  walk_at "d";have hi:∀u:Ws,aJ (.int n) u->VE u=true:=λu uu75=>by obtain⟨_,h⟩:=uu75;rw [h];rfl
  refine⟨_,_,he,zk T,.ref t.u_NoText,λu h=>h,true,by unfold SE;rw [Wn Wq],?_⟩;rw [Wm tx];refine⟨_,_,he,zk T,.type "ValueError",λu h=>h,true,T.kv,?_⟩;rw [Wm tx];unfold AM;walk_at "d";refine⟨_,_,he,_,hd,zk T,T.xhd,T.xrow,.int n,rfl,hi,"bool",rfl,_,.int n,false,rfl,?_⟩;rw [Wm tx];refine⟨by rw [WI];decide,λp hp=>?_⟩;have n1:e≠p:=λz=>by rw [<-z,he] at hp;cases hp
  have e1:=(ay (H:=H) (a:=p) (o:=HO.tup [V.ref t.u_GoneMaker,V.ref t.u_Held,V.ref t.u_MustStay,V.ref t.u_NoCall,V.ref t.u_NoDay]) n1).trans he;refine⟨_,_,e1,[t.u_GoneMaker,t.u_Held,t.u_MustStay,t.u_NoCall,t.u_NoDay],bu,zk T,false,T.ka,?_⟩;rw [Wm tx];refine⟨by rw [WI];decide,λp2 hp2=>?_⟩;have n2:e≠p2:=λz=>by rw [<-z,e1] at hp2;cases hp2
  have e2:=(ay (H:=ao H p (HO.tup [V.ref t.u_GoneMaker,V.ref t.u_Held,V.ref t.u_MustStay,V.ref t.u_NoCall,V.ref t.u_NoDay])) (a:=p2) (o:=HO.tup [V.ref t.u_NoDeed,V.ref t.u_NoLeave,V.ref t.u_NoNumber,V.ref t.u_NoPaper,V.ref t.u_Twice]) n2).trans e1;refine⟨_,_,e2,[t.u_NoDeed,t.u_NoLeave,t.u_NoNumber,t.u_NoPaper,t.u_Twice],bu,zk T,false,T.kb,?_⟩;exact k _ ((aq.new hp).trans (aq.new hp2))
def GJ:List Wr->(Wr->Prop)->Prop:=λds Q=>∃d x,ds=[d,x]/\(∀y,d≠ .dict [(.none,y)])/\((∃z,d= .str z/\qH z/\x=n5 z)\/(∀z,d≠ .str z)/\x= .tuple [.none,.int 0])/\Q (.bool true)
theorem GK:∀{rs:List Str}{acc l:List Wr}{n:Nat},(∀d∈acc,bo d)->run acc n rs= .ok l->(∀d∈l,bo d)/\l.length=acc.length+rs.length
 | [],acc,l,n,h,e=>by injection e with e;rw [<-e];exact⟨h,rfl⟩
 | r::rs,acc,l,n,h,e=>by
  rw [vZ] at e;cases ed:mM r with
  | none=>rw [ed] at e;cases e
  | some d=>
   rw [ed] at e;dsimp only at e;split at e
   ·cases e
   ·obtain⟨a,b⟩:=GK (acc:=acc++[d]) (λy hy=>by
     rcases Rq.mp hy with h1 | h1
     ·exact h y h1
     ·rw [Q9.mp h1];exact(OX ed).1) e
    exact⟨a,by rw [b,Ra,Pu];simp;omega⟩
theorem Ph(T:Txt K mg t):aF P w K mg base CX0 23 t.a_AC t.d_AC ["_law_thing","_law_due_here"] (bg K GJ):=by
 have G_h:=@OZ P w _ _ base _ T;have G_u:=@Pg P w _ _ base _ T;have G_t:=@GI P w _ _ base _ T 4;refine T.F_AC.F.ok tU (λvs H Q E h=>?_) (λcdv A outer s H vs Q E hr h=>?_)
 ·obtain⟨O,ds,Qd,_,r,⟨d,x,rfl,_⟩,_⟩:=h;exact r.length
 ·obtain⟨O,ds,Qd,tr,r,⟨d,x,rfl,hd,hx,q⟩,k⟩:=h;obtain⟨v,u,rfl,r1,r2⟩:∃v u,vs=[v,u]/\Dt K H O v d/\Dt K H O u x:=by
   cases r with
   | cons r1 r2=>cases r2 with
    | cons r2 r3=>cases r3;exact⟨_,_,rfl,r1,r2⟩
  refine'⟨_,?A,?B⟩
  case A=>
   refine' kP ?C ?D
   case C=>refine' mx (i:=2) tU.nd rfl Wo pV
   case' D=>refine' kP ?E ?F
   case E=>refine' mx (i:=3) tU.nd rfl Wo pV
   case' F=>refine' kP ?G ?H
   case G=>exact(Mh (C:=t.u_NoText) (i:=4) (j:=3) G_h (hr.mono tx) rfl T.F_h.m T.F_h.kp T.F_h.b (λE'=>(aQ (pv 0) bJ)) rfl rfl T.c_ArchiveError rfl T.xm_NoText.seen T.q_ArchiveError tx T.i_NoText_ArchiveError tU.nd rfl Wo Wo rfl rfl (λe=>(kz (mx (i:=2) tU.nd rfl Wo (pv 4)))))
   case' H=>refine' kP ?I ?J
   case I=>
    refine' oY ?K ?L oX
    case K=>exact(p4 qQ (p9 aI (pv 1) cG (λ_ _=>rfl)) pV (av _))
    case' L=>refine' kz ?M
    case' M=>refine' kQ ?N
    case N=>exact(sk (pZ qQ (pv 2) pV (av _)) (si (lN G_t (hr.mono tx) rfl T.F_t (aQ (pv 3) (aQ (p9 aI (pv 1) cG (λ_ _=>rfl)) bJ)))))
   case' J=>refine' kz ?O
   case' O=>refine' kQ ?P
   case P=>exact(sk (pZ Cf (pv 2) pV (av _)) (sk (lN G_u (hr.mono tx) rfl T.F_u (aQ (pv 2) bJ)) (si (pZ uq (EL (pv 2) rfl) (p9 aI (pv 1) cG (λ_ _=>rfl)) (av _)))))
  case B=>
  walk_at "d";refine⟨_,rfl,O,[d],λy=>∃l,(∀d∈l,bo d)/\l.length<=1000/\y= .tuple l/\x= .tuple [.tuple l,.none],λn=>x= .tuple [.none,.int n],tr,.cons r1 .nil,⟨d,rfl,hd,λz e=>?_,λh=>?_⟩,?_,?_⟩
  ·rcases hx with⟨z',e2,tz,e3⟩ | ⟨hn,_⟩
   ·rw [e] at e2;injection e2 with e2;subst e2
    refine⟨tz,λl hl=>?_,λn hn=>?_⟩
    ·have a:=GK (λd h=>by cases h) hl;have few:=tz.few;refine⟨l,a.1,by rw [a.2];simpa using few,rfl,?_⟩;rw [e3];unfold n5;rw [hl]
    ·rw [e3];unfold n5;rw [hn]
   ·exact absurd e (hn z)
  ·rcases hx with⟨z',e2,_⟩ | ⟨_,hn⟩
   ·exact absurd e2 (h z')
   ·exact hn
  ·rintro y v2 H2 ⟨l,hl,ll,rfl,rfl⟩ s2 r3;obtain⟨a,xs,rfl,hs,rr⟩:=(Sh.dt (r2.mono s2)).tup;walk_at "d";obtain⟨xa,rfl,ra⟩:∃xa,xs=[xa,.non]/\Dt K H2 O xa (.tuple l):=by
    cases rr with
    | cons ra rb=>cases rb with
     | cons rb rc=>cases rc;cases rb;exact⟨_,rfl,ra⟩
   refine uE hs rfl ?_;rw [Wn rfl];refine uE hs rfl ?_;refine⟨O,[.tuple l,.tuple l],λb=>b= .bool true,λl h z=>?_,.cons r3 (.cons ra .nil),⟨.tuple l,rfl,.inr ⟨l,rfl,ll,λd hd=>Pe (hl d hd)⟩,rfl⟩,?_⟩
   ·cases h1:H l with
    | none=>exact tr l h h1
    | some o=>have:=s2 l o h1;rw [z] at this;cases this
   ·rintro b v3 H3 rfl s3 r4;exact k _ _ _ q (s2.trans s3) r4
  ·rintro n rfl dd H2 s2 hdd;refine⟨rfl,λe he=>?_⟩;have s3:=s2.trans (aq.new (o:=HO.ext (kN e (.ref t.u_NoText) (some dd))) he);obtain⟨a,xs,rfl,hs,rr⟩:=(Sh.dt (r2.mono s3)).tup;walk_at "d";obtain rfl:xs=[.non,.int n]:=by
    cases rr with
    | cons ra rb=>cases rb with
     | cons rb rc=>cases rc;cases rb;cases ra;rfl
   have nd:dd≠e:=λz=>by rw [z,he] at hdd;cases hdd
   have ed:=(ay (H:=H2) (a:=e) (o:=HO.ext (kN e (.ref t.u_NoText) (some dd))) nd).trans hdd;have ee:=bu (H:=H2) (a:=e) (o:=HO.ext (kN e (.ref t.u_NoText) (some dd)));generalize ao H2 e _=H3 at*;refine uE hs rfl ?_;rw [Wm (λz=>by cases z),Wn (λz=>by cases z)];refine⟨e,dd,n,rfl,ee,ed,λH4 s4=>⟨true,rfl,?_⟩⟩;rw [Wn rfl];unfold AM;walk_at "d";have hi:∀u:Ws,aJ (.int n) u->VE u=true:=λu uu76=>by obtain⟨_,h⟩:=uu76;rw [h];rfl
   refine⟨_,_,s4 _ _ ee,_,s4 _ _ ed,zk T,T.xhd,T.xrow,.int n,rfl,hi,uE (v:= .int n) (hs.keep λo h=>s4 _ _ h) rfl ⟨rfl,?_⟩⟩;rw [decide_eq_true rfl];exact k _ _ _ q (s3.trans s4) (.bl _)
end
theorem GL:bO (az tP) ["_law_script","_law_thing","_law_deeds","_law_k","_law_pack_here","_law_deed","_law_rows","_law_turn","_law_some","_law_text"] ["_law_other","_law_deed"] 1 [5] ⟨Qf,[ (Pt ".0",Ym),(Pt "_law_other",Ym),(Pt "_law_due",Qm),(Pt "_law_deed",Rf)],false,false,[]⟩:= .of
theorem GN:bO (az tP) ["_law_script","_law_thing","_law_deeds","_law_k","_law_pack_here","_law_deed","_law_rows","_law_turn","_law_some","_law_text"] ["_law_deed"] 1 [] ⟨Qf,[ (Pt ".0",Ym),(Pt "_law_deed",Ym),(Pt "_law_written",Qm)],false,false,[]⟩:= .of
section
variable {P:WH} {w:WJ} {K:Pq} {mg:Str->Option Ws} {base:WG} {t:k8}
def F_AF:List Wr->(Wr->Prop)->Prop:=λds Q=>∃ns:List Int,ds=[mB (ns.map .int)]/\ns.length<=63/\(∀z∈ns,Rl z<=1048576)/\Q (.bool true)
def sp_law(K:Pq):Sp:=bg K F_AF
theorem start_law{K:Pq}{H:Hp}{a:Wu}{ns:List Int}(hl:ns.length<=63)(hb:∀z∈ns,Rl z<=1048576)(hS:bf K H a (ns.map V.int)):sp_law K [.ref a] H (λv _=>v= .bl true) λ_ _ _=>False:=
 ⟨λ_=>False,[mB (ns.map .int)],λd=>d= .bool true,λ_ z=>z.elim,.cons (.scr (by
  rcases hS with h | h
  ·exact .inl ⟨h,λz=>z⟩
  ·exact .inr (.inr h)) (au.ints ns)) .nil,⟨ns,rfl,hl,hb,rfl⟩,λd v H' e _ r=>by subst e;cases r;rfl⟩
theorem rY{d x:Wr}{Q:Wr->Prop}:GJ [d,x] Q↔(∀y,d≠ .dict [(.none,y)])/\((∃z,d= .str z/\qH z/\x=n5 z)\/(∀z,d≠ .str z)/\x= .tuple [.none,.int 0])/\Q (.bool true):=⟨λuu77=>by obtain⟨_,_,e,h⟩:=uu77;cases e;exact h,λh=>⟨_,_,rfl,h⟩⟩
theorem pS:Pp "\n"=⟨#[10]⟩:=td
theorem GO{w x w' x':Str}{n n':Int}{r r':List Wr}:dh (.tuple (.str w:: .int n:: .str x::r)) (.tuple (.str w':: .int n':: .str x'::r'))=((w==w' && (n==n' && (x==x' && Rc r r'))) || (x==x' && ((w==("paper":Str) && w'==("paper":Str)) || (w==("leave":Str) && w'==("leave":Str)) || (n==n' && ((kO w "rule" "end" && kO w' "rule" "end") || (kO w "hold" "lift" && kO w' "hold" "lift")))))):=by
 simp only [dh,PJ,Rc]
theorem dh.comm{d e:Wr}(hd:qF d)(he:qF e):dh d e=dh e d:=by
 obtain⟨w,n,x,r,rfl,_⟩:=hd;obtain⟨w',n',x',r',rfl,_⟩:=he;rw [GO,GO,uP r r',TX (a:=w),TX (a:=n),TX (a:=x)];generalize (kO w "rule" "end")=a1;generalize (kO w' "rule" "end")=a2;generalize (kO w "hold" "lift")=a3;generalize (kO w' "hold" "lift")=a4;generalize (w==("paper":Str))=a5;generalize (w'==("paper":Str))=a6;generalize (w==("leave":Str))=a7;generalize (w'==("leave":Str))=a8;rw [Uc a5,Uc a7,Uc a1,Uc a3]
def NQ(a b:Wr):Prop:=dh a b=false
theorem GP:∀{l a:List Wr}{n:Nat},(∀d∈l,bo d)->(a++l).Pairwise NQ->run a n (l.map bb)= .ok (a++l)
 | [],a,n,_,_=>by rw [PX];rfl
 | d::l,a,n,h,p=>by
  rw [Pw,vZ,BR (h d Wq)];dsimp only;have e:a++d::l=(a++[d])++l:=by rw [Uh];rfl
  have q:¬(a.any λo=>dh o d)=true:=λz=>by
   obtain⟨o,ho,hq⟩:=S9.mp z;have:=(UZ.mp p).2.2 o ho d Wq;unfold NQ at this;rw [this] at hq;cases hq
  rw [Wm q,e];exact GP (λy hy=>h y (by simp [hy])) (by rw [<-e];exact p)
theorem Pj{d:Wr}(h:bo d):10 ∉ (bb d).cps.toList:=λhc=>by
 obtain⟨_,hw⟩:=t6 h;have e:(bb d).cps.toList=lI 32 ((kE d).map λp=>p.cps.toList):=by unfold bb;rw [pN,qI]
 rw [e] at hc;rcases tZ hc with z | ⟨p,hp,z⟩
 ·cases z
 ·obtain⟨q,hq,rfl⟩:=QG.mp hp;have:=(hw q hq).2 10 z;omega
theorem Pk{d:Wr}(h:bo d):0 < (bb d).length:=by
 obtain⟨w,n,x,r,rfl,_⟩:=oS h;have:(bb (.tuple (.str w:: .int n:: .str x::r))).cps.toList=lI 32 ((w::kr n::x::lW r).map λp=>p.cps.toList):=by
  show(Txt.join (Pp " ") (w::kr n::x::lW r)).cps.toList=_;rw [pN,qI]
 have g:=rX 32 (ws:=w::kr n::x::lW r) Wq;rw [<-this,<-nB,ng,ng] at g;omega
theorem Pl{l:List Wr}(h:∀d∈l,bo d)(hl:l.length<=12)(p:l.Pairwise NQ):qH (Txt.join (Pp "\n") (l.map bb))/\n5 (Txt.join (Pp "\n") (l.map bb))= .tuple [.tuple l,.none]/\bL (l.map bb)<=2412:=by
 have ht:bL (l.map bb)<=2412:=by
  have a:=pR (ws:=l.map bb);have b:=vY (ws:=l.map bb) (m:=200) λz hz=>by
   obtain⟨d,hd,rfl⟩:=QG.mp hz;exact(t8 (h d hd)).2
  rw [PB] at a b;omega
 have rows:nZ (Txt.join (Pp "\n") (l.map bb))=l.map bb:=by
  unfold nZ;cases l with
  | nil=>rfl
  | cons d l=>
   have g:=rX 10 (ws:=(d::l).map bb) Wq;rw [<-qI,<-nB,<-pS,Pw,ng] at g;have:=Pk (h d Wq);rw [Pw,Wm Ce,pS];refine vS Wq λz hz=>?_;rw [<-Pw (f:=bb)] at hz;obtain⟨e,he,rfl⟩:=QG.mp hz;exact Pj (h e he)
 have sm:=uh (ws:=l.map bb) (m:=2412) (c:=10) tx (λz hz=>by
  obtain⟨d,hd,rfl⟩:=QG.mp hz;exact(t8 (h d hd)).1) Ce
 rw [<-pS] at sm;refine⟨⟨by have:=sm.1;omega,λr hr=>?_,by rw [rows,PB];omega⟩,?_,ht⟩
 ·rw [rows] at hr;obtain⟨d,hd,rfl⟩:=QG.mp hr;have:=t8 (h d hd);exact⟨Ce,this.1⟩
 ·unfold n5 qG;rw [rows,GP h (by rw [P2];exact p),P2]
theorem GQ{z:Str}(h:Sm 990 z):qH z:=by
 refine⟨by have:=h.1;omega,λr hr=>?_,?_⟩
 ·unfold nZ at hr;split at hr
  ·cases hr
  ·rw [pS] at hr;exact⟨by have:=uf hr;have:=h.1;omega,ug h.2 hr⟩
 ·unfold nZ;split
  ·exact Rt _
  ·have a:=S4 z (Pp "\n");have b:=h.1;omega
theorem ok_law(T:Txt K mg t):aF P w K mg base CX0 24 t.a_AF t.d_AF ["_law_script"] (sp_law K):=by
 have G_j:=@Ny P w _ _ base _ T;have G_k:=@qB P w _ _ base _ T;have G_l:=@NH P w _ _ base _ T;have G_r:=@OB P w _ _ base _ T;have G_s:=@OE P w _ _ base _ T;have G_b:=@OV P w _ _ base _ T;have G_AA:=@Gw P w _ _ base _ T;have G_AB:=@O5 P w _ _ base _ T;have G_AE:=@Pb P w _ _ base _ T;have G_AC:=@Ph P w _ _ base _ T;refine T.F_AF.F.okD mL (λds Q h=>?_) (λ_ _ _ _ H O ds Q E hr h=>?_)
 ·obtain⟨ns,rfl,_⟩:=h;rfl
 ·obtain⟨ns,rfl,hl,hb,q⟩:=h;refine'⟨_,?A,?B⟩
  case A=>
   refine' ai ?C ?D
   case C=>
    generalize hG2:S6 _ _=eg2;refine' Jl RN rfl ?E ?F bW ?G (hs:=by subst hG2;intro _;rfl)
    case E=>
     subst hG2;refine' fe ?H
     case' H=>refine' bw ?I
     case' I=>refine' aa ?J ?K
     case J=>exact((kh))
     case' K=>refine' aa ?L ?M
     case L=>exact((ae))
     case' M=>refine' aa ?N ?O
     case N=>exact((k7))
     case' O=>refine' aa ?P ?Q
     case P=>exact(((bD ah)))
     case' Q=>refine' aa ?R ?S
     case R=>exact(((fe (bw ah))))
     case' S=>refine' aa ?T ?U
     case T=>exact((Ke))
     case' U=>refine' aa ?V ?W
     case V=>exact(((fe (bw (aa aw ah)))))
     case' W=>refine' aa ?X ah
     case X=>exact(((bD (aa (bD (ny (ds:=[.str "end",.int 0,.str "a"]) (by rfl))) ah))))
    case F=>exact(bM (i:=1) mL.nd rfl Wo)
    case' G=>refine' ak ?Y
    case' Y=>refine' aH ?Z ?a aG
    case Z=>exact(ki (bV (ar G_AC hr T.F_AC (aa (dv 1) (aa (bD (aa kh (aa ae ah))) ah)))))
    case a=>refine' ak (ax k7)
   case' D=>refine' ai ?b ?c
   case b=>exact(nO (i:=2) mL.nd rfl Wo (bw ah))
   case' c=>refine' ai ?d ?e
   case d=>
    refine' De RN rfl rfl T.n_range (aa (PE.imp (aR (Hu rfl) rfl T.n_max Wj (aA ae (aA (PE.imp (aR (Cj rfl) rfl T.n_min US (aA (PE.imp (aR ke rfl T.n_len Qj (aA (dv 0) aB)) (aE Jp)) (aA ae aB))) (aE y6)) aB))) (aE y6)) ah) ?f bW ?g
    case f=>exact(bM (i:=3) mL.nd rfl Wo)
    case' g=>refine' ai ?h ?i
    case h=>exact(aW (i:=4) mL.nd rfl Wo (ar G_j hr T.F_j (aa (dv 0) (aa (dv 3) ah))))
    case' i=>refine' ai ?j ?k
    case j=>
     refine' aW (i:=5) mL.nd rfl Wo ?l (hs:=oM)
     case l=>exact(ar G_r hr T.F_r (aa (dv 4) (aa (ar G_l hr T.F_l (aa (ar G_j hr T.F_j (aa (dv 0) (aa (aS oa mR (dv 3) ae) ah))) (aa ae ah))) ah)))
    case' k=>refine' ak ?m
    case' m=>refine' aH ?n ?o aG
    case n=>exact(ki (bV (PE.imp (aR (x6 rfl) rfl T.n_any x8 (aA (fe (oC rfl GL (dw 2) bW kU tx (λ_ _ _ _=>(bM (i:=0) GL.nd rfl Wo)) (λ_ _ _ _=>kW) (λ_ _ _ _=>(ar G_AA hr T.F_AA (aa (dv 1) (aa (dv 0) ah)))))) aB)) (aE nu))))
    case' o=>refine' ak ?p
    case p=>exact(sW (i:=2) (pv 2) (dv 5))
   case' e=>refine' ai ?q ?r
   case q=>exact(JK (i:=6) mL.nd rfl Wo (JJ rfl GN (dw 2) bW kU tx (λ_ _ _ _=>(bM (i:=0) GN.nd rfl Wo)) (λ_ _ _ _=>kW) (λ_ _ _ _=>(ar G_s hr T.F_s (aa (dv 0) ah)))))
   case' r=>refine' ai ?s ?t
   case s=>
    refine' aH ?u ?v aG
    case u=>exact(PW.pt (kc (aD (mE hr.units) mF (ar G_b hr T.F_b (aa (bD ah) ah)) aw (av _)) (kF (aD (mE hr.units) mF (ar G_b hr T.F_b (aa (PE.imp (cf lZ rfl T.n_tuple k6 (qT (dw 2) aB)) (aE l8)) ah)) (mG aw (df (dv 6))) (av _)))))
    case v=>refine' ak (ax k7)
   case' t=>refine' ai ?w ?x
   case w=>
    refine' aH ?y ?z aG
    case y=>exact(PW.pt (kc (ki (bV (ar G_AC hr T.F_AC (aa (mG aw (df (dv 6))) (aa (bD (aa (PE.imp (cf lZ rfl T.n_tuple k6 (qT (dw 2) aB)) (aE l8)) (aa kh ah))) ah))))) (kF (ki (bV (ar G_AC hr T.F_AC (aa aw (aa (bD (aa (bD ah) (aa kh ah))) ah))))))))
    case z=>refine' ak (ax k7)
   case' x=>refine' ai ?A0 ?A1
   case A0=>exact(aW (i:=4) mL.nd rfl Wo (ar G_j hr T.F_j (aa (dv 0) (aa ae ah))))
   case' A1=>refine' ai ?A2 ?A3
   case A2=>
    refine' Av RN ?A4 ?A5
    case A4=>exact(aD pd bX (PE.imp (aR oq rfl T.n_len Qj (aA (mG aw (df (dv 6))) aB)) (aE oH)) ae (av _))
    case' A5=>refine' ak ?A6
    case A6=>exact(aW (i:=6) mL.nd rfl Wo (fe (kB (df (dv 6)) kj (bP (Kf ae)))))
   case' A3=>refine' ai ?A7 ?A8
   case A7=>
    refine' De RN rfl rfl T.n_range (aa ae ah) ?A9 bW ?AA
    case A9=>exact(bM (i:=7) mL.nd rfl Wo)
    case' AA=>refine' ai ?AB ?AC
    case AB=>exact(aW (i:=8) mL.nd rfl Wo (ar G_AE hr T.F_AE (aa (dv 4) (aa (dv 6) ah))))
    case' AC=>refine' ai ?AD ?AE
    case AD=>
     refine' aH ?AF ?AG aG
     case AF=>exact(aD (ck hr.units) cn (ar G_k hr T.F_k (aa (dv 4) (aa ae ah))) ae (av _))
     case' AG=>refine' ak ?AH
     case AH=>exact(aW (i:=8) mL.nd rfl Wo (ar G_AE hr T.F_AE (aa (dv 4) (aa (dv 8) ah))))
    case' AE=>refine' ai ?AI ?AJ
    case AI=>exact(aW (i:=9) mL.nd rfl Wo (mG aw (df (dv 8))))
    case' AJ=>refine' ak ?AK
    case' AK=>refine' aH ?AL ?AM aG
    case AL=>exact(ki (bV (ar G_AC hr T.F_AC (aa (dv 9) (aa (ar G_AB hr T.F_AB (aa (dv 9) ah)) ah)))))
    case AM=>refine' ak (ax k7)
   case A8=>refine' ak (ax k7)
  case B=>
  clear G_j G_k G_l G_r G_s G_AE G_AA G_AB G_b G_AC hr T;walk_at "a";refine⟨λ_ δ=>∃o:Option Sl,δ=[some (Sl.v (mB (ns.map .int))),o,none,none,none,none,none,none,none,none],⟨_,rfl⟩,?_,?_⟩
  ·rintro j x δ hx ⟨o,rfl⟩;have hx:=Rp hx;have hh:(∀y,x≠ .dict [(.none,y)])/\∀z,x≠ .str z:=by
    simp only [Pz,PV,or_false] at hx;rcases hx with rfl | rfl | rfl | rfl | rfl | rfl | rfl | rfl <;> exact⟨(λy e=>by cases e),λz e=>by cases e⟩
   simp only [rY,true_and,↓jg,↓jq,↓jr,↓jt,↓ju,↓jv,↓jw,↓jh,↓fE,↓iN,↓jW,↓jX,↓jY,↓jZ,↓j3,↓j5,↓iO,↓iP,↓iQ,↓iR,↓iS,↓iT,↓iU,↓iV,↓iW,↓iX,↓iY,↓iZ,↓i3,↓i4,↓i5,↓i6,↓i7,↓i8,↓i9,↓ja,↓jb,↓jd,↓je,↓jf,dE,dF,dH,dG,fV,fW,cT,dJ,dM,dR,dS,gc,di,dC,bE,dI,d3,d6,d7,gk,d8,cy,eQ,eO,eg,d9,dL,cU,dj,fR,cR,cL,bS,dm,dn,dz,dA,fT,dB,dD,cM,cN,fU,gO,gQ,gR,gS,gT,gU,gW,gX,gY,gZ,g6,g9,hG,hJ,hV,hW,hX,hZ,h7,ic,ie,ig,ij,ik,il,ip,iq,iu,iw,ix,iy,iz,iA,iB,iC,iD,iE,iF,iG,iH,iI,iJ,iK,gP,eF,gj,eR,cY,gp,gm,ei,eD,eG,eJ,eL,eM,eN,cW,eT,eV,eX,cj,gf,gh,gi,dU,dW,fX,fY,dX,fZ,dY,gb,fv,fy,fz,gL,gM,gK,gN,fk,fq,ft,fu,cz,fx,fw,fh,fj,fA,fB,fC,fD,cE,iL,iM,jj,ji,jk,jl,jm,jn,jo,fF,fG,jA,jy,jz,jx,jF,jB,jC,jD,jE,cZ,fH,jJ,jK,jG,jH,jI,jL,jM,jN,fJ,jO,jP,fK,jR,fL,jS,jT,jU,jQ,jV,fM,fN,fO,fP,j6,j7,j8,fQ,cq,gB,gC,gD,gE,gF,gG,gH,gI,gJ,ne_eq,bU,gx,gy,gz,gA,gr,gs,gu,cO,cV,dZ,dN,dQ,dP,dO,bT,bZ,bx,cu,cK,cw,Pw,Qc,Pu,P1,PH,P7,P2,PX,QD,QE,QO,QK,QP,PR,PM,Qh,P8,P9,P0,exists_eq_left',exists_eq_left,exists_and_left,exists_and_right,Qn,Qo,Sl.v.injEq,Sl.o.injEq,Sl.k.injEq,Qs,Qp,Qu,Qi,Qq,PK,and_true,true_and,QQ,Qv,exists_const,decide_eq_true_eq,QR,QS,QI,QJ,P5,decide_eq_false_iff_not,and_assoc,or_true,true_or,↓reduceIte,if_true,if_false,PZ,Qb,not_true_eq_false,not_false_eq_true,QL,QA,ite_true,ite_false,eq_self,exists_eq,reduceCtorEq,false_and,and_false,or_false,false_or,exists_false,Qw,Qz,cH,QH,QU,QC,QV,P4,QB,Qg,QN,aX,bA,b0,cX,eY,bj,cP,fg,beq_self_eq_true,eZ,ff,gn,aV,WI];exact⟨hh.1,.inr hh.2,_,rfl⟩
  ·rintro δ ⟨o,rfl⟩;simp only [rY,true_and,↓jg,↓jq,↓jr,↓jt,↓ju,↓jv,↓jw,↓jh,↓fE,↓iN,↓jW,↓jX,↓jY,↓jZ,↓j3,↓j5,↓iO,↓iP,↓iQ,↓iR,↓iS,↓iT,↓iU,↓iV,↓iW,↓iX,↓iY,↓iZ,↓i3,↓i4,↓i5,↓i6,↓i7,↓i8,↓i9,↓ja,↓jb,↓jd,↓je,↓jf,dE,dF,dH,dG,fV,fW,cT,dJ,dM,dR,dS,gc,di,dC,bE,dI,d3,d6,d7,gk,d8,cy,eQ,eO,eg,d9,dL,cU,dj,fR,cR,cL,bS,dm,dn,dz,dA,fT,dB,dD,cM,cN,fU,gO,gQ,gR,gS,gT,gU,gW,gX,gY,gZ,g6,g9,hG,hJ,hV,hW,hX,hZ,h7,ic,ie,ig,ij,ik,il,ip,iq,iu,iw,ix,iy,iz,iA,iB,iC,iD,iE,iF,iG,iH,iI,iJ,iK,gP,eF,gj,eR,cY,gp,gm,ei,eD,eG,eJ,eL,eM,eN,cW,eT,eV,eX,cj,gf,gh,gi,dU,dW,fX,fY,dX,fZ,dY,gb,fv,fy,fz,gL,gM,gK,gN,fk,fq,ft,fu,cz,fx,fw,fh,fj,fA,fB,fC,fD,cE,iL,iM,jj,ji,jk,jl,jm,jn,jo,fF,fG,jA,jy,jz,jx,jF,jB,jC,jD,jE,cZ,fH,jJ,jK,jG,jH,jI,jL,jM,jN,fJ,jO,jP,fK,jR,fL,jS,jT,jU,jQ,jV,fM,fN,fO,fP,j6,j7,j8,fQ,cq,gB,gC,gD,gE,gF,gG,gH,gI,gJ,ne_eq,bU,gx,gy,gz,gA,gr,gs,gu,cO,cV,dZ,dN,dQ,dP,dO,bT,bZ,bx,cu,cK,cw,Pw,Qc,Pu,P1,PH,P7,P2,PX,QD,QE,QO,QK,QP,PR,PM,Qh,P8,P9,P0,exists_eq_left',exists_eq_left,exists_and_left,exists_and_right,Qn,Qo,Sl.v.injEq,Sl.o.injEq,Sl.k.injEq,Qs,Qp,Qu,Qi,Qq,PK,and_true,true_and,QQ,Qv,exists_const,decide_eq_true_eq,QR,QS,QI,QJ,P5,decide_eq_false_iff_not,and_assoc,or_true,true_or,↓reduceIte,if_true,if_false,PZ,Qb,not_true_eq_false,not_false_eq_true,QL,QA,ite_true,ite_false,eq_self,exists_eq,reduceCtorEq,false_and,and_false,or_false,false_or,exists_false,Qw,Qz,cH,QH,QU,QC,QV,P4,QB,Qg,QN,aX,bA,b0,cX,eY,bj,cP,fg,beq_self_eq_true,eZ,ff,gn,aV,WI];refine⟨_,rfl,?_⟩;generalize hm:(if (if (12:Int) < ((QZ PN ns).length:Int) then 12 else((QZ PN ns).length:Int)) > 1 then if (12:Int) < ((QZ PN ns).length:Int) then 12 else((QZ PN ns).length:Int) else 1)=m
   have m16:m<=12:=by
    rw [<-hm]
    repeat' split
    all_goals omega
   have m1:1<=m:=by
    rw [<-hm]
    repeat' split
    all_goals omega
   clear hm;refine⟨Ce,Ce,?_⟩;refine⟨λi δ=>∃(acc:List Wr)(o3 o4 o5:Option Sl),(∀d∈acc,bo d)/\acc.length<=i/\acc.Pairwise NQ/\δ=[some (Sl.v (mB (ns.map .int))),o,some (Sl.o acc),o3,o4,o5,none,none,none,none],⟨[],_,_,_,(λd h=>by cases h),PL _,.nil,rfl⟩,?_,?_⟩
   ·rintro i z δ hz ⟨acc,o3,o4,o5,ha,hl,hp,rfl⟩;obtain⟨hi,rfl⟩:=z9 hz;clear hz;simp only [rY,true_and,↓jg,↓jq,↓jr,↓jt,↓ju,↓jv,↓jw,↓jh,↓fE,↓iN,↓jW,↓jX,↓jY,↓jZ,↓j3,↓j5,↓iO,↓iP,↓iQ,↓iR,↓iS,↓iT,↓iU,↓iV,↓iW,↓iX,↓iY,↓iZ,↓i3,↓i4,↓i5,↓i6,↓i7,↓i8,↓i9,↓ja,↓jb,↓jd,↓je,↓jf,dE,dF,dH,dG,fV,fW,cT,dJ,dM,dR,dS,gc,di,dC,bE,dI,d3,d6,d7,gk,d8,cy,eQ,eO,eg,d9,dL,cU,dj,fR,cR,cL,bS,dm,dn,dz,dA,fT,dB,dD,cM,cN,fU,gO,gQ,gR,gS,gT,gU,gW,gX,gY,gZ,g6,g9,hG,hJ,hV,hW,hX,hZ,h7,ic,ie,ig,ij,ik,il,ip,iq,iu,iw,ix,iy,iz,iA,iB,iC,iD,iE,iF,iG,iH,iI,iJ,iK,gP,eF,gj,eR,cY,gp,gm,ei,eD,eG,eJ,eL,eM,eN,cW,eT,eV,eX,cj,gf,gh,gi,dU,dW,fX,fY,dX,fZ,dY,gb,fv,fy,fz,gL,gM,gK,gN,fk,fq,ft,fu,cz,fx,fw,fh,fj,fA,fB,fC,fD,cE,iL,iM,jj,ji,jk,jl,jm,jn,jo,fF,fG,jA,jy,jz,jx,jF,jB,jC,jD,jE,cZ,fH,jJ,jK,jG,jH,jI,jL,jM,jN,fJ,jO,jP,fK,jR,fL,jS,jT,jU,jQ,jV,fM,fN,fO,fP,j6,j7,j8,fQ,cq,gB,gC,gD,gE,gF,gG,gH,gI,gJ,ne_eq,bU,gx,gy,gz,gA,gr,gs,gu,cO,cV,dZ,dN,dQ,dP,dO,bT,bZ,bx,cu,cK,cw,Pw,Qc,Pu,P1,PH,P7,P2,PX,QD,QE,QO,QK,QP,PR,PM,Qh,P8,P9,P0,exists_eq_left',exists_eq_left,exists_and_left,exists_and_right,Qn,Qo,Sl.v.injEq,Sl.o.injEq,Sl.k.injEq,Qs,Qp,Qu,Qi,Qq,PK,and_true,true_and,QQ,Qv,exists_const,decide_eq_true_eq,QR,QS,QI,QJ,P5,decide_eq_false_iff_not,and_assoc,or_true,true_or,↓reduceIte,if_true,if_false,PZ,Qb,not_true_eq_false,not_false_eq_true,QL,QA,ite_true,ite_false,eq_self,exists_eq,reduceCtorEq,false_and,and_false,or_false,false_or,exists_false,Qw,Qz,cH,QH,QU,QC,QV,P4,QB,Qg,QN,aX,bA,b0,cX,eY,bj,cP,fg,beq_self_eq_true,eZ,ff,gn,aV,WI];refine⟨ns,_,rfl,hb,Ce,Ce,ns,_,rfl,hb,Ce,Ce,rfl,λnms hN=>?_⟩
    obtain⟨a,b,c,d,e,rfl⟩:∃a b c d e,nms=[a,b,c,d,e]:=by
     match nms,hN.len with
     | [a,b,c,d,e],_=>exact⟨_,_,_,_,_,rfl⟩
    refine⟨a,b,c,d,e,rfl,hN.nm,hN.nd,λp hp'=>?_⟩;dsimp only;refine⟨Ce,mI (λo=>.bool (dh p o)) (λo ho R' hR=>?_) ⟨acc.map λo=>dh p o,by rw [Rb];rfl,?_⟩⟩
    ·walk_at "a";exact⟨p,o,rfl,pQ hp',pQ (ha o ho),hR⟩
    ·have ea:(acc.map λo=>dh p o).any id=acc.any λo=>dh p o:=by rw [Vm];rfl
     have hm:∀x∈acc++[p],bo x:=λx hx=>by
      rcases Rq.mp hx with h | h
      ·exact ha x h
      ·rw [Q9.mp h];exact hp'
     by_cases hq:(acc.any λo=>dh p o)=true
     ·rw [Wm (by rw [ea,hq];decide)];exact⟨acc,ha,Ce,hp,rfl,_,rfl⟩
     ·rw [Wn (by rw [ea];simpa using hq)];refine⟨Ce,acc++[p],hm,by rw [Ra];simp;omega,?_,rfl,_,rfl⟩;refine UZ.mpr ⟨hp,Wq,λx hx y hy=>?_⟩;rw [Q9.mp hy];unfold NQ;rw [dh.comm (pQ (ha x hx)) (pQ hp')];cases h:dh p x
      ·rfl
      ·exact absurd (S9.mpr ⟨x,hx,h⟩) hq
   ·rintro δ ⟨acc,o3,o4,o5,ha,hl,hp,rfl⟩;rw [Aa] at hl;simp only [rY,true_and,↓jg,↓jq,↓jr,↓jt,↓ju,↓jv,↓jw,↓jh,↓fE,↓iN,↓jW,↓jX,↓jY,↓jZ,↓j3,↓j5,↓iO,↓iP,↓iQ,↓iR,↓iS,↓iT,↓iU,↓iV,↓iW,↓iX,↓iY,↓iZ,↓i3,↓i4,↓i5,↓i6,↓i7,↓i8,↓i9,↓ja,↓jb,↓jd,↓je,↓jf,dE,dF,dH,dG,fV,fW,cT,dJ,dM,dR,dS,gc,di,dC,bE,dI,d3,d6,d7,gk,d8,cy,eQ,eO,eg,d9,dL,cU,dj,fR,cR,cL,bS,dm,dn,dz,dA,fT,dB,dD,cM,cN,fU,gO,gQ,gR,gS,gT,gU,gW,gX,gY,gZ,g6,g9,hG,hJ,hV,hW,hX,hZ,h7,ic,ie,ig,ij,ik,il,ip,iq,iu,iw,ix,iy,iz,iA,iB,iC,iD,iE,iF,iG,iH,iI,iJ,iK,gP,eF,gj,eR,cY,gp,gm,ei,eD,eG,eJ,eL,eM,eN,cW,eT,eV,eX,cj,gf,gh,gi,dU,dW,fX,fY,dX,fZ,dY,gb,fv,fy,fz,gL,gM,gK,gN,fk,fq,ft,fu,cz,fx,fw,fh,fj,fA,fB,fC,fD,cE,iL,iM,jj,ji,jk,jl,jm,jn,jo,fF,fG,jA,jy,jz,jx,jF,jB,jC,jD,jE,cZ,fH,jJ,jK,jG,jH,jI,jL,jM,jN,fJ,jO,jP,fK,jR,fL,jS,jT,jU,jQ,jV,fM,fN,fO,fP,j6,j7,j8,fQ,cq,gB,gC,gD,gE,gF,gG,gH,gI,gJ,ne_eq,bU,gx,gy,gz,gA,gr,gs,gu,cO,cV,dZ,dN,dQ,dP,dO,bT,bZ,bx,cu,cK,cw,Pw,Qc,Pu,P1,PH,P7,P2,PX,QD,QE,QO,QK,QP,PR,PM,Qh,P8,P9,P0,exists_eq_left',exists_eq_left,exists_and_left,exists_and_right,Qn,Qo,Sl.v.injEq,Sl.o.injEq,Sl.k.injEq,Qs,Qp,Qu,Qi,Qq,PK,and_true,true_and,QQ,Qv,exists_const,decide_eq_true_eq,QR,QS,QI,QJ,P5,decide_eq_false_iff_not,and_assoc,or_true,true_or,↓reduceIte,if_true,if_false,PZ,Qb,not_true_eq_false,not_false_eq_true,QL,QA,ite_true,ite_false,eq_self,exists_eq,reduceCtorEq,false_and,and_false,or_false,false_or,exists_false,Qw,Qz,cH,QH,QU,QC,QV,P4,QB,Qg,QN,aX,bA,b0,cX,eY,bj,cP,fg,beq_self_eq_true,eZ,ff,gn,aV,WI];have l12:acc.length<=12:=Ce
    obtain⟨tz,ed,tt⟩:=Pl ha l12 hp;have te:=pR (ws:=acc.map bb);have rs:∀z∈acc.map bb,Sm 250 z:=λz hz=>by
     obtain⟨d,hd,rfl⟩:=QG.mp hz;have:=t8 (ha d hd);exact⟨Ce,this.1⟩
    have ln:(Pp "\n").length=1:=td
    have sj:=uh (ws:=acc.map bb) (m:=2412) (c:=10) tx (λz hz=>(rs z hz).2) Ce;rw [<-pS] at sj;refine⟨Ce,mI (λd=>.str (bb d)) (λd hd R hR=>?_) ?_⟩
    ·walk_at "a";exact⟨d,rfl,ha d hd,hR⟩
    ·rw [show acc.map (λd=>Pr (bb d))=(acc.map bb).map .str by rw [Rb];rfl];have rl:(acc.map bb).length<=12:=by rw [PB];exact l12
     refine⟨[],rfl,(λd h=>by cases h),tx,td,td,?_⟩;rw [Wm td];refine⟨acc,rfl,ha,Ce,acc.map bb,rfl,by rw [ln];omega,mH.mpr sj.2,mH.mpr sj.2,?_⟩;rw [bj,Wm Wq];refine⟨acc.map bb,rfl,by rw [ln];omega,λ_=>trivial,tz,ed.symm,λ_=>trivial,GQ td,?_,ns,12,rfl,hb,tx,tx,?_⟩
     ·unfold n5 qG;rw [show nZ (Pp "")=[] by decide+kernel];rfl
     generalize acc.map bb=rows0 at rs rl;refine⟨λm δ=>∃(rows:List Str),(∀z∈rows,Sm 250 z)/\rows.length<=12/\m=rows.length/\δ=[some (Sl.v (mB (ns.map .int))),o,some (Sl.o acc),o3,some (Sl.v mi),o5,some (Sl.v (Q8 (rows.map .str))),none,none,none],⟨_,rows0,rs,rl,rfl,rfl⟩,?_⟩;rintro m δ ⟨rows,hr,hrl,rfl,rfl⟩;simp only [rY,true_and,↓jg,↓jq,↓jr,↓jt,↓ju,↓jv,↓jw,↓jh,↓fE,↓iN,↓jW,↓jX,↓jY,↓jZ,↓j3,↓j5,↓iO,↓iP,↓iQ,↓iR,↓iS,↓iT,↓iU,↓iV,↓iW,↓iX,↓iY,↓iZ,↓i3,↓i4,↓i5,↓i6,↓i7,↓i8,↓i9,↓ja,↓jb,↓jd,↓je,↓jf,dE,dF,dH,dG,fV,fW,cT,dJ,dM,dR,dS,gc,di,dC,bE,dI,d3,d6,d7,gk,d8,cy,eQ,eO,eg,d9,dL,cU,dj,fR,cR,cL,bS,dm,dn,dz,dA,fT,dB,dD,cM,cN,fU,gO,gQ,gR,gS,gT,gU,gW,gX,gY,gZ,g6,g9,hG,hJ,hV,hW,hX,hZ,h7,ic,ie,ig,ij,ik,il,ip,iq,iu,iw,ix,iy,iz,iA,iB,iC,iD,iE,iF,iG,iH,iI,iJ,iK,gP,eF,gj,eR,cY,gp,gm,ei,eD,eG,eJ,eL,eM,eN,cW,eT,eV,eX,cj,gf,gh,gi,dU,dW,fX,fY,dX,fZ,dY,gb,fv,fy,fz,gL,gM,gK,gN,fk,fq,ft,fu,cz,fx,fw,fh,fj,fA,fB,fC,fD,cE,iL,iM,jj,ji,jk,jl,jm,jn,jo,fF,fG,jA,jy,jz,jx,jF,jB,jC,jD,jE,cZ,fH,jJ,jK,jG,jH,jI,jL,jM,jN,fJ,jO,jP,fK,jR,fL,jS,jT,jU,jQ,jV,fM,fN,fO,fP,j6,j7,j8,fQ,cq,gB,gC,gD,gE,gF,gG,gH,gI,gJ,ne_eq,bU,gx,gy,gz,gA,gr,gs,gu,cO,cV,dZ,dN,dQ,dP,dO,bT,bZ,bx,cu,cK,cw,Pw,Qc,Pu,P1,PH,P7,P2,PX,QD,QE,QO,QK,QP,PR,PM,Qh,P8,P9,P0,exists_eq_left',exists_eq_left,exists_and_left,exists_and_right,Qn,Qo,Sl.v.injEq,Sl.o.injEq,Sl.k.injEq,Qs,Qp,Qu,Qi,Qq,PK,and_true,true_and,QQ,Qv,exists_const,decide_eq_true_eq,QR,QS,QI,QJ,P5,decide_eq_false_iff_not,and_assoc,or_true,true_or,↓reduceIte,if_true,if_false,PZ,Qb,not_true_eq_false,not_false_eq_true,QL,QA,ite_true,ite_false,eq_self,exists_eq,reduceCtorEq,false_and,and_false,or_false,false_or,exists_false,Qw,Qz,cH,QH,QU,QC,QV,P4,QB,Qg,QN,aX,bA,b0,cX,eY,bj,cP,fg,beq_self_eq_true,eZ,ff,gn,aV,WI]
     have te2:=pR (ws:=rows);have su:=vY (ws:=rows) (m:=250) λz hz=>(hr z hz).1;have sj2:=uh (ws:=rows) (m:=4000) (c:=10) tx (λz hz=>(hr z hz).2) Ce;rw [<-pS] at sj2;refine⟨rows,rfl,by rw [ln];omega,by have:=sj2.1;omega,?_⟩;split
     ·rename_i hgt;have rn:rows≠[]:=λz=>by rw [z] at hgt;exact absurd hgt td
      have:=Va.mpr rn;exact⟨_,by rw [U0];omega,rows.dropLast,λz hz=>hr z (List.dropLast_subset _ hz),by rw [U0];omega,rfl,List.map_dropLast.symm⟩
     ·rename_i hle;have t251:bL rows<=251:=by
       by_cases rn:rows=[]
       ·rw [rn];decide
       ·have g:=rX 10 rn;rw [<-qI,<-nB,<-pS] at g;omega
      refine⟨λ_ δ=>∃o7 o8 o9:Option Sl,δ=[some (Sl.v (mB (ns.map .int))),o,some (Sl.o acc),o3,some (Sl.v mi),o5,some (Sl.v (Q8 (rows.map .str))),o7,o8,o9],⟨_,_,_,rfl⟩,?_,?_⟩
      ·rintro j z δ hz ⟨o7,o8,o9,rfl⟩;obtain⟨hj,rfl⟩:=z9 hz;clear hz;simp only [rY,cq,true_and,↓jg,↓jq,↓jr,↓jt,↓ju,↓jv,↓jw,↓jh,↓fE,↓iN,↓jW,↓jX,↓jY,↓jZ,↓j3,↓j5,↓iO,↓iP,↓iQ,↓iR,↓iS,↓iT,↓iU,↓iV,↓iW,↓iX,↓iY,↓iZ,↓i3,↓i4,↓i5,↓i6,↓i7,↓i8,↓i9,↓ja,↓jb,↓jd,↓je,↓jf,dE,dF,dH,dG,fV,fW,cT,dJ,dM,dR,dS,gc,di,dC,bE,dI,d3,d6,d7,gk,d8,cy,eQ,eO,eg,d9,dL,cU,dj,fR,cR,cL,bS,dm,dn,dz,dA,fT,dB,dD,cM,cN,fU,gO,gQ,gR,gS,gT,gU,gW,gX,gY,gZ,g6,g9,hG,hJ,hV,hW,hX,hZ,h7,ic,ie,ig,ij,ik,il,ip,iq,iu,iw,ix,iy,iz,iA,iB,iC,iD,iE,iF,iG,iH,iI,iJ,iK,gP,eF,gj,eR,cY,gp,gm,ei,eD,eG,eJ,eL,eM,eN,cW,eT,eV,eX,cj,gf,gh,gi,dU,dW,fX,fY,dX,fZ,dY,gb,fv,fy,fz,gL,gM,gK,gN,fk,fq,ft,fu,cz,fx,fw,fh,fj,fA,fB,fC,fD,cE,iL,iM,jj,ji,jk,jl,jm,jn,jo,fF,fG,jA,jy,jz,jx,jF,jB,jC,jD,jE,cZ,fH,jJ,jK,jG,jH,jI,jL,jM,jN,fJ,jO,jP,fK,jR,fL,jS,jT,jU,jQ,jV,fM,fN,fO,fP,j6,j7,j8,fQ,cq,gB,gC,gD,gE,gF,gG,gH,gI,gJ,ne_eq,bU,gx,gy,gz,gA,gr,gs,gu,cO,cV,dZ,dN,dQ,dP,dO,bT,bZ,bx,cu,cK,cw,Pw,Qc,Pu,P1,PH,P7,P2,PX,QD,QE,QO,QK,QP,PR,PM,Qh,P8,P9,P0,exists_eq_left',exists_eq_left,exists_and_left,exists_and_right,Qn,Qo,Sl.v.injEq,Sl.o.injEq,Sl.k.injEq,Qs,Qp,Qu,Qi,Qq,PK,and_true,true_and,QQ,Qv,exists_const,decide_eq_true_eq,QR,QS,QI,QJ,P5,decide_eq_false_iff_not,and_assoc,or_true,true_or,↓reduceIte,if_true,if_false,PZ,Qb,not_true_eq_false,not_false_eq_true,QL,QA,ite_true,ite_false,eq_self,exists_eq,reduceCtorEq,false_and,and_false,or_false,false_or,exists_false,Qw,Qz,cH,QH,QU,QC,QV,P4,QB,Qg,QN,aX,bA,b0,cX,eY,bj,cP,fg,beq_self_eq_true,eZ,ff,gn,aV,WI];refine⟨rows,250,rfl,hr,tx,tx,Ce,λr1 h1 t1=>?_⟩
       dsimp only;intro g g0 g1;have fin:∀ys:List Str,(∀z∈ys,QM z=true)->bL ys<=900->(ys.map λx:Str=>x.length).sum+ys.length*(Pp "\n").length<=16777216/\Gx [Pr (Txt.join (Pp "\n") ys)] λd=>(∀(y:Wr),True)/\(qH (Txt.join (Pp "\n") ys)/\d=n5 (Txt.join (Pp "\n") ys)\/(∀(z:Str),¬Txt.join (Pp "\n") ys=z)/\d=Qx [RV,PN 0])/\∃x,some (Sl.v (Pr (Txt.join (Pp "\n") ys)))=x:=λys hy ht=>by
        have a:=pR (ws:=ys);have s:=uh (ws:=ys) (m:=990) (c:=10) tx hy Ce;rw [<-pS] at s;have tk:=GQ s;exact⟨by rw [ln];omega,_,rfl,tk,λ_=>trivial,.inl ⟨tk,rfl⟩,_,rfl⟩
       have a1:=pR (ws:=r1);split
       ·exact⟨r1,261,rfl,h1,tx,tx,Ce,λr2 h2 t2=>⟨r2,rfl,fin r2 (λz hz=>(h2 z hz).2) Ce⟩⟩
       ·exact⟨r1,rfl,fin r1 (λz hz=>(h1 z hz).2) Ce⟩
      ·rintro δ ⟨o7,o8,o9,rfl⟩;walk_at "a";exact q
end
end K60
namespace PySem.W.Fast
def tw163033111582397783:=0
def tw2766203834023924476:=0
def tw12364546244023545327:=0
def tw7359765094920356454:=0
def tw12837122686997265281:=0
def tw1809204983446817735:=0
def tw549837567827138106:=0
def tw3233010438465952534:=0
def tw3532166270212672011:=0
def tw16753334392963119087:=0
def tw17950621820422187783:=0
def tw8737672679112937268:=0
def tw4606247711783653045:=0
def tw1535657509523479891:=0
def tw9670725734895214892:=0
def tw2234825425878343720:=0
def tw16683647943036417202:=0
def tw8957300582248094051:=0
def tw9011268139068289640:=0
def tw15305051074304720222:=0
def tw327933194203904210:=0
def tw6756716645593589183:=0
def tw16700370702879798095:=0
def tw9428141368816505630:=0
def tw7064560626018123205:=0
def tw16528776749302408457:=0
def tw8659714672505587855:=0
def tw4272877330646311470:=0
def tw1260463316166702434:=0
def tw12157361781762917395:=0
def tw4891032981854706579:=0
def tw14861327847222304540:=0
def tw15303440818932995621:=0
def tw22696767994051775:=0
def tw12082344370451132647:=0
def tw15968666883756338934:=0
def tw5359044730172559112:=0
def tw3813392250006141019:=0
def tw10471989503932709513:=0
def tw13333189669789322405:=0
def tw16679403244261922023:=0
def tw3826448200380947590:=0
def tw12780918200741268269:=0
def tw4214258151872049622:=0
def tw1502682344028026687:=0
def tw4218348276235230142:=0
def tw2239601390827265344:=0
def tw5096521182366034361:=0
def tw10555100747308984568:=0
def tw2225850028310374608:=0
def tw4158639675977887726:=0
def tw13084021528867619823:=0
def tw13209209102836417350:=0
def tw569078690705190833:=0
def tw18176818227703131955:=0
def tw6481524502747144030:=0
def tw7861322007619518919:=0
def tw16460698344330363182:=0
def tw1227340606855826906:=0
def tw15382704963664997731:=0
def tw798342069488719647:=0
def tw925211586074014503:=0
def tw7367960141364560497:=0
def tw11426356313569558078:=0
def tw5498543836415481742:=0
def tw17285057710163271802:=0
def tw6337696610071698391:=0
def tw11609148291491006687:=0
def tw18112013822274861656:=0
def tw3114884598408982475:=0
def tw531954976782006660:=0
def tw10568615978719864264:=0
def tw13722355442715028359:=0
def tw11767369623925316179:=0
def tw9282269106676476261:=0
def tw6066598273433947912:=0
def tw10280883371470814500:=0
def tw10739194455637125051:=0
def tw8249663528716276690:=0
def tw13425150385266622552:=0
def tw7559908043733872977:=0
def tw7093183744496905784:=0
def tw12161263729073278693:=0
def tw1855282946233909267:=0
def tw789309900108308017:=0
def tw1879193484357143414:=0
def tw12011920026339014035:=0
def tw4889831169694019041:=0
def tw1155597670056880809:=0
def tw14147509373839094691:=0
def tw12418475435821565210:=0
def tw5685440827734982384:=0
def tw16610218344466450158:=0
def tw2077741897406781641:=0
def tw3110505682031391738:=0
def tw10237754025514877164:=0
def tw9451426755953926153:=0
def tw2947657655376365368:=0
def tw10288588469947492917:=0
def tw2415105568838548281:=0
def tw11916811305338460611:=0
def tw3478923126224011779:=0
def tw1152124871015084412:=0
def tw6890719159504617010:=0
def tw5142010743643156861:=0
def tw3269096231063612971:=0
def tw16389106911624797294:=0
def tw1363525245250161513:=0
def tw8204484314610901179:=0
def tw9514787657269649640:=0
def tw15422711153082952183:=0
def tw14821048113801003028:=0
def tw2130905995874957969:=0
def tw17322889385213620047:=0
def tw13441481869176142327:=0
def tw12346775640641294455:=0
def tw7460035650515933220:=0
def tw167663717647032180:=0
def tw5840705352397094775:=0
def tw14317457779910458210:=0
def tw17047590507760000200:=0
def tw1714715531569247493:=0
def tw12743574455706667198:=0
def tw8215186869853267105:=0
def tw13126147983614300894:=0
def tw3198850249738029432:=0
def tw15034680505588077091:=0
def tw7552052578531029113:=0
def tw8067852219157209488:=0
def tw18247816332207129235:=0
def tw4989834067500497746:=0
def tw5129573831864689484:=0
def tw968820994480620221:=0
def tw12212659852199024106:=0
def tw10222505467215021871:=0
def tw16354216997756280697:=0
def tw11940760275347823851:=0
def tw5702124440062500625:=0
def tw7875954874769121405:=0
def tw10984183811197595400:=0
def tw216810633685640613:=0
def tw17367769565883430494:=0
def tw10806072942148743434:=0
def tw5872512828905670063:=0
def tw3768418945657167260:=0
def tw16753733667613282722:=0
def tw1661080548886524445:=0
def tw18329829917365863345:=0
def tw4205054859089853169:=0
def tw11742293040465378928:=0
def tw16276421555177723406:=0
def tw14102931835688275717:=0
def tw9772477888583965851:=0
def tw7425969856437864579:=0
def tw17392345001551153341:=0
def tw12344462436351630099:=0
def tw11371845768420523826:=0
def tw12340415457690582757:=0
def tw9081756695753711686:=0
def tw5650763788539104536:=0
def tw13530354465403756263:=0
def tw17153412704770987159:=0
def tw5497048912030205548:=0
def tw16158231105096417147:=0
def tw11821890111583585267:=0
def tw6158299794497973289:=0
def tw1383551291429974671:=0
def tw8990300604406126897:=0
def tw15137308766857671183:=0
def tw11086341156872705912:=0
def tw17052811832429531892:=0
def tw7051629990463355505:=0
def tw3993233316907376940:=0
def tw936839253662571307:=0
def tw7022583172192844474:=0
def tw6541819237099581879:=0
def tw16915987138446336552:=0
def tw10807269679723322316:=0
def tw9616140442732575401:=0
def tw5884911721174048447:=0
def tw4051153308611830434:=0
def tw8948677599535322512:=0
def tw14978285010729046911:=0
def tw12855750681569877865:=0
def tw12066850316071848678:=0
def tw10963910441691026499:=0
def tw10767421634296839711:=0
def tw14486468677932323604:=0
def tw12635468982315389803:=0
def tw18286082459101055674:=0
def tw10323081877129392450:=0
def tw1939995622246373046:=0
def tw14740037152916980336:=0
def tw13689934828617325092:=0
def tw3544471077762406284:=0
def tw3291635283096555335:=0
def tw6829525676294923666:=0
def tw2492470550995938158:=0
def tw16739273316021274752:=0
def tw14296446349035839735:=0
def tw1098805528499170678:=0
def tw4774080346455965525:=0
def tw15021882199980274788:=0
def tw15396234272608401234:=0
def tw10579238500181058633:=0
def tw11142744471804598932:=0
def tw5552419436015169557:=0
def tw16994398961636067109:=0
def tw11717775108340524513:=0
def tw16812587010224612332:=0
def tw14924535876578107815:=0
def tw1716871554173248125:=0
def tw14945584295798866545:=0
def tw7113457842201602070:=0
def tw16450141868668711176:=0
def tw11528624949687722848:=0
def tw1901280532864917952:=0
def tw1221942203431531510:=0
def tw1855863215260037773:=0
def tw10118197578287633064:=0
def tw13960551281076537976:=0
def tw17940580836717015183:=0
def tw7833802251214608118:=0
def tw14293299022525982525:=0
def tw12435213484183843315:=0
def tw12794889934852794753:=0
def tw12308247117407924259:=0
def tw5909032109783252919:=0
def tw15372151308169783341:=0
def tw4061496084434518710:=0
def tw11633440301493030755:=0
def tw6966409767327029938:=0
def tw9894625215784117858:=0
def tw2951199073999498761:=0
def tw3519177168067352800:=0
def tw15874859624661645424:=0
def tw9891326352507505366:=0
def tw3793549524191131319:=0
def tw3785627915014227764:=0
def tw1719215116796396697:=0
def tw12275442069864001319:=0
def tw820521701040365093:=0
def tw6225883914064652380:=0
def tw4233605325234509781:=0
def tw10837755701635327580:=0
def tw15359093057229125273:=0
def tw9662746378808051315:=0
def tw8031573452213959606:=0
def tw3082707493506308953:=0
def tw16910714261717555099:=0
def tw10715152461152441905:=0
def tw9715944645366435548:=0
def tw3692222666618083745:=0
def tw17467937190700086525:=0
def tw7689187123073010137:=0
def tw2911988136852596337:=0
def tw12644743049771825052:=0
def tw3402304362312256569:=0
def tw1905149244538326045:=0
def tw10513440612526835310:=0
def tw1045371821068136232:=0
def tw9788961617271344938:=0
def tw3205946925744632059:=0
def tw11201745432699473494:=0
def tw10887477721598730331:=0
def tw4287885136182706250:=0
def tw6830130067083012369:=0
def tw5470518560700976657:=0
def tw4770087632006333693:=0
def tw4118501529859243612:=0
def tw16993591637677408954:=0
def tw13659112585054060730:=0
def tw6663763363170193091:=0
def tw17053916776256441670:=0
def tw11180613007466195226:=0
def tw14845058985606685192:=0
def tw6455718892001443967:=0
def tw42369526291349620:=0
def tw2742287041914074727:=0
def tw17332102024289804313:=0
def tw15383607366800781884:=0
def tw15221192034785551872:=0
def tw13611693435558327573:=0
def tw13002452918991380084:=0
def tw16310784975474127436:=0
def tw11078054025175562465:=0
def tw6601441571711077432:=0
def tw3431452578931193212:=0
def tw2591014487091250365:=0
def tw13121067930951043100:=0
def tw350797170280929667:=0
def tw15924087591674362664:=0
def tw14640729258508555321:=0
def tw3630381847661717467:=0
def tw7377592067749975427:=0
def tw14110706716489290996:=0
def tw8797924827717413539:=0
def tw12003835027017842880:=0
def tw7440997447153093977:=0
def tw4691390222503864939:=0
def tw18286878346474569966:=0
def tw16290993221924485384:=0
def tw10136748453574542663:=0
def tw12490258262743784397:=0
def tw8713369430166222813:=0
def tw16711644950260915488:=0
def tw9914161126390587919:=0
def tw13998238926663144307:=0
def tw7807962088611072977:=0
def tw1741972063041342568:=0
def tw3900832024630126093:=0
def tw13993992666465041029:=0
def tw5768932611427353455:=0
def tw8586759611131306608:=0
def tw3034563545862750378:=0
def tw7202432324897938559:=0
def tw9050793565399269292:=0
def tw9308542207055243024:=0
def tw6619260644719684324:=0
def tw14218284387925740745:=0
def tw3930268591109194681:=0
def tw14701391028297142453:=0
def tw18241115658957383387:=0
def tw16676608153276290741:=0
def tw4094247698942787532:=0
def tw17264297568772345013:=0
def tw15718239352570201902:=0
def tw5170419506319494503:=0
def tw2979369503854763793:=0
def tw18134286514585970258:=0
def tw9662939130002026948:=0
def tw9155845924033491193:=0
def tw6238483471588439748:=0
def tw5335420994507986695:=0
def tw5289903271237679412:=0
def tw3943526292164451262:=0
def tw17581109130722799825:=0
def tw16338733915503840913:=0
def tw15948391019428016143:=0
def tw15946678733234551660:=0
def tw13784012954750242710:=0
def tw11837800877689893330:=0
def tw14249243058780076638:=0
def tw2726138875802254268:=0
def tw5441333999288568906:=0
def tw16326658775281739421:=0
def tw10799219175618502273:=0
def tw1831030385794679217:=0
def tw1253117430867717233:=0
def tw16887250364025965358:=0
def tw8607110387280862943:=0
def tw4162218090844529010:=0
def tw9467683247638738538:=0
def tw7073199824057587964:=0
def tw14980765624123772038:=0
def tw2635154745758046236:=0
def tw15117194199421666889:=0
def tw13727024969958457074:=0
def tw9029748802833322156:=0
def tw7012337703852453505:=0
def tw440246788093215673:=0
def tw4055374730508648342:=0
def tw3592821746882142430:=0
def tw2803454991720396579:=0
def tw2357112125213610716:=0
def tw12427540909584837324:=0
def tw16944812699009777194:=0
def tw6581826863079397707:=0
def tw17874428971004973554:=0
def tw14621011198593207263:=0
def tw14462728387868979522:=0
def tw10165511945700449776:=0
def tw8399220939883992426:=0
def tw10118722336107409864:=0
def tw10956275723847545432:=0
def tw9533225495385074844:=0
def tw9468695073754702890:=0
def tw8740905072092800904:=0
def tw756251606333211988:=0
def tw7276476557849038002:=0
def tw6682725372098265185:=0
def tw17899491064544183232:=0
def tw17125326761321544678:=0
def tw16127214521042356866:=0
def tw12932496094295345578:=0
def tw12883135965348437394:=0
def tw12647495056099546773:=0
def tw18416486299340424394:=0
def tw779191626921868689:=0
def tw7677378083032944914:=0
def tw6150441941858001508:=0
def tw5672849891194962175:=0
def tw3619735054280907720:=0
def tw3061250107934429831:=0
def tw2577352409596193180:=0
def tw2070562186295711612:=0
def tw1950603088530398572:=0
def tw14033010700780731702:=0
def tw13556417910418740861:=0
def tw10924002639582844552:=0
def tw13431953398266475252:=0
def tw8916084827495292927:=0
def tw885112405998372985:=0
def tw7932402037321855751:=0
def tw506637218895111290:=0
def tw4710095822737544073:=0
def tw425683319505785864:=0
def tw2307646706624266604:=0
def tw16313909552620856398:=0
def tw14144612249648548875:=0
def tw13734971197767184359:=0
def tw11571320271196914649:=0
def tw6845460608002240152:=0
def tw5242468693200683314:=0
def tw400160861392584208:=0
def tw3892660353796542529:=0
def tw3883203295264299168:=0
def tw257160371569129345:=0
def tw16149011357073710918:=0
def tw15899341951068939209:=0
def tw14520374365528207710:=0
def tw11364004566571306286:=0
def tw10801400498471859586:=0
def tw10533698238776281969:=0
def tw9913097964674818714:=0
def tw9770925386814749131:=0
def tw9557739118912326896:=0
def tw9539359097375356801:=0
def tw9357307041818659839:=0
def tw9265782299404448432:=0
def tw9101760069484795277:=0
def tw8830922273511745143:=0
def tw8752390883510711789:=0
def tw8629988847890288551:=0
def tw8554690360819295175:=0
def tw847452614979827365:=0
def tw8422987026763401132:=0
def tw8189045679754933884:=0
def tw8096402857402759278:=0
def tw7776527625026681052:=0
def tw7764896264033224432:=0
def tw7620853086150854284:=0
def tw7288295559467724610:=0
def tw7241711404789652907:=0
def tw7183313337540246159:=0
def tw7158445342931380163:=0
def tw712629398628576141:=0
def tw6978752479837166836:=0
def tw6868805140364085403:=0
def tw6865346772044435890:=0
def tw6755077241374131024:=0
def tw6684958439194055273:=0
def tw6632081655583071394:=0
def tw6185704013702184704:=0
def tw6066172958232800905:=0
def tw6030629050510246352:=0
def tw6003867894214828390:=0
def tw5879391068812583268:=0
def tw5816813846362608605:=0
def tw5523653906540366741:=0
def tw5301922027856441966:=0
def tw52999179489417208:=0
def tw5218862655317414944:=0
def tw5043927562523765913:=0
def tw4909129166862071742:=0
def tw490852940383381394:=0
def tw4849928673074915544:=0
def tw4800521505703834119:=0
def tw4696125261319147517:=0
def tw4690858163476716398:=0
def tw4651320933304468638:=0
def tw4593509557595637563:=0
def tw4528300620320855156:=0
def tw4362239629571264401:=0
def tw4284155130359032931:=0
def tw4177138975885874583:=0
def tw4175350029346041771:=0
def tw4068158124284762910:=0
def tw3800008019393772975:=0
def tw3785748109317227169:=0
def tw377854949629163728:=0
def tw3705137372889219197:=0
def tw3506971200791396570:=0
def tw3339678536894754650:=0
def tw3330448045507338790:=0
def tw3264912815814900017:=0
def tw3098889976328827672:=0
def tw2603064504333133344:=0
def tw2488102028231108828:=0
def tw2402836817200126877:=0
def tw2379007857296090527:=0
def tw2298424825862963453:=0
def tw1968769642566832964:=0
def tw1909663705393918903:=0
def tw18225125004911656559:=0
def tw18076989650214661273:=0
def tw17993542120130054853:=0
def tw179469081755043661:=0
def tw17936943666494063991:=0
def tw17913915471265534281:=0
def tw17912804623675975092:=0
def tw17792842761405116386:=0
def tw17224255888216881455:=0
def tw1719448738340208525:=0
def tw1712632780904069148:=0
def tw16869336365191260894:=0
def tw16750198626810089809:=0
def tw16714319584489607336:=0
def tw16583647328762321981:=0
def tw16412976102126551419:=0
def tw16157980408615308412:=0
def tw15272821754826437372:=0
def tw1509941475402037818:=0
def tw15026426597354724749:=0
def tw14986470671249960283:=0
def tw14910045340598607510:=0
def tw14904478775699962182:=0
def tw14883734675867115895:=0
def tw14866903648348629451:=0
def tw14850607137268548419:=0
def tw14546526076078542264:=0
def tw14476313132548039797:=0
def tw14412301270227135542:=0
def tw14369835854462041876:=0
def tw14299959125176906743:=0
def tw1409270279410704188:=0
def tw13859913052373072246:=0
def tw13782780174064428394:=0
def tw13545085817511437725:=0
def tw13489823362296673299:=0
def tw13394759376506016990:=0
def tw13138606761042573414:=0
def tw13085577015142532433:=0
def tw13083424638347511360:=0
def tw12532724973213430732:=0
def tw12064678912599552311:=0
def tw11420757543631519649:=0
def tw11280367740563380599:=0
def tw11131375265444337581:=0
def tw10983667042573784399:=0
def tw10942505010777392258:=0
def tw10923401398956803554:=0
def tw10878403802983189791:=0
def tw10777798662291861616:=0
def tw10653985165480757605:=0
def tw10548466224609319382:=0
def tw10486739264885962146:=0
def tw10438292150855530817:=0
def tw10419090159493291215:=0
def tw10396140215311439427:=0
def tw10298981944582780376:=0
def tw10248212975114436121:=0
end PySem.W.Fast
open PySem PySem.W PyProof.Rows
local macro_rules | `(tactic| walk_at "f")=>`(tactic| (refine' L2.DfT.of ?a ?l ?c ?k;(case a=>k_is);(case l=>k_is);(case c=>k_is);(case k=>k_is)))
local macro_rules | `(tactic| walk_at "m")=>`(tactic| (refine' L2.DmT.of ?a ?i ?l ?c ?k;(case a=>k_is);(case i=>k_is);(case l=>k_is);(case c=>k_is);(case k=>k_is)))
set_option maxRecDepth 100000 in
theorem PySem.Challenge.cw_goneday_k60_sets_as_texts_holds : PySem.Challenge.rw_goneday_k60_sets_as_texts.Holds := by
 w_on;o_law;k_head;(case hw=>w_witness2)
 k_fill
 refine L2.walk_ofBK (l:=PySem.Challenge.rw_goneday_k60_sets_as_texts) (n:=63) (k:=24) (x:="_law_script") (CX:=L2.CX0) (sp:=K60.sp_law) rfl tx rfl ⟨rfl,tx,tx⟩ (λw h Y=>PySem.W.kIn_of Y) ?F ?S ?C
 case F=>
  intro w mg fa h KX G hmg;have T:∃t,K60.Txt (L2.KOf KX) mg t:=by
   dsimp only [L2.KOf];refine' K60.txt_mk KX G ?za ?zb ?zc ?zd ?ze ?zf ?zg ?zh ?zi ?zj ?zk ?zl ?zm ?zn ?zo ?zp ?zq ?zr ?zs ?zt ?zu ?zv ?zw ?zx ?zy ?zz ?zA ?zB ?zC ?zD ?zE ?zF ?zG ?zH ?zI ?zJ ?zK ?zL ?zM ?zN ?zO ?zP ?zQ ?zR ?zS ?zT ?zU ?zV ?zW ?zX ?zY ?zZ ?ya ?yb ?yc ?yd ?ye ?yf ?yg ?yh ?yi ?yj ?yk ?yl ?ym ?yn ?yo ?yp ?yq ?yr ?ys ?yt ?yu ?yv ?yw ?yx ?yy ?yz ?yA ?yB ?yC ?yD ?yE ?yF ?yG ?yH ?yI ?yJ ?yK ?yL ?yM ?yN ?yO ?yP ?yQ ?yR ?yS ?yT ?yU ?yV ?yW ?yX ?yY ?yZ ?xa ?xb ?xc ?xd ?xe ?xf ?xg ?xh ?xi ?xj ?xk ?xl ?xm ?xn ?xo ?xp ?xq ?xr ?xs ?xt ?xu ?xv ?xw ?xx ?xy ?xz ?xA ?xB ?xC ?xD ?xE ?xF ?xG ?xH ?xI ?xJ
   (case zb | zc | zd | ze | zf | zg | zh | zi | zj | zk | zl | zm | zn | zo | zp | zq | zr | zs | zt | zu | zv | zw | zx | zy | zz | zA | zB | zC | zD | zE | zF | zG | zH | zI | zJ | zK | zL | zM | zN | zO | zP | zQ | zR | zS | zT | zU | zV | zW | zX | zY | zZ | ya | yb | yc | yd | ye | yf=>walk_at "f")
   (case yg | yh=>k_is)
   (case yi=>exact⟨_,rfl⟩)
   (case yj | yk=>k_is)
   (case yl=>first | (repeat (first | exact .nil | refine .cons ⟨_,rfl⟩ ?_)))
   (case ym=>decide)
   (case yn=>k_is)
   (case yo=>exact⟨_,rfl⟩)
   (case yp=>k_is)
   (case yq=>exact⟨_,rfl⟩)
   (case yr=>k_is)
   (case ys=>exact⟨_,rfl⟩)
   (case yt=>k_is)
   (case yu=>exact⟨_,rfl⟩)
   (case yv=>k_is)
   (case yw=>exact⟨_,rfl⟩)
   (case yx | yy=>k_is)
   (case yz=>exact⟨_,rfl⟩)
   (case yA=>k_is)
   (case yB=>exact⟨_,rfl⟩)
   (case yC=>k_is)
   (case yD=>exact⟨_,rfl⟩)
   (case yE | yF=>k_is)
   (case yG=>first | (repeat (first | exact .nil | refine .cons ⟨_,rfl⟩ ?_)))
   (case yH=>decide)
   (case yI=>k_is)
   (case yJ=>exact⟨_,rfl⟩)
   (case yK=>k_is)
   (case yL=>exact⟨_,rfl⟩)
   (case yM | yN | yO | yP | yQ | yR | yS | yT | yU | yV=>k_is)
   (case yX | yY | yZ | xa | xb | xc | xd | xe | xf | xg | xh | xi | xj | xk | xl | xm | xn | xo | xp | xq=>first | k_is | k_exc | kit_is)
   (case xr | xs | xt | xu | xv | xw | xx | xy | xz | xA | xB | xC | xD | xE | xF | xG | xH | xI | xJ=>k_is)
   (case za=>walk_at "m")
   (case yW=>refine'⟨?a,?b,?c,?d⟩;(case a=>kernel_rfl);(case b=>k_is);(case c=>k_is);(case d=>k_is))
  obtain⟨t,T⟩:=T;have e0:=hmg.symm.trans T.F_AF.m;cases e0;exact⟨t.d_AF,T.bt_AF,λbase kb nb=>K60.ok_law T⟩
 case S=>exact λK H a ns hl hb hO hS=>K60.start_law hl hb hS
 case C=>exact λ_ _ _ _ z=>z
