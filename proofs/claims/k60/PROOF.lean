import PyProof.Rows.All
import Wide.All
import OpenK.AllK
import PySem.Challenge.RW_goneday_k60_sets_as_texts
open PySem.Str renaming ofString->Pr,ofString->Pw,join->SM,empty->TR
open PySem.W renaming Frag->Pt,nsIn->Qn,mg_none_of->Q3,mg_of->Q7,findIn->Rp,kia_one->RF,mroIn->RS,fnOf->RV,keepIn->Se,kitOne->SH,specialIn->SX,InstAt->S4,kitAny->S5,callWith_K->Ti,codeIn->Ts,cellsFrom_some->TF,excIn->TN,methodObj->Uh,hasDictIn->Ui,instObj->UB,takesIn->UC,lookIn->UJ,isFn->Vn,kitx_list->Vq,kitx_dict->Vr,plainGet->VB,handedIn->VH,OpenLaw->VM,readsIn->VR,findCls->VS,isClsIn->VT,WalkO->V2
open PySem.PyData renaming str->Pu,eqv->PN,int->PV,tuple->QF,strOk->QX,canLay0->QZ,canLayAll0->Q6,list->Ra,eqvAll->Rg,depthAll->Ry,none->R8,depth->Sk,bool->TK,dict->Wm
open List renaming length_cons->Px,map_cons->Py,length_map->PD,mem_cons->PH,replicate->PK,getElem?_cons_succ->PL,getElem?_cons_zero->PR,append_nil->PY,not_mem_nil->P1,length_nil->P5,nil_append->P6,set_cons_zero->P8,set_cons_succ->P9,cons_append->Qa,getElem?_nil->Qc,map_nil->Qf,size_toArray->Qt,getElem?_eq_some_iff->Qu,any_cons->QC,all_cons->QG,mem_map->QO,all_nil->QV,any_nil->QW,map->QY,getElem?_eq_getElem->Q1,mem_cons_of_mem->Q4,getElem?_set_ne->Q5,lookup_cons->Q8,map_map->Rb,mem_singleton->Rc,length_append->Rf,getElem?_set_self->Ri,all_eq_true->Rj,length_take->Rq,mem_of_getElem?->Rr,mem_append->Rt,mem_append_right->Ru,getElem?_map->Rx,range->Rz,mem_cons_self->RE,map_append->RG,take_of_length_le->RJ,drop_of_length_le->RK,mem_of_mem_take->RQ,getD_eq_getElem?_getD->RT,length_drop->RW,mem_of_mem_drop->R0,flatten_cons->R3,foldl_cons->R5,replicate_succ->R7,sum_cons->Sa,getElem_mem->Sb,mem_range->Sd,getElem?_eq_none->Sf,getElem?_append_left->Sg,take_append_drop->Sy,getElem?_append_right->Sz,drop_eq_getElem_cons->SD,all_map->SK,getElem?_replicate->SO,range_succ->SS,pairwise_cons->SU,eq_nil_of_length_eq_zero->SW,length_range->SY,any_eq_true->Tb,map_take->Tc,length->Td,nodup_cons->TV,filterMap_cons->TX,map_congr_left->TY,mem_filterMap->T2,contains_cons->T3,length_eraseIdx_of_lt->Ud,map_drop->Ue,take_sublist->Uj,append_assoc->Uk,length_eq_zero_iff->Uy,getElem?_set_self'->Uz,of_mem_zip->UD,forIn_cons->UE,sum_append->UG,length_replicate->UK,forIn_nil->UL,drop_zero->UP,mem_append_left->UX,pairwise_append->U2,length_dropLast->U3,take_nil->U7,getElem_of_mem->Va,length_pos_iff->Vd,filterMap_map->Vi,sum_nil->Vm,any_map->Vp,getElem?_inj->Vt,ext_getElem->VF,zipIdx_cons->VG,mem_filter->VI,foldl->VJ,zipIdx_nil->VQ,take_succ->VV,not_lt->Wi
open PySem renaming Spec->Pz,boot_len->Qq,Scope->Rl,mem_of_lookup->R6,intText?->Tu,Builtin->U4,frameOf->U6,call->VL,Within->V5,field->Wl
open PySem.Heap renaming get?_push_of_some->PB,lt_size->PX,get?_push_size->Qi,get?_update_self->Rm,get?_update_other->RI,size_push->RY,SameBut->Ss,FlyingW->SJ,get?_none_of_le->Ta,MadeExcOf->UT,get?_update_ne->Vc,get?_push_at->Vy,ExtBut->VA,IsTuple->Wa
open List.cons renaming injEq->PJ
open PySem.SeqAt renaming shaped->PM,canLay_of_shaped->Ro,depth_of_shaped->UO
open Nat renaming le_refl->PQ,reduceLeDiff->Qs,le_trans->Qz,reduceAdd->QD,reduceSub->QE,zero_add->QK,ne_of_lt->QN,add_zero->QP,sub_self->QQ,reduceLT->QR,lt_of_lt_of_le->Q0,zero_le->Rv,lt_succ_of_lt->RN,lt_irrefl->RR,lt_succ_self->So,ne_of_gt->Su,le_succ->SG,le_of_lt->S0,toDigits_of_base_le->Tx,le_of_succ_le->Ul,le_of_not_lt->Us,lt_or_ge->Vj,lt_trans->Vk,le_succ_of_le->Vz,min_le_right->VC,digitChar->V4,sub_zero->V9
open Bool renaming false_eq_true->PZ,not_eq_true'->P4,and_true->P7,true_eq_false->Qb,true_and->Qg,and_eq_true->Qh,false_ne_true->Qx,not_false->QA,or_false->QB,not_true->QL,false_or->QM,eq_iff_iff->RO,or_eq_true->Th,and_comm->Ug,or_true->Uu,eq_false_iff->Vs
open Option.some renaming injEq->P0,inj->Rk
open Array renaming length_toList->P2,toList_append->Sn,getElem?_eq_getElem->Tg,getElem?_eq_none->TL,size_append->Um,getElem?_toList->UR,toArray_toList->U1,append_empty->Vo,toList_push->Vv,ext'->VO,toList->V6
open PySem.PyData.tuple renaming injEq->Qe
open PySem.PyData.bool renaming injEq->Qj
open PySem.PyData.list renaming injEq->Qk
open Option renaming join_some->Ql,join_none->Qm,map_some->Qv,map_none->Qy,isSome_iff_exists->Sj,getD_none->VD,bind->Wj
open PySem.ScopeKind renaming function->Qo
open PySem.PyData.int renaming injEq->Qp
open PySem.PyData.str renaming injEq->Qr
open PySem.NameKind renaming globalImplicit->Qw,free->Rh,free->RC,cell->TM
open Int renaming reduceNeg->QH,reducePow->QI,reduceLT->QS,reduceLE->QU,eq_ofNat_of_zero_le->Q2,toNat_natCast->Q9,toNat_of_nonneg->SN,fdiv_eq_ediv_of_nonneg->T9,fmod_eq_emod_of_nonneg->Ua,lt_trichotomy->Vx,ediv_one->V7,zero_add->Wc
open PySem.Value renaming ref->QJ,none->RX,builtin->R9,bool->Sr,str->S7,type->S9,int->TQ,isStrOf_shape->U8,isStrOf->VZ,float->Wf
open PySem.Builtin.Int renaming intBits->Rn
open False renaming elim->RA
open PySem.Heap.SameBut renaming update->RB
open PySem.F renaming excBase_ValueError->RD,plainAttrs_str->SV,args_tuple_add_2->Tj,entry_tuple_add->Tw,slot_tuple_add->TH,plain_extend_loop->Uq,plain_list_iadd->UA,slot_str_join->UM,type_str_join->UN,plain_set_new->UQ,slot_set_iter->US
open PySem.Obj renaming data_mapFields->RH,isFreed_of_fields->Sx,mapSeq->Tt,cls_mapFields->Tz,putSet->Up,mapFields->U5
open PySem.Builtin.SmallTypes renaming nextOf->RL,ownedTupleIsFree->RZ,ownedTupleHandOut->Tq
open True renaming intro->RM
open PySem.PassesOwn renaming never->RP
open PySem.StrLaws renaming glued_eq_join->RU,found_one->TC,join_split->T7
open PySem.Builtin.Str renaming occurrences->R1,strSliceIndices->T4,partsBetween->Uv,strKind->Vb
open PyProof.Rows renaming callWith_type1->R4,slot_tuple_getitem->Si,split_le->S6,boot_sum->TU,boot_sorted->Ux,boot_min->UW,boot_max->Wn
open PySem.SetTable renaming grown->Sq,below->Tv,sizeAbove->Vl,layClean->Vu,relaid->VP,laid->V3
open PyProof.Rows.F renaming plain_set_update_loop->Sv,entry_set_update_loop->Tp
open PySem.Sem renaming wp->Sw
open PySem.Builtin.Slice renaming slicePlaces->SA,sliceAdjust->Te,sliceApplied->Ub
open PySem.Around renaming under_plainId->SE,under->Vg
open PySem.Builtin.Tuple renaming tupleExact->SI,tupleItemsOf->Uc
open PySem.W.WData renaming int->SQ,weightAll->Tf,list->Uo,layableAll->VE,weight->V8
open ForInStep renaming yield->SR
open PySem.Expr renaming List->S8,BinOp->VU,Subscript->VX,Call->VY
open PySem.Builtin.List renaming listTooLong->Tn,listLengthHint->T5,listExtendWith->T6,listSameRef->Uw,listFitsIndex->V1
open PySem.Code renaming quiet_builtin->To,isFrame->Vh,frames->Wh
open Sum renaming inr->Tr,inl->Ur
open Or renaming inr->TJ,inl->Ut
open PySem.EntryCells renaming newEntry->TZ
open BEq renaming comm->T1
open PySem.Calls renaming Name_function_global->T8,callWith_builtin->UI,evalArgs_plain->UY,call_len_list->U9
open PyProof renaming noPylong_small->UH
open PySem.W.KIN renaming num_reads->UU
open PySem.SeqAt.RcAt renaming tuple_str->UZ
open PySem.SeqAt.EqAt renaming str_tuple->U0,str_int->Ve
open PyProof.Rows.IsTup renaming new->Vf
open PySem.SetTable.below renaming go->Vw
open PySem.Walks renaming list->VN
open PySem.Bind renaming checkArgs->VW
open PySem.Paired renaming length->V0
open Nat.succ renaming inj->Wb
open List.Pairwise renaming imp_of_mem->We
open PySem.CmpOp renaming NotIn->Wg
open PySem.Shared renaming heap->Wk
open PySem.Flow renaming next->Wo
open PySem.Heap.IsSliceOf renaming new->Wq
open PySem.Heap.DictOf renaming new->Wr
open PySem renaming PyData->Ww,Value->Wx,wpAny_bind->Wy,Addr->WA,Shared->WB,wpAny_pure->WC,wpAny->WD,model->WE,sizeLine->WG,starEach->WH,Expr->WI,FuncData->WJ,mainGlobals->WK,Heap->WL,Program->WM,sizeLine_eq->WN,World->WO,Stmt->WQ,Around->WR,compareOp->WS,foldedSetIterable->WT,bootBuiltins->WU,wpAny_newObj_type->WV,wpAny_mono->WW,wpAny_callSpecial?_slot->WX,wpAny_truthy_bool->WY,backTo->WZ,wpAny_call_entry->W0,wpAny_loadPart_at->W2,wpAny_holding->W3,wpAny_field->W4,Scope->W5,swapsWith->W7,cellsFrom->W8,NameKind->W9,excClassObj->Xa,behindInMarks->Xb,binaryOp->Xc,wpAny_seqItems->Xd,rawInt->Xe,wpAny_loadPart'->Xf,codeAny_call_builtin->Xg,IsPair->Xh,wpAny_setField->Xi,codeAny_mono->Xj,wpAny_Call_Name_kw->Xk,wpAny_passesOwn->Xl,codeAny_builtin->Xm,attributeBase->Xn,pyNext->Xo,wpAny_setState_of->Xp,assignEach->Xq,typeIs_str->Xr,call_meets->Xs,codeAny->Xt,wpAny_askSetting->Xv,ExcBaseFacts->Xw,wpAny_isSubtype_exc->Xx,wpAny_setEntries_of->Xy,wpAny_standAt->Xz,Keyword->XA,wpAny_execs_nil->XB,scanBound->XC,wpAny_setField_rec->XD,firstArgMember->XE,wpAny_rule->XF,checkBuiltinCall->XG,wpAny_attempt->XI,sliceBounds->XJ,keywordEach->XM,IsZip->XN,PassesOwn->XO,SetTable->XQ,Model->XS,wpAny_call->XT,setNext->XU,strIterType->XW,wpAny_of_eq->XX,plainId_quiet->XY,GenState->XZ,wpAny_execs_cons->X0,relayAll->X1,wpAny_isInstance->X2,holding->X4,getItem->X5,noteFrame->X6,letOwnedTupleGo->X8,wpAny_typeOf->X9,wpAny_ite_split->Ya,backToKw->Yb,wpAny_fieldsOf->Yc,ZipApart->Yd,wpAny_pyIter_tuple->Yg,Result->Yh,DictEntry->Yi,pickOrder->Yj,setFlight->Yk,swapsWithSole->Yl,swappedStores->Ym,wpAny_onRaise->Yn,wpAny_pyIter_list->Yo,noFill_tuple_add->Yp,wpAny_comprehension_free->Yq
open PyProof.Rows renaming StrsAre->W6,envOfC->XH,AllBare->XR,assignInOrder_cons->Yf
open PySem.W renaming looks_findIn->Xu,kia_one->X3,findIn->X7,hideAll_get->Ye
theorem td{p:Prop}[Decidable p](h:decide p=true:=by decide+kernel):p:=of_decide_eq_true h
theorem tx{p:Prop}(h:p:=by decide):p:=h
theorem Ce{p:Prop}(h:p:=by omega):p:=h
theorem Wv{p:Prop}(h:p:=by simp):p:=h
theorem Ws{c:Prop}{h:Decidable c}(k:¬c){α:Sort u}{t e:α}:ite c t e=e:=if_neg k
theorem Wt{c:Prop}{h:Decidable c}(k:c){α:Sort u}{t e:α}:ite c t e=t:=if_pos k
abbrev Yr:=PySem.NameKind.local
set_option compiler.extract_closed false
def rzS:="↓jd ↓jm ↓jn ↓jo ↓jq ↓jr ↓jt ↓je ↓fB ↓iK ↓jT ↓jU ↓jV ↓jW ↓jX ↓jY ↓iL ↓iM ↓iN ↓iO ↓iP ↓iQ ↓iR ↓iS ↓iT ↓iU ↓iV ↓iW ↓iX ↓iY ↓iZ ↓i3 ↓i4 ↓i5 ↓i6 ↓i7 ↓i8 ↓i9 ↓ja ↓jb cf cN cg dD fR fS cO dE dF dM dN fX dh dC bB dI dU dW dX gf dY cn eJ eG d3 dZ dL cP di fO cG cy bI dj dm dn dz fP dA dB cH cz fQ gK gM gN gO gP gQ gR gS gT gU gW gX gY gZ g6 g9 hJ hV hW hX hZ h7 ic ie ig ij ik il ip iq iu iw ix iy iz iA iB iC iD iE iF iG iH gL d8 gc eL cV gj gh d6 d7 d9 eg ei eD eF cT eM eN eO bS fY fZ gb dO dP fT fU dQ fV dR fW fj fv fw gH gI gG gJ eZ ff fg fh cq fu fk eX eY fx fy fz fA cu iI iJ jg jf jh ji jj jk jl fC fD jx jv jw ju jC jy jz jA jB cX fE jG jH jD jE jF jI jJ jK fF jL jM fG jO fH jP jQ jR jN jS fJ fK fL fM jZ j3 j5 fN bY gx gy gz gA gB gC gD gE gF ne_eq bK gp gr gs gu gk gm gn cI cR dS cQ dJ dH dG bJ bU bp bZ cC b0 Py Qf Px P5 PK Qa P6 PY QD QE QP QK QQ PR PL Qc P8 P9 P0 exists_eq_left' exists_eq_left exists_and_left exists_and_right Ql Qm Sl.v.injEq Sl.o.injEq Sl.k.injEq Qp Qj Qr Qe Qk PJ and_true true_and QR Qs exists_const decide_eq_true_eq QS QU QH QI P4 decide_eq_false_iff_not and_assoc or_true true_or ↓reduceIte if_true if_false PZ Qb not_true_eq_false not_false_eq_true QL QA ite_true ite_false eq_self exists_eq reduceCtorEq false_and and_false or_false false_or exists_false Qv Qy cx QG QV QC QW P7 QB Qg QM aV bw bX cU eQ aT cL eV beq_self_eq_true eR eT gi aS sizeLine_eq"
def rzT (n : String) : Lean.MacroM (Lean.TSyntax `tactic) := do
 let ts : Array (Lean.TSyntax `Lean.Parser.Tactic.simpLemma) <- ((n.splitOn " ").toArray).mapM λs =>do
  if s.startsWith "↓" then
   let i := Lean.mkIdent (s.drop 1).toString.toName
   `(Lean.Parser.Tactic.simpLemma| ↓ $i:ident)
  else
   let i := Lean.mkIdent s.toName
   `(Lean.Parser.Tactic.simpLemma| $i:ident)
 `(tactic| simp only [$ts,*])
local macro_rules|`(command|def $i:declId $s:optDeclSig $v:declVal)=>`(command|noncomputable def $i:declId $s:optDeclSig $v:declVal)|`(command|abbrev $i:declId $s:optDeclSig $v:declVal)=>`(command|noncomputable abbrev $i:declId $s:optDeclSig $v:declVal)
noncomputable section
set_option Elab.async false
set_option linter.all false
set_option maxRecDepth 100000
set_option maxHeartbeats 0
set_option genSizeOf false
namespace L2
open PySem PySem.Spec PyProof.Rows
abbrev br:=Sum Int Str
def BW:br->Wx->Bool
 | .inl k,v=>Value.isInt k v
 | .inr x,v=>VZ x v
def GU(w:WO):br->Int
 | .inl k=>hashInt k
 | .inr x=>hashStr w x
theorem n9:∀{k:br}{v:Wx},BW k v=true->(∃i t,k=Ur i/\v=TQ i t)\/(∃x t,k=Tr x/\v=S7 x t)
 | .inl i,v,h=>by
  obtain⟨t,e⟩:=Value.isInt_shape (k:=i) (v:=v) h;exact .inl ⟨i,t,rfl,e⟩
 | .inr x,v,h=>by
  obtain⟨t,e⟩:=U8 (x:=x) (v:=v) h;exact .inr ⟨x,t,rfl,e⟩
theorem GV(a b:Int):decide ((Ur a:br)=Ur b)=(a==b):=by
 by_cases e:a=b
 ·subst e;simp
 ·have h:¬(Ur a:br)=Ur b:=λq=>e (Ur.inj q);rw [decide_eq_false h];exact(beq_eq_false_iff_ne.mpr e).symm
theorem GW(a b:Str):decide ((Tr a:br)=Tr b)=decide (a=b):=by
 by_cases e:a=b
 ·subst e;simp
 ·have h:¬(Tr a:br)=Tr b:=λq=>e (Tr.inj q);rw [decide_eq_false h,decide_eq_false e]
theorem GX(a:Int)(b:Str):decide ((Ur a:br)=Tr b)=false:=decide_eq_false (λq=>nomatch q)
theorem GY(a:Str)(b:Int):decide ((Tr a:br)=Ur b)=false:=decide_eq_false (λq=>nomatch q)
def wk(prog:WM)(w:WO):PySem.KeyKind prog w br where
 is:=BW
 hash:=GU w
 inj:=λv a b ha hb=>by
  rcases n9 ha with⟨i,t,rfl,rfl⟩ | ⟨x,t,rfl,rfl⟩
  ·rcases n9 hb with⟨j,u,rfl,e⟩ | ⟨y,u,rfl,e⟩
   ·injection e with e1 _;rw [e1]
   ·exact nomatch e
  ·rcases n9 hb with⟨j,u,rfl,e⟩ | ⟨y,u,rfl,e⟩
   ·exact nomatch e
   ·injection e with e1 _;rw [e1]
 byValue:=λk v h=>by
  rcases n9 h with⟨i,t,rfl,rfl⟩ | ⟨x,t,rfl,rfl⟩ <;> rfl
 pyHash:=λhv h=>by
  rcases n9 hv with⟨i,t,rfl,rfl⟩ | ⟨x,t,rfl,rfl⟩
  ·exact wpAny_pyHash_int h
  ·exact wpAny_pyHash_str h
 eqBool:=λhu hv h=>by
  rcases n9 hu with⟨i,t,rfl,rfl⟩ | ⟨x,t,rfl,rfl⟩
  ·rcases n9 hv with⟨j,u,rfl,rfl⟩ | ⟨y,u,rfl,rfl⟩
   ·rw [GV] at h;exact wpAny_eqBool_int h
   ·rw [GX] at h;exact SeqAt.EqAt.int_str i t y u _ _ _ _ h
  ·rcases n9 hv with⟨j,u,rfl,rfl⟩ | ⟨y,u,rfl,rfl⟩
   ·rw [GY] at h;exact Ve x t j u _ _ _ _ h
   ·rw [GW] at h;exact wpAny_eqBool_str h
 «strs»:=λk x t v h=>by
  rcases n9 h with⟨i,u,rfl,e⟩ | ⟨y,u,rfl,e⟩
  ·exact nomatch e
  ·injection e with e1 _
   subst e1;cases v <;> rfl
inductive V where
 | non | bl (b:Bool) | int (i:Int) | str (x:Str) | byt (b:Array UInt8) | flt (b:UInt64) | ref (a:WA) | ty (n:String)
 deriving DecidableEq
def aJ:V->Wx->Prop
 | .non,u=>u=RX
 | .bl b,u=>u=Sr b
 | .int i,u=>∃t,u=TQ i t
 | .str x,u=>∃t,u=S7 x t
 | .byt b,u=>∃t,u=Value.bytes b t
 | .flt b,u=>∃t,u=Wf b t
 | .ref a,u=>u=QJ a
 | .ty n,u=>u=S9 n
abbrev aM:List V->List Wx->Prop:=Paired aJ
theorem aM.length{xs:List V}{us:List Wx}(r:aM xs us):xs.length=us.length:=V0 r
theorem aM.get:∀{xs:List V}{us:List Wx}{i:Nat}{x:V},aM xs us->xs[i]?=some x->∃u,us[i]?=some u/\aJ x u
 | _,_,_,_,.nil,e=>by simp at e
 | _,_,0,_,.cons r _,e=>by simp at e;subst e;exact⟨_,rfl,r⟩
 | _,_,i+1,x,.cons _ t,e=>by
  obtain⟨u,h1,h2⟩:=aM.get (i:=i) (x:=x) t (by simpa using e);exact⟨u,by simpa using h1,h2⟩
theorem aM.set{x:V}{u:Wx}(r:aJ x u):∀{xs:List V}{us:List Wx}(i:Nat),aM xs us->aM (xs.set i x) (us.set i u)
 | _,_,_,.nil=>.nil
 | _,_,0,.cons _ t=>.cons r t
 | _,_,i+1,.cons q t=>.cons q (aM.set r i t)
theorem aM.append:∀{xs ys:List V}{us ws:List Wx},aM xs us->aM ys ws->aM (xs++ys) (us++ws)
 | _,_,_,_,.nil,s=>s
 | _,_,_,_,.cons r t,s=>.cons r (aM.append t s)
theorem aM.take:∀{xs:List V}{us:List Wx}(n:Nat),aM xs us->aM (xs.take n) (us.take n)
 | _,_,0,_=>.nil
 | _,_,_+1,.nil=>.nil
 | _,_,n+1,.cons r t=>.cons r (aM.take n t)
theorem aM.drop:∀{xs:List V}{us:List Wx}(n:Nat),aM xs us->aM (xs.drop n) (us.drop n)
 | _,_,0,r=>r
 | _,_,_+1,.nil=>.nil
 | _,_,n+1,.cons _ t=>aM.drop n t
def qL:Option V->Option Wx->Prop
 | some v,some u=>aJ v u
 | none,none=>True
 | _,_=>False
def KV{κ:Type}:List (κ×V)->List (κ×Wx)->Prop:=Paired λ(p:κ×V) (q:κ×Wx)=>p.1=q.1/\aJ p.2 q.2
def kV:br->V
 | .inl i=>.int i
 | .inr x=>.str x
inductive HO where
 | lst (xs:List V)
 | tup (xs:List V)
 | dK (kvs:List (br×V)) | dT (kvs:List (List br×V))
 | set (S:Int->Bool) (n:Nat)
 | ins (C dx:WA) (fs:List (Str×V))
 | own (x:WA)
 | xd (fs:List (Str×V))
 | met (f x:WA)
 | rng (lo hi:Int)
 | frz (o:Obj) (u:HO)
 | tbl (ps:Array Wx)
 | cod (q:Str)
 | ext (φ:WL->Prop)
abbrev Hp:=WA->Option HO
def ao(H:Hp)(a:WA)(o:HO):Hp:=λb=>if b=a then some o else H b
theorem bx{H:Hp}{a:WA}{o:HO}:ao H a o a=some o:=by unfold ao;rw [Wt rfl]
theorem ay{H:Hp}{a b:WA}{o:HO}(h:b≠a):ao H a o b=H b:=by unfold ao;rw [Ws h]
theorem kz{H:Hp}{a b:WA}{o:HO}(h:H a=some o)(h':H b=none):a≠b:=by
 intro e;subst e;rw [h] at h';cases h'
def GZ(h:WL)(a:WA)(q:Str):Prop:=∃oc vs t,h.get? a=some oc/\oc.data= .fields vs/\vs[1]?=some (.str q t)
def G0(H:Hp)(h:WL)(a:WA)(q:Str):Prop:=∃ps:Array Wx,h.get? a=some {cls:= .none,data:= .fields ps}/\PySem.TriplesOk ps.toList/\∀pos cv,PySem.codeAmong pos ps.toList=some cv->∃c,cv= .ref c/\H c=some (.cod q)
section
variable (P:WM) (w:WO)
def bL(H:Hp)(h:WL)(a:WA):HO->Prop
 | .lst xs=>xs.length<=WG/\∃(its:List Wx)(n:Nat),aM xs its/\h.get? a=some {cls:= .type "list",data:= .seq its.toArray n}
 | .tup xs=>xs.length<=WG/\∃its:List Wx,aM xs its/\IsTup h a its.toArray
 | .dK kvs=>kvs.length<=WG/\(a==sysModules)=false/\∃vs,KV kvs vs/\h.DictOf (wk P w) a vs
 | .dT kvs=>kvs.length<=WG/\(a==sysModules)=false/\∃xs:List (List br×WA×Wx),
  Paired (λ(p:List br×V) (q:List br×WA×Wx)=>p.1=q.1/\H q.2.1=some (.tup (p.1.map kV))/\aJ p.2 q.2.2) kvs xs/\
  ∃o es ep,h.get? a=some o/\o.ExactDict/\o.data= .dict es ep/\es.toList=xs.map (entryOfKey (tupleKind (wk P w)))/\(xs.map (·.1)).Nodup
 | .set S n=>h.SetOf (intKind P w) a S n
 | .ins C dx fs=>H dx=some (.own a)/\fs.length<=1000/\dx≠a/\h.get? a=some (UB C dx)/\
  ∃mA,h.Ns1 dx mA/\(∀f,qL (fs.lookup f) (mA f))/\V5 mA (fs.map (·.1))
 | .own _=>∃o,h.get? a=some o
 | .xd fs=>∃mA,h.Ns1 a mA/\∀f,qL (fs.lookup f) (mA f)
 | .rng lo hi=>∃t u v,h.get? a=some {cls:= .type "range",data:= .fields #[.int lo t,.int hi u,.int 1 v]}
 | .frz o u=>h.get? a=some o/\bL H h a u
 | .tbl ps=>∃q t,ps[0]?=some (.str q t)/\G0 H h a q
 | .cod q=>GZ h a q
 | .met f x=>h.get? a=some (Uh (.ref f) (.ref x))
 | .ext φ=>φ h/\(∃o,h.get? a=some o)/\∀h1 h2:WL,φ h1->(∀o,h1.get? a=some o->h2.get? a=some o)->φ h2
def bV(H:Hp)(h:WL):Prop:=∀a o,H a=some o->bL P w H h a o
end
section
variable {P:WM} {w:WO} {H H':Hp} {h h':WL} {a:WA} {o:HO}
theorem bL.lt(x:bL P w H h a o):a < h.objs.size:=by
 cases o with
 | lst xs=>obtain⟨_,_,_,_,e⟩:=x;exact PX e
 | tup xs=>obtain⟨_,_,_,p⟩:=x;exact p.lt
 | dK kvs=>obtain⟨_,_,_,_,o,_,_,e,_⟩:=x;exact PX e
 | dT kvs=>obtain⟨_,_,_,_,o,_,_,e,_⟩:=x;exact PX e
 | set S n=>obtain⟨o,_,_,_,e,_⟩:=x;exact PX e
 | ins C dx fs=>obtain⟨_,_,_,e,_⟩:=x;exact PX e
 | own y=>obtain⟨_,e⟩:=x;exact PX e
 | xd fs=>obtain⟨_,⟨_,_,_,e,_⟩,_⟩:=x;exact PX e
 | rng lo hi=>obtain⟨_,_,_,e⟩:=x;exact PX e
 | frz ob u=>obtain⟨e,_⟩:=x;exact PX e
 | tbl ps=>obtain⟨_,_,_,_,e,_⟩:=x;exact PX e
 | cod q=>obtain⟨_,_,_,e,_⟩:=x;exact PX e
 | met f y=>exact PX (show h.get? a=some _ from x)
 | ext φ=>obtain⟨_,⟨_,e⟩,_⟩:=x;exact PX e
theorem Paired.mapP{α β:Type}{F G:α->β->Prop}:∀{l₁:List α}{l₂:List β},Paired F l₁ l₂->(∀a b,F a b->G a b)->Paired G l₁ l₂
 | _,_,.nil,_=>.nil
 | _,_,.cons r t,f=>.cons (f _ _ r) (Paired.mapP t f)
theorem bL.stay(x:bL P w H h a o)(k:∀b u,(b=a\/H b=some (.own a))->h.get? b=some u->h'.get? b=some u)
 (ho:∀b,H b=some (.own a)->H' b=some (.own a))(ht:∀b xs,H b=some (.tup xs)->H' b=some (.tup xs))(hc:∀b q,H b=some (.cod q)->H' b=some (.cod q)):bL P w H' h' a o:=by
 induction o with
 | lst xs=>obtain⟨z,its,n,r,e⟩:=x;exact⟨z,its,n,r,k _ _ (.inl rfl) e⟩
 | tup xs=>obtain⟨z,its,r,ob,e,c⟩:=x;exact⟨z,its,r,ob,k _ _ (.inl rfl) e,c⟩
 | dK kvs=>obtain⟨z,y,vs,r,ob,es,ep,e,c⟩:=x;exact⟨z,y,vs,r,ob,es,ep,k _ _ (.inl rfl) e,c⟩
 | dT kvs=>
  obtain⟨z,y,xs,r,ob,es,ep,e,c⟩:=x;exact⟨z,y,xs,Paired.mapP r λp q z=>⟨z.1,ht _ _ z.2.1,z.2.2⟩,ob,es,ep,k _ _ (.inl rfl) e,c⟩
 | set S n=>obtain⟨ob,es,ep,t,e,c⟩:=x;exact⟨ob,es,ep,t,k _ _ (.inl rfl) e,c⟩
 | ins C dx fs=>
  obtain⟨d,z,ne,e,mA,⟨od,es,ep,e2,c⟩,r⟩:=x;exact⟨ho _ d,z,ne,k _ _ (.inl rfl) e,mA,⟨od,es,ep,k _ _ (.inr d) e2,c⟩,r⟩
 | own y=>obtain⟨ob,e⟩:=x;exact⟨ob,k _ _ (.inl rfl) e⟩
 | xd fs=>obtain⟨mA,⟨od,es,ep,e,c⟩,r⟩:=x;exact⟨mA,⟨od,es,ep,k _ _ (.inl rfl) e,c⟩,r⟩
 | rng lo hi=>obtain⟨t,u,v,e⟩:=x;exact⟨t,u,v,k _ _ (.inl rfl) e⟩
 | frz ob u ih=>obtain⟨e,q⟩:=x;exact⟨k _ _ (.inl rfl) e,ih q⟩
 | tbl ps=>
  obtain⟨q,t,z,qs,e,tr,y⟩:=x;exact⟨q,t,z,qs,k _ _ (.inl rfl) e,tr,λpos cv w=>let ⟨c,e1,e2⟩:=y pos cv w;⟨c,e1,hc _ _ e2⟩⟩
 | cod q=>obtain⟨oc,vs,t,e,r⟩:=x;exact⟨oc,vs,t,k _ _ (.inl rfl) e,r⟩
 | met f y=>
  have e:h.get? a=some (Uh (.ref f) (.ref y)):=x;show h'.get? a=some (Uh (.ref f) (.ref y));exact k a _ (.inl rfl) e
 | ext φ=>obtain⟨p,⟨o,e⟩,st⟩:=x;exact⟨st _ _ p λo q=>k _ _ (.inl rfl) q,⟨o,k _ _ (.inl rfl) e⟩,st⟩
theorem bV.lt(x:bV P w H h)(e:H a=some o):a < h.objs.size:=(x a o e).lt
theorem bV.fresh(x:bV P w H h)(e:h.objs.size<=a):H a=none:=by
 cases q:H a with
 | none=>rfl
 | some u=>exact absurd (Q0 (x.lt q) e) (RR _)
theorem bV.kept(x:bV P w H h)(k:∀b u,h.get? b=some u->h'.get? b=some u):bV P w H h':=λa o e=>
 (x a o e).stay (λb u _ q=>k b u q) (λ_ q=>q) (λ_ _ q=>q) λ_ _ q=>q
theorem bV.laid(x:bV P w H h)(k:∀b u,h.get? b=some u->h'.get? b=some u)(hp:h.objs.size<=a)(new:bL P w (ao H a o) h' a o):bV P w (ao H a o) h':=λb u e=>by
 have hn:=x.fresh hp;by_cases hb:b=a
 ·subst hb;rw [bx] at e;cases e;exact new
 ·rw [ay hb] at e;exact(x b u e).stay (λc v _ q=>k c v q) (λc q=>by rw [ay (kz q hn)];exact q) (λc xs q=>by rw [ay (kz q hn)];exact q) λc xs q=>by rw [ay (kz q hn)];exact q
end
def Rd(H:Hp)(a:WA)(u:HO):Prop:=H a=some u\/∃o,H a=some (.frz o u)
theorem Rd.ok{P:WM}{w:WO}{H:Hp}{h:WL}{a:WA}{u:HO}(r:Rd H a u)(x:bV P w H h):bL P w H h a u:=by
 rcases r with r | ⟨o,r⟩
 ·exact x a u r
 ·obtain⟨_,q⟩:=x a _ r;exact q
def sk:Option HO->Prop
 | some (.lst _)=>True
 | some (.dK _)=>True
 | some (.dT _)=>True
 | some (.set _ _)=>True
 | some (.ins _ _ _)=>True
 | some (.ext _)=>True
 | _=>False
section
variable {P:WM} {w:WO} {H:Hp} {h h':WL} {x e:WA} {o':HO}
theorem bV.write(ok:bV P w H h)(mu:sk (H x))(he:e=x\/H e=some (.own x))(k:∀b u,b≠e->h.get? b=some u->h'.get? b=some u)(heo:∃u,h'.get? e=some u)
 (new:bL P w (ao H x o') h' x o'):bV P w (ao H x o') h':=λb u q=>by
 have nown:∀c y,H c=some (.own y)->c≠x:=λc y r z=>by subst z;rw [r] at mu;exact mu
 have ntup:∀c xs,H c=some (.tup xs)->c≠x:=λc xs r z=>by subst z;rw [r] at mu;exact mu
 have ncod:∀c xs,H c=some (.cod xs)->c≠x:=λc xs r z=>by subst z;rw [r] at mu;exact mu
 by_cases hb:b=x
 ·subst hb;rw [bx] at q;cases q;exact new
 ·rw [ay hb] at q;by_cases hbe:b=e
  ·have q':H b=some (.own x):=by
    rcases he with z | z
    ·exact absurd (hbe.trans z) hb
    ·rw [hbe];exact z
   rw [q] at q';cases q';obtain⟨v,hv⟩:=heo;exact⟨v,by rw [hbe];exact hv⟩
  ·refine(ok b u q).stay (λc v hc r=>k c v ?_ r) (λc r=>by rw [ay (nown c b r)];exact r) (λc xs r=>by rw [ay (ntup c xs r)];exact r) λc xs r=>by rw [ay (ncod c xs r)];exact r
   rcases hc with rfl | hc
   ·exact hbe
   ·rintro rfl;rcases he with z | z
    ·exact nown c b hc z
    ·rw [hc] at z;cases z;exact hb rfl
end
structure Un (fs ex:List WA) (H H':Hp) (h h':WL):Prop where
 keep:∀b o,h.get? b=some o->H b=none->b ∉ fs->b ∉ ex->h'.get? b=some o
 slot:∀b o,h.get? b=some o->H b=none->b∈fs->b ∉ ex->∃sl,h'.get? b=some {o with slots:=sl}
 free:∀b o,h.get? b=some o->H b=none->b ∉ ex->H' b=none
 there:∀b o,h.get? b=some o->b ∉ ex->∃o',h'.get? b=some o'
 tups:∀b xs,H b=some (.tup xs)->H' b=some (.tup xs)
 frzs:∀b o u,H b=some (.frz o u)->H' b=some (.frz o u)
 tbls:∀b ps,H b=some (.tbl ps)->∃more,H' b=some (.tbl (ps++more))
section
variable {fs fs' ex ex':List WA} {H H1 H2:Hp} {h h1 h2 h':WL} {a x e:WA} {o:HO}
theorem Un.any(u:Un fs ex H H1 h h1){b:WA}{ob:Obj}(q:h.get? b=some ob)(n:H b=none)(hx:b ∉ ex):∃sl,h1.get? b=some {ob with slots:=sl}:=by
 by_cases hb:b∈fs
 ·exact u.slot b ob q n hb hx
 ·exact⟨ob.slots,u.keep b ob q n hb hx⟩
theorem Un.kept(k:∀b u,h.get? b=some u->h'.get? b=some u):Un fs ex H H h h':=
 ⟨λb ob q _ _ _=>k b ob q,λb ob q _ _ _=>⟨ob.slots,k b ob q⟩,λ_ _ _ n _=>n,λb ob q _=>⟨ob,k b ob q⟩,λ_ _ q=>q,λ_ _ _ q=>q,λ_ ps q=>⟨#[],by rw [q];simp⟩⟩
theorem Un.refl:Un fs ex H H h h:=Un.kept λ_ _ q=>q
theorem Un.laid(k:∀b u,h.get? b=some u->h'.get? b=some u)(hp:h.objs.size<=a)(hn:H a=none):Un fs ex H (ao H a o) h h' where
 keep:=λb u q _ _ _=>k b u q
 slot:=λb u q _ _ _=>⟨u.slots,k b u q⟩
 free:=λb u q n _=>by rw [ay (QN (Q0 (PX q) hp))];exact n
 there:=λb u q _=>⟨u,k b u q⟩
 tups:=λb xs q=>by rw [ay (kz q hn)];exact q
 frzs:=λb u xs q=>by rw [ay (kz q hn)];exact q
 tbls:=λb ps q=>⟨#[],by rw [ay (kz q hn),q];simp⟩
theorem Un.write(mu:sk (H x))(he:e=x\/H e=some (.own x))(k:∀b u,b≠e->h.get? b=some u->h'.get? b=some u)(heo:∃u,h'.get? e=some u):Un fs ex H (ao H x o) h h':=by
 have hx:∀b,H b=none->b≠x:=λb n z=>by subst z;rw [n] at mu;exact mu
 have hb:∀b,H b=none->b≠e:=λb n z=>by
  subst z;rcases he with r | r
  ·exact hx b n r
  ·rw [n] at r;cases r
 have hm:∀b u,H b=some u->¬sk (some u)->b≠x:=λb u q nm z=>by subst z;rw [q] at mu;exact nm mu
 refine⟨λb u q n _ _=>k b u (hb b n) q,λb u q n _ _=>⟨u.slots,k b u (hb b n) q⟩,λb u q n _=>by rw [ay (hx b n)];exact n,λb u q _=>?_,
  λb xs q=>by rw [ay (hm b _ q λz=>z)];exact q,λb u xs q=>by rw [ay (hm b _ q λz=>z)];exact q,λb ps q=>⟨#[],by rw [ay (hm b _ q λz=>z),q];simp⟩⟩
 by_cases hbe:b=e
 ·subst hbe;exact heo
 ·exact⟨u,k b u hbe q⟩
end
def trk(h:WL)(H:Hp):List WA:=(Rz h.objs.size).filter λa=>(H a).isSome
def oa(h:WL)(H:Hp):WL:=PySem.W.hideAll h (trk h H)
theorem G1(h:WL)(H:Hp):(oa h H).objs.size=h.objs.size:=PySem.W.hideAll_size _ _
theorem G2{h:WL}{H:Hp}{b:WA}{o:Obj}(e:h.get? b=some o)(n:H b=none):(oa h H).get? b=some o:=
 PySem.W.hideAll_get _ e λhm=>by
  have q:(H b).isSome=true:=(VI.mp hm).2;rw [n] at q;simp at q
theorem G3{h:WL}{H:Hp}{b:WA}{o:Obj}(e:(oa h H).get? b=some o):h.get? b=some o/\H b=none:=by
 have e':h.get? b=some o:=PySem.W.of_hideAll (trk h H) e;refine⟨e',?_⟩;cases q:H b with
 | none=>rfl
 | some x=>
  have hm:b∈trk h H:=VI.mpr ⟨Sd.mpr (PX e'),by simp [q]⟩;have z:(oa h H).get? b=none:=PySem.W.hideAll_none (trk h H) hm;rw [z] at e;cases e
def G4(g h:WL)(L:WA):List (WA×Obj):=(Rz h.objs.size).filterMap λa=>if a=L\/(g.get? a).isSome=true then none else(h.get? a).map λo=>(a,o)
def rest(g h:WL)(L d:WA):List (WA×Obj):=(G4 g h L).filter λp=>decide (p.1≠d)
structure Mod (K:Pt) (mg:Str->Option Wx) (base:WL):Prop where
 kin:K.In base
 glob:base.Ns WK mg
 blt:∃mb,base.Ns builtinsNs mb/\∀x:Str,x≠"__name__"->mb x=WU x
 nolimit:base.NoLimit
structure Cx where
 prog:WM
 w:WO
 K:Pt
 mg:Str->Option Wx
 base:WL
 A:WR
 N:List Str
 s₀:WB
 H₀:Hp
 env:Env
 outer:List Env
 stack:List Env
 ex:List WA
 fn:Str->Bool
 calm:Bool
 pn:List (WA×Obj)
 xe:Wx->WB->Prop
def cY(l:List Env):List WA:=l.filterMap (·.frame)
abbrev Cx.fs(X:Cx):List WA:=cY X.outer
def so(sc:W5)(x:Str):Prop:=sc.names.lookup x=some .local\/sc.names.lookup x=some .cell\/sc.names.lookup x=some .free
def nI(sc:W5)(x:Str):Prop:=sc.names.lookup x=some .local\/sc.names.lookup x=some .cell
def G5(env:Env)(h:WL)(m:Str->Option Wx)(x:Str)(u:Wx):Prop:=
 (env.kindOf x=some .local/\m x=some u)\/((env.kindOf x=some .cell\/env.kindOf x=some .free)/\∃c,env.cells.lookup x=some c/\h.IsCell c (some u))
structure Cx.Ok (X:Cx):Prop where
 mod:Mod X.K X.mg X.base
 kind:X.env.scope.kind= .function
 glob:X.env.globals=WK
 blt:X.env.builtins=builtinsNs
 above:X.s₀.heap.objs.size<=X.env.locals
 inj:∀x y c,X.env.cells.lookup x=some c->X.env.cells.lookup y=some c->x=y
 has:∀x,(X.env.kindOf x=some .cell\/X.env.kindOf x=some .free)->∃c,X.env.cells.lookup x=some c
 cab:∀x c,X.fn x=true->X.env.cells.lookup x=some c->X.s₀.heap.objs.size<=c
 hd:X.calm=true->X.A.handled=none
 frames:X.A.frames=some X.stack
 stk:X.stack=X.outer\/(X.stack=X.env::X.outer/\X.env.frame=some X.env.locals)
 exf:∀b∈X.ex,b≠X.env.locals/\∀x c,X.env.cells.lookup x=some c->c≠b
 bs:∀b o,X.base.get? b=some o->X.s₀.heap.get? b=some o/\X.H₀ b=none
 bsz:X.base.objs.size<=X.s₀.heap.objs.size
 noex:∀b o,X.base.get? b=some o->b ∉ X.ex
 exfs:∀b∈X.ex,b ∉ X.fs
 funs:X.s₀.heap.FunFrames X.base X.outer
 frf:∀b∈X.fs,X.H₀ b=none
structure ag (X:Cx) (Ys:List (WA×Obj)) (σ:List (Option V)) (H:Hp) (s:WB):Prop where
 ok:X.Ok
 os:s.os=X.s₀.os
 bare:XR s.gens
 base:Un X.fs X.ex X.H₀ H X.s₀.heap s.heap
 loc:∃m,s.heap.Ns X.env.locals m/\∀(i:Nat)(x:Str)(v:V),X.N[i]?=some x->σ[i]?=some (some v)->so X.env.scope x->∃u,aJ v u/\G5 X.env s.heap m x u
 cell:∀x c,X.env.cells.lookup x=some c->∃v,s.heap.IsCell c v
 free:H X.env.locals=none
 freeC:∀x c,X.env.cells.lookup x=some c->H c=none
 pin:∀p∈X.pn++Ys,s.heap.get? p.1=some p.2/\H p.1=none/\p.1≠X.env.locals/\p.1 ∉ X.fs/\∀v,p.2.data≠ .cell v
 hok:bV X.prog X.w H s.heap
 len:σ.length=X.N.length
section
variable {X:Cx} {Ys:List (WA×Obj)} {σ:List (Option V)} {H H':Hp} {s:WB} {h':WL}
theorem Cx.Ok.nofr(ok:X.Ok){b:WA}{o:Obj}(e:X.base.get? b=some o):b ∉ X.fs:=λhb=>by
 have:=(ok.funs.mem hb).1;rw [e] at this;cases this
theorem ag.bs(I:ag X Ys σ H s):∀b o,X.base.get? b=some o->s.heap.get? b=some o/\H b=none:=λb o e=>
 ⟨I.base.keep b o (I.ok.bs b o e).1 (I.ok.bs b o e).2 (I.ok.nofr e) (I.ok.noex b o e),I.base.free b o (I.ok.bs b o e).1 (I.ok.bs b o e).2 (I.ok.noex b o e)⟩
theorem ag.bk(I:ag X Ys σ H s):∀b o,X.base.get? b=some o->s.heap.get? b=some o:=λb o e=>(I.bs b o e).1
theorem ag.mod(I:ag X Ys σ H s):Mod X.K X.mg X.base:=I.ok.mod
theorem ag.kIn(I:ag X Ys σ H s):X.K.In s.heap:=I.ok.mod.kin.keeps I.bk
theorem ag.fr(I:ag X Ys σ H s):∃m,Fr X.base X.env.locals s.heap m:=
 let ⟨m,hn,_⟩:=I.loc
 ⟨m,hn,I.bk,Qz I.ok.bsz I.ok.above⟩
theorem ag.lt(I:ag X Ys σ H s):X.env.locals < s.heap.objs.size:=let ⟨_,hn,_⟩:=I.loc;hn.lt
theorem ag.sz(I:ag X Ys σ H s):X.s₀.heap.objs.size<=s.heap.objs.size:=Qz I.ok.above (S0 I.lt)
theorem ag.nofs(I:ag X Ys σ H s){a:WA}(h:s.heap.objs.size<=a):a ∉ X.fs:=λhb=>by
 obtain⟨_,o,ho,_⟩:=I.ok.funs.mem hb;exact absurd (Q0 (PX ho) (Qz I.sz h)) (RR _)
theorem ag.cne(I:ag X Ys σ H s):∀x c,X.env.cells.lookup x=some c->c≠X.env.locals:=λx c e z=>by
 obtain⟨v,o,ho,hd⟩:=I.cell x c e;obtain⟨m,⟨o',es,ep,ho',hd',_⟩,_⟩:=I.loc;rw [z,ho'] at ho;cases ho;rw [hd'] at hd;cases hd
theorem ag.funs(I:ag X Ys σ H s):s.heap.FunFrames X.base X.outer:=by
 have all:∀(l:List Env),(∀b∈cY l,b∈X.fs)->X.s₀.heap.FunFrames X.base l->s.heap.FunFrames X.base l:=by
  intro l
  induction l with
  | nil=>intro _ _;trivial
  | cons env r ih=>
   intro hs hl;obtain⟨hk,⟨L,o,hf,hn,ho,hd⟩,hr⟩:=hl;have hL:L∈X.fs:=hs L (by unfold cY;rw [TX,hf];exact RE);obtain⟨sl,e⟩:=I.base.slot L o ho (I.ok.frf L hL) hL λz=>I.ok.exfs L z hL;exact⟨hk,⟨L,_,hf,hn,e,hd⟩,ih (λb hb=>hs b (by unfold cY;rw [TX,hf];exact Q4 _ hb)) hr⟩
 exact all X.outer (λ_ hb=>hb) I.ok.funs
theorem ag.stack(I:ag X Ys σ H s):s.heap.FunFrames X.base X.stack:=by
 rcases I.ok.stk with e | ⟨e,hf⟩
 ·rw [e];exact I.funs
 ·rw [e];obtain⟨m,hn,_⟩:=I.loc;refine .cons (by rw [I.ok.kind];decide) hf hn ?_ I.funs;exact Ta (Qz I.ok.bsz I.ok.above)
theorem ag.stkSub(I:ag X Ys σ H s):∀b∈cY X.stack,b∈X.env.locals::X.fs:=λb hb=>by
 rcases I.ok.stk with e | ⟨e,hf⟩
 ·rw [e] at hb;exact Q4 _ hb
 ·rw [e] at hb;unfold cY at hb;rw [TX,hf] at hb;exact hb
theorem ag.stkFree(I:ag X Ys σ H s):∀b∈cY X.stack,H b=none:=λb hb=>by
 rcases PH.mp (I.stkSub b hb) with e | hb
 ·rw [e];exact I.free
 ·obtain⟨_,o,ho,_⟩:=I.ok.funs.mem hb;exact I.base.free b o ho (I.ok.frf b hb) λz=>I.ok.exfs b z hb
theorem ag.step{g':Array XZ}{t':Nat}{d':Drawn}{ch:List WA}(I:ag X Ys σ H s)
 (hch:∀b∈ch,(b∈X.ex\/X.s₀.heap.objs.size<=b)/\b≠X.env.locals/\(∀x c,X.env.cells.lookup x=some c->c≠b)/\∀p∈X.pn++Ys,p.1≠b)
 (keep:∀b o,b≠X.env.locals->b ∉ X.fs->b ∉ ch->s.heap.get? b=some o->H b=none->h'.get? b=some o)
 (slot:∀b o,b≠X.env.locals->b∈X.fs->b ∉ ch->s.heap.get? b=some o->H b=none->∃sl,h'.get? b=some {o with slots:=sl})(free:∀b o,b ∉ ch->s.heap.get? b=some o->H b=none->H' b=none)
 (there:∀b o,b ∉ ch->s.heap.get? b=some o->∃o',h'.get? b=some o')
 (tups:∀b xs,H b=some (.tup xs)->H' b=some (.tup xs))(frzs:∀b o u,H b=some (.frz o u)->H' b=some (.frz o u))(tbls:∀b ps,H b=some (.tbl ps)->∃more,H' b=some (.tbl (ps++more)))
 (ns:∀m,s.heap.Ns X.env.locals m->h'.Ns X.env.locals m)(hok:bV X.prog X.w H' h')(hg:XR g'):
 ag X Ys σ H' {s with heap:=h',gens:=g',drawn:=d',toks:=t'}:=by
 have neL:∀b o,X.s₀.heap.get? b=some o->b≠X.env.locals:=λb o e=>QN (Q0 (PX e) I.ok.above);have neC:∀b o,X.s₀.heap.get? b=some o->b ∉ X.ex->b ∉ ch:=λb o e hx hb=>by
  rcases(hch b hb).1 with z | z
  ·exact hx z
  ·exact absurd (Q0 (PX e) z) (RR _)
 have cellK:∀x c,X.env.cells.lookup x=some c->∀v,s.heap.IsCell c v->h'.IsCell c v:=λx c e v uu1=>by
  obtain⟨o,ho,hd⟩:=uu1;have nch:c ∉ ch:=λz=>(hch c z).2.2.1 x c e rfl;by_cases hc:c∈X.fs
  ·obtain⟨sl,q⟩:=slot c o (I.cne x c e) hc nch ho (I.freeC x c e);exact⟨_,q,hd⟩
  ·exact⟨o,keep c o (I.cne x c e) hc nch ho (I.freeC x c e),hd⟩
 refine⟨I.ok,I.os,hg,⟨λb o e n hb hx=>?_,λb o e n hb hx=>?_,λb o e n hx=>?_,λb o e hx=>?_,λb xs e=>tups b xs (I.base.tups b xs e),λb o xs e=>frzs b o xs (I.base.frzs b o xs e),λb ps e=>?_⟩,?_,λx c e=>?_,?_,λx c e=>?_,λp hp=>?_,hok,I.len⟩
 ·exact keep b o (neL b o e) hb (neC b o e hx) (I.base.keep b o e n hb hx) (I.base.free b o e n hx)
 ·obtain⟨sl,e1⟩:=I.base.slot b o e n hb hx;obtain⟨sl',e2⟩:=slot b _ (neL b o e) hb (neC b o e hx) e1 (I.base.free b o e n hx);exact⟨sl',e2⟩
 ·obtain⟨o',e1⟩:=I.base.there b o e hx;exact free b o' (neC b o e hx) e1 (I.base.free b o e n hx)
 ·obtain⟨o',e1⟩:=I.base.there b o e hx;exact there b o' (neC b o e hx) e1
 ·obtain⟨m1,e1⟩:=I.base.tbls b ps e;obtain⟨m2,e2⟩:=tbls b _ e1;exact⟨m1++m2,by rw [e2,Array.append_assoc]⟩
 ·obtain⟨m,hn,hl⟩:=I.loc;refine⟨m,ns m hn,λi x v e1 e2 e3=>?_⟩;obtain⟨u,r,l⟩:=hl i x v e1 e2 e3;refine⟨u,r,?_⟩;rcases l with l | ⟨k,c,e,z⟩
  ·exact .inl l
  ·exact .inr ⟨k,c,e,cellK x c e _ z⟩
 ·obtain⟨v,z⟩:=I.cell x c e;exact⟨v,cellK x c e v z⟩
 ·obtain⟨m,⟨o,_,_,ho,_⟩,_⟩:=I.loc;exact free _ o (λz=>(hch _ z).2.1 rfl) ho I.free
 ·obtain⟨v,o,ho,hd⟩:=I.cell x c e;exact free c o (λz=>(hch c z).2.2.1 x c e rfl) ho (I.freeC x c e)
 ·obtain⟨e,n,ne,nf,d⟩:=I.pin p hp;have nch:p.1 ∉ ch:=λz=>(hch p.1 z).2.2.2 p hp rfl;exact⟨keep p.1 p.2 ne nf nch e n,free p.1 p.2 nch e n,ne,nf,d⟩
theorem ag.un{t':Nat}(I:ag X Ys σ H s)(u:Un X.fs [] H H' s.heap h')(hok:bV X.prog X.w H' h'):ag X Ys σ H' {s with heap:=h',toks:=t'}:=by
 obtain⟨m,⟨o,es,ep,ho,r⟩,_⟩:=id I.loc;obtain⟨sl,hL⟩:=u.any ho I.free Wv;exact I.step (g':=s.gens) (d':=s.drawn) (ch:=[]) (λ_ z=>nomatch z) (λb o _ hb _ e n=>u.keep b o e n hb Wv) (λb o _ hb _ e n=>u.slot b o e n hb Wv) (λb o _ e n=>u.free b o e n Wv) (λb o _ e=>u.there b o e Wv) u.tups u.frzs u.tbls (λm' hm=>by
  obtain⟨o',es',ep',ho',r'⟩:=hm;rw [ho] at ho';cases ho';exact⟨_,es',ep',hL,r'⟩) hok I.bare
theorem ag.call{g':Array XZ}{t':Nat}{d':Drawn}{ch:List WA}(I:ag X Ys σ H s)(u:Un (cY X.stack) ch H H' s.heap h')(hok:bV X.prog X.w H' h')(hg:XR g')
 (hch:∀b∈ch,(b∈X.ex\/X.s₀.heap.objs.size<=b)/\b≠X.env.locals/\(∀x c,X.env.cells.lookup x=some c->c≠b)/\∀p∈X.pn++Ys,p.1≠b):
 ag X Ys σ H' {s with heap:=h',gens:=g',drawn:=d',toks:=t'}:=by
 obtain⟨m,⟨o,es,ep,ho,r⟩,_⟩:=id I.loc;obtain⟨sl,hL⟩:=u.any ho I.free λz=>(hch _ z).2.1 rfl;exact I.step (ch:=ch) hch (λb o hL hb hc e n=>u.keep b o e n (λz=>(PH.mp (I.stkSub b z)).elim hL hb) hc) (λb o _ _ hc e n=>u.any e n hc) (λb o hc e n=>u.free b o e n hc) (λb o hc e=>u.there b o e hc) u.tups u.frzs u.tbls (λm' hm=>by
  obtain⟨o',es',ep',ho',r'⟩:=hm;rw [ho] at ho';cases ho';exact⟨_,es',ep',hL,r'⟩) hok hg
theorem ag.turned{t':Nat}{it:WA}(I:ag X Ys σ H s)(k:∀b o,b≠it->s.heap.get? b=some o->h'.get? b=some o)(hn:H it=none)(hL:it≠X.env.locals)
 (h1:it∈X.ex\/X.s₀.heap.objs.size<=it)(h2:∀x c,X.env.cells.lookup x=some c->c≠it)(h3:∀p∈X.pn++Ys,p.1≠it):ag X Ys σ H {s with heap:=h',toks:=t'}:=by
 have nit:∀b u,H b=some u->b≠it:=λb u e z=>by rw [z,hn] at e;cases e
 refine I.step (g':=s.gens) (d':=s.drawn) (ch:=[it]) (λb hb=>?_) (λb o _ _ hc e _=>k b o (λz=>hc (by simp [z])) e) (λb o _ _ hc e _=>⟨o.slots,k b o (λz=>hc (by simp [z])) e⟩) (λ_ _ _ _ n=>n)
  (λb o hc e=>⟨o,k b o (λz=>hc (by simp [z])) e⟩) (λ_ _ e=>e) (λ_ _ _ e=>e) (λb ps e=>⟨#[],by rw [e];simp⟩) (λm hm=>?_) (λb u e=>?_) I.bare
 ·have e:b=it:=by simpa using hb
  subst e;exact⟨h1,hL,h2,h3⟩
 ·obtain⟨o,es,ep,ho,r⟩:=hm;exact⟨o,es,ep,k _ o (Ne.symm hL) ho,r⟩
 ·refine(I.hok b u e).stay (λc v hc q=>k c v ?_ q) (λ_ q=>q) (λ_ _ q=>q) λ_ _ q=>q;rcases hc with z | z
  ·rw [z];exact nit b u e
  ·exact nit c _ z
theorem ag.tok(I:ag X Ys σ H s)(t:Nat):ag X Ys σ H {s with toks:=t}:=I.un (h':=s.heap) (t':=t) Un.refl I.hok
theorem ag.kept{t':Nat}(I:ag X Ys σ H s)(k:∀b u,s.heap.get? b=some u->h'.get? b=some u):ag X Ys σ H {s with heap:=h',toks:=t'}:=I.un (Un.kept k) (I.hok.kept k)
theorem ag.laid{a:WA}{o:HO}{t':Nat}(I:ag X Ys σ H s)(k:∀b u,s.heap.get? b=some u->h'.get? b=some u)(hp:s.heap.objs.size<=a)(new:bL X.prog X.w (ao H a o) h' a o):
 ag X Ys σ (ao H a o) {s with heap:=h',toks:=t'}:=I.un (Un.laid k hp (I.hok.fresh hp)) (I.hok.laid k hp new)
theorem ag.write{x e:WA}{o:HO}{t':Nat}(I:ag X Ys σ H s)(mu:sk (H x))(he:e=x\/H e=some (.own x))(k:∀b u,b≠e->s.heap.get? b=some u->h'.get? b=some u)(heo:∃u,h'.get? e=some u)
 (new:bL X.prog X.w (ao H x o) h' x o):ag X Ys σ (ao H x o) {s with heap:=h',toks:=t'}:=I.un (Un.write mu he k heo) (I.hok.write mu he k heo new)
theorem ag.weak{σ':List (Option V)}(I:ag X Ys σ H s)(hl:σ'.length=σ.length)(w:∀(i:Nat) v,σ'[i]?=some (some v)->σ[i]?=some (some v)):ag X Ys σ' H s:=
 ⟨I.ok,I.os,I.bare,I.base,let ⟨m,hn,hl'⟩:=I.loc;⟨m,hn,λi x v e1 e2 e3=>hl' i x v e1 (w i v e2) e3⟩,I.cell,I.free,I.freeC,I.pin,I.hok,hl.trans I.len⟩
theorem ag.pins_of{pins':List (WA×Obj)}(I:ag X Ys σ H s)(h:∀p∈pins',s.heap.get? p.1=some p.2/\H p.1=none/\p.1≠X.env.locals/\p.1 ∉ X.fs/\∀v,p.2.data≠ .cell v):ag X pins' σ H s:=
 ⟨I.ok,I.os,I.bare,I.base,I.loc,I.cell,I.free,I.freeC,λp hp=>(Rt.mp hp).elim (λz=>I.pin p (UX _ z)) (h p),I.hok,I.len⟩
theorem wm{N:List Str}(hN:N.Nodup){i j:Nat}{x:Str}(a:N[i]?=some x)(b:N[j]?=some x):i=j:=by
 obtain⟨h1,e1⟩:=Qu.mp a;obtain⟨h2,e2⟩:=Qu.mp b;exact(List.getElem_inj hN).mp (e1.trans e2.symm)
theorem BX{M:XS}{A:WR}{E:Wx->WB->Prop}{i:Nat}{x:Str}{v:V}{u:Wx}{Q:Unit->WB->Prop}(I:ag X Ys σ H s)(hN:X.N.Nodup)(hi:X.N[i]?=some x)(hx:nI X.env.scope x)(r:aJ v u)
 (h:∀s',ag X Ys (σ.set i (some v)) H s'->(∃a,Ss a s.heap s'.heap/\(a=X.env.locals\/X.env.cells.lookup x=some a))->Q () s')(hf:X.fn x=true\/X.env.scope.names.lookup x=some .local:=by first | exact .inl rfl | exact .inr rfl | assumption):WD M A (storeName X.env x u) Q E s:=by
 obtain⟨m,hn,hl⟩:=id I.loc;have hcls:(X.env.scope.kind== .class || (X.env.scope.kind== .module && X.env.locals !=X.env.globals))=false:=by rw [I.ok.kind];rfl
 have hiσ:i < σ.length:=by rw [I.len];exact(Qu.mp hi).1
 have cne:=I.cne;have tracked:∀{a:WA}{h':WL},(∃o,s.heap.get? a=some o/\H a=none)->Ss a s.heap h'->bV X.prog X.w H h':=λ{a h'} ha hs b ob e=>by
  obtain⟨_,_,hfree⟩:=ha;refine(I.hok b ob e).stay (λc w' hc q=>(hs.2 c ?_).trans q) (λ_ q=>q) (λ_ _ q=>q) λ_ _ q=>q;rintro rfl;rcases hc with rfl | hc
  ·rw [hfree] at e;cases e
  ·rw [hfree] at hc;cases hc
 rcases hx with hk | hk
 ·refine wpAny_storeName_local hk hn (λh' hn' hs=>?_) hcls;obtain⟨oL,_,_,hoL,_⟩:=id hn;refine h _ ⟨I.ok,I.os,I.bare,⟨λb o e n hb hx=>?_,λb o e n hb hx=>?_,I.base.free,λb o e hx=>?_,I.base.tups,I.base.frzs,I.base.tbls⟩,⟨_,hn',λj y v' e1 e2 e3=>?_⟩,λy c e=>?_,I.free,I.freeC,λp hp=>?_,tracked ⟨oL,hoL,I.free⟩ hs,by simpa using I.len⟩ ⟨_,hs,.inl rfl⟩
  ·exact(hs.2 b (QN (Q0 (PX e) I.ok.above))).trans (I.base.keep b o e n hb hx)
  ·obtain⟨sl,e1⟩:=I.base.slot b o e n hb hx;exact⟨sl,(hs.2 b (QN (Q0 (PX e) I.ok.above))).trans e1⟩
  ·obtain⟨o',e1⟩:=I.base.there b o e hx;exact⟨o',(hs.2 b (QN (Q0 (PX e) I.ok.above))).trans e1⟩
  ·by_cases hj:j=i
   ·subst hj;rw [hi] at e1;cases e1;rw [Ri hiσ] at e2;cases e2;exact⟨u,r,.inl ⟨hk,Wv⟩⟩
   ·rw [Q5 (Ne.symm hj)] at e2;obtain⟨u',r',q⟩:=hl j y v' e1 e2 e3;refine⟨u',r',?_⟩;rcases q with⟨k,e⟩ | ⟨k,c,e,z⟩
    ·refine .inl ⟨k,?_⟩;have:y≠x:=λe=>hj (wm hN e1 (e▸hi));simp [this,e]
    ·exact .inr ⟨k,c,e,z.sameBut hs (cne y c e)⟩
  ·obtain⟨w',z⟩:=I.cell y c e;exact⟨w',z.sameBut hs (cne y c e)⟩
  ·obtain⟨e,n,ne,nf,d⟩:=I.pin p hp;exact⟨(hs.2 p.1 ne).trans e,n,ne,nf,d⟩
 ·have hfn:X.fn x=true:=by
   rcases hf with z | z
   ·exact z
   ·rw [z] at hk;cases hk
  obtain⟨c,hc⟩:=I.ok.has x (.inl hk);obtain⟨w',z⟩:=I.cell x c hc;refine wpAny_storeName_cell I.ok.kind hk hc z (λh' hc' hs=>?_);obtain⟨oc,hoc,hocd⟩:=id z;refine h {s with heap:=h'} ⟨I.ok,I.os,I.bare,⟨λb o e n hb hx=>?_,λb o e n hb hx=>?_,I.base.free,λb o e hx=>?_,I.base.tups,I.base.frzs,I.base.tbls⟩,⟨m,hn.sameBut hs (Ne.symm (cne x c hc)),λj y v' e1 e2 e3=>?_⟩,λy c' e=>?_,I.free,I.freeC,λp hp=>?_,tracked ⟨oc,hoc,I.freeC x c hc⟩ hs,by simpa using I.len⟩ ⟨c,hs,.inr hc⟩
  ·exact(hs.2 b (QN (Q0 (PX e) (I.ok.cab x c hfn hc)))).trans (I.base.keep b o e n hb hx)
  ·obtain⟨sl,e1⟩:=I.base.slot b o e n hb hx;exact⟨sl,(hs.2 b (QN (Q0 (PX e) (I.ok.cab x c hfn hc)))).trans e1⟩
  ·obtain⟨o',e1⟩:=I.base.there b o e hx;exact⟨o',(hs.2 b (QN (Q0 (PX e) (I.ok.cab x c hfn hc)))).trans e1⟩
  ·by_cases hj:j=i
   ·subst hj;rw [hi] at e1;cases e1;rw [Ri hiσ] at e2;cases e2;exact⟨u,r,.inr ⟨.inl hk,c,hc,hc'⟩⟩
   ·rw [Q5 (Ne.symm hj)] at e2;obtain⟨u',r',q⟩:=hl j y v' e1 e2 e3;refine⟨u',r',?_⟩;rcases q with q | ⟨k,c',e,z'⟩
    ·exact .inl q
    ·refine .inr ⟨k,c',e,z'.sameBut hs ?_⟩;rintro rfl;exact hj (wm hN e1 (I.ok.inj _ _ _ e hc▸hi))
  ·by_cases hcc:c'=c
   ·subst hcc;exact⟨_,hc'⟩
   ·obtain⟨w2,z2⟩:=I.cell y c' e;exact⟨w2,z2.sameBut hs hcc⟩
  ·obtain⟨e,n,ne,nf,d⟩:=I.pin p hp;refine⟨(hs.2 p.1 ?_).trans e,n,ne,nf,d⟩;intro q;rw [q,hoc] at e;have q':oc=p.2:=Rk e;exact d w' (by rw [<-q'];exact hocd)
theorem pV{M:XS}{A:WR}{E:Wx->WB->Prop}{i:Nat}{x:Str}{v:V}{u:Wx}{Q:Unit->WB->Prop}(I:ag X Ys σ H s)(hN:X.N.Nodup)(hi:X.N[i]?=some x)(hx:nI X.env.scope x)(r:aJ v u)
 (h:∀s',ag X Ys (σ.set i (some v)) H s'->Q () s')(hf:X.fn x=true\/X.env.scope.names.lookup x=some .local:=by first | exact .inl rfl | exact .inr rfl | assumption):WD M A (storeName X.env x u) Q E s:=
 BX I hN hi hx r (λs' I' _=>h s' I') hf
theorem ag.call'{s':WB}{ch:List WA}(I:ag X Ys σ H s)(ho:s'.os=s.os)(u:Un (cY X.stack) ch H H' s.heap s'.heap)(hok:bV X.prog X.w H' s'.heap)(hg:XR s'.gens)
 (hch:∀b∈ch,(b∈X.ex\/X.s₀.heap.objs.size<=b)/\b≠X.env.locals/\(∀x c,X.env.cells.lookup x=some c->c≠b)/\∀p∈X.pn++Ys,p.1≠b):ag X Ys σ H' s':=by
 obtain⟨h',g',d',t',o'⟩:=s';have e:o'=s.os:=ho;subst e;exact I.call (g':=g') (t':=t') (d':=d') u hok hg hch
end
abbrev XK:=Wx->Option WA->Hp->Prop
abbrev St:=List (Option V)
abbrev VK:=V->Hp->Prop
abbrev TE:=St->Hp->VK->Prop
abbrev TT:=St->Hp->(Bool->Hp->Prop)->Prop
abbrev TA:=St->Hp->(List V->Hp->Prop)->Prop
structure nJ where
 nx:St->Hp->Prop
 rt:VK
 bk:St->Hp->Prop:=λ_ _=>False
 ct:St->Hp->Prop:=λ_ _=>False
abbrev TS:=nJ->St->Hp->Prop
inductive EP (X:Cx) (Ys:List (WA×Obj)) (σ:St) (Q:VK) (u:Wx) (s':WB):Prop
 | mk (v:V) (H':Hp):ag X Ys σ H' s'->aJ v u->Q v H'->EP X Ys σ Q u s'
inductive TP (X:Cx) (Ys:List (WA×Obj)) (σ:St) (Q:Bool->Hp->Prop) (b:Bool) (s':WB):Prop
 | mk (H':Hp):ag X Ys σ H' s'->Q b H'->TP X Ys σ Q b s'
inductive AP (X:Cx) (Ys:List (WA×Obj)) (σ:St) (Q:List V->Hp->Prop) (us:List Wx) (s':WB):Prop
 | mk (vs:List V) (H':Hp):ag X Ys σ H' s'->aM vs us->Q vs H'->AP X Ys σ Q us s'
def SP(X:Cx)(Ys:List (WA×Obj))(D:nJ)(f:Flow)(s':WB):Prop:=
 match f with
 | .next=>∃σ' H',ag X Ys σ' H' s'/\D.nx σ' H'
 | .brk=>∃σ' H',ag X Ys σ' H' s'/\D.bk σ' H'
 | .cont=>∃σ' H',ag X Ys σ' H' s'/\D.ct σ' H'
 | .ret u=>∃v σ' H',ag X Ys σ' H' s'/\aJ v u/\D.rt v H'
def PE(X:Cx)(e:WI)(t:TE):Prop:=
 ∀(Ys:List (WA×Obj))(s:WB)(σ:St)(H:Hp)(Q:VK),ag X Ys σ H s->t σ H Q->WD (WE X.prog X.w) X.A (eval e X.env) (EP X Ys σ Q) X.xe s
def PT(X:Cx)(e:WI)(t:TT):Prop:=
 ∀(Ys:List (WA×Obj))(s:WB)(σ:St)(H:Hp)(Q:Bool->Hp->Prop),ag X Ys σ H s->t σ H Q->WD (WE X.prog X.w) X.A (isTrue e X.env (eval e X.env)) (TP X Ys σ Q) X.xe s
def PW(X:Cx)(e:WI)(t:TT):Prop:=
 ∀(whole:Sem Wx)(Ys:List (WA×Obj))(s:WB)(σ:St)(H:Hp)(Q:Bool->Hp->Prop),ag X Ys σ H s->t σ H Q->WD (WE X.prog X.w) X.A (isTrue e X.env whole) (TP X Ys σ Q) X.xe s
theorem PW.pt{X:Cx}{e:WI}{t:TT}(h:PW X e t):PT X e t:=h _
def PA(X:Cx)(es:List WI)(t:TA):Prop:=
 ∀(pos:Pos)(Ys:List (WA×Obj))(s:WB)(σ:St)(H:Hp)(Q:List V->Hp->Prop),ag X Ys σ H s->t σ H Q->WD (WE X.prog X.w) X.A (spliced (WZ pos (WH es X.env))) (AP X Ys σ Q) X.xe s
def PS(X:Cx)(st:WQ)(t:TS):Prop:=
 ∀(Ys:List (WA×Obj))(s:WB)(σ:St)(H:Hp)(D:nJ),ag X Ys σ H s->t D σ H->WD (WE X.prog X.w) X.A (exec st X.env) (SP X Ys D) X.xe s
def bG(X:Cx)(st:List WQ)(t:TS):Prop:=
 ∀(Ys:List (WA×Obj))(s:WB)(σ:St)(H:Hp)(D:nJ),ag X Ys σ H s->t D σ H->WD (WE X.prog X.w) X.A (execs st X.env) (SP X Ys D) X.xe s
theorem aC{α:Type}{t:Sem α}{Q Q':α->WB->Prop}{M:XS}{A:WR}{E:Wx->WB->Prop}{s:WB}(h:WD M A t Q E s)(hQ:∀a s,Q a s->Q' a s):WD M A t Q' E s:=WW h hQ λ_ _ x=>x
section
variable {X:Cx}
theorem Po{a b:WI}{ta tb:TE}(ha:PE X a ta)(hb:PE X b tb){Ys:List (WA×Obj)}{s:WB}{σ:St}{H:Hp}{R:V->V->Hp->Prop}(I:ag X Ys σ H s)(h:ta σ H λx H1=>tb σ H1 λy H2=>R x y H2)
 {α:Type}{Q:α->WB->Prop}{f:Wx->Wx->Sem α}
 (hf:∀v u s2 x y H2,ag X Ys σ H2 s2->aJ x v->aJ y u->R x y H2->WD (WE X.prog X.w) X.A (f v u) Q X.xe s2):
 WD (WE X.prog X.w) X.A (eval a X.env) (λv s₁=>WD (WE X.prog X.w) X.A (eval b X.env) (λu s₂=>WD (WE X.prog X.w) X.A (f v u) Q X.xe s₂) X.xe s₁) X.xe s:=by
 refine aC (ha Ys s σ H _ I h) λv s1 ⟨x,H1,I1,r1,q1⟩=>?_;refine aC (hb Ys s1 σ H1 _ I1 q1) λu s2 ⟨y,H2,I2,r2,q2⟩=>?_;exact hf v u s2 x y H2 I2 r1 r2 q2
def oh(i:Nat):TE:=λσ H Q=>∃v,σ[i]?=some (some v)/\Q v H
def tC(v:V):TE:=λ_ H Q=>Q v H
theorem pW{i:Nat}{x:Str}{pos:Pos}(hN:X.N[i]?=some x)(hv:so X.env.scope x)(hd:(x==("__debug__":Str))=false:=by decide)(hcd:(x==("__classdict__":Str))=false:=by decide):PE X (.Name x pos) (oh i):=by
 intro Ys s σ H Q I h;obtain⟨v,e,h⟩:=h;obtain⟨m,hn,hl⟩:=I.loc;obtain⟨u,r,l⟩:=hl i x v hN e hv;have fin:EP X Ys σ Q u s:=⟨v,H,I,r,h⟩;rcases l with⟨hk,hm⟩ | ⟨hk,c,hc,hcell⟩
 ·exact wpAny_Name (wpAny_loadName_local I.ok.kind hk hn hm fin) hd
 ·rcases hk with hk | hk
  ·exact wpAny_Name (wpAny_loadName_cell I.ok.kind hk hc hcell fin) hd
  ·exact wpAny_Name (wpAny_loadName_free I.ok.kind hk hc hcell fin hcd) hd
theorem cZ{i j pos}:PE X (.Constant (.int i) j pos) (tC (.int i)):=λ_ _ _ H _ I h=>wpAny_Constant_int ⟨.int i,H,I.tok _,⟨_,rfl⟩,h⟩
theorem wq{b j pos}:PE X (.Constant (.bool b) j pos) (tC (.bl b)):=λ_ _ _ H _ I h=>Constant_bool ⟨.bl b,H,I,rfl,h⟩
theorem pX{j pos}:PE X (.Constant .none j pos) (tC .non):=λ_ _ _ H _ I h=>Constant_none ⟨.non,H,I,rfl,h⟩
theorem wt{x j pos}:PE X (.Constant (.str x) j pos) (tC (.str x)):=λ_ _ _ H _ I h=>Calls.Constant_str ⟨.str x,H,I.tok _,⟨_,rfl⟩,h⟩
def Gl(X:Cx)(x:Str):Prop:=X.env.kindOf x=some .globalImplicit
theorem oX{E:Wx->WB->Prop}{Ys:List (WA×Obj)}{s:WB}{σ:St}{H:Hp}{x:Str}{u:Wx}{pos:Pos}{Q:Wx->WB->Prop}(I:ag X Ys σ H s)(hg:Gl X x)(hm:X.mg x=some u)(h:Q u s)
 (hd:(x==("__debug__":Str))=false:=by decide):WD (WE X.prog X.w) X.A (eval (.Name x pos) X.env) Q E s:=
 T8 I.ok.kind hg (Calls.loadGlobal_global (by rw [I.ok.glob];exact I.mod.glob.keeps I.bk) hm h) hd
theorem pY{E:Wx->WB->Prop}{Ys:List (WA×Obj)}{s:WB}{σ:St}{H:Hp}{x:Str}{u:Wx}{pos:Pos}{Q:Wx->WB->Prop}(I:ag X Ys σ H s)(hg:Gl X x)(hm:X.mg x=none)(hv:WU x=some u)(h:Q u s)
 (hn:x≠"__name__":=by decide)(hd:(x==("__debug__":Str))=false:=by decide):WD (WE X.prog X.w) X.A (eval (.Name x pos) X.env) Q E s:=by
 obtain⟨mb,h1,h2⟩:=I.mod.blt;exact T8 I.ok.kind hg (Calls.loadGlobal_builtin (by rw [I.ok.glob];exact I.mod.glob.keeps I.bk) hm (by rw [I.ok.blt];exact h1.keeps I.bk) ((h2 x hn).trans hv) h) hd
theorem kn{x:Str}{v:V}{u:Wx}{pos:Pos}(hg:Gl X x)(hm:X.mg x=some u)(r:aJ v u)(hd:(x==("__debug__":Str))=false:=by decide):PE X (.Name x pos) (tC v):=
 λ_ _ _ H _ I h=>oX I hg hm ⟨v,H,I,r,h⟩ hd
theorem lY{x:Str}{v:V}{u:Wx}{pos:Pos}(hg:Gl X x)(hm:X.mg x=none)(hv:WU x=some u)(r:aJ v u)(hn:x≠"__name__":=by decide)(hd:(x==("__debug__":Str))=false:=by decide):PE X (.Name x pos) (tC v):=
 λ_ _ _ H _ I h=>pY I hg hm hv ⟨v,H,I,r,h⟩ hn hd
variable {a b:WI} {ta tb:TE} {pos:Pos}
def PC(X:Cx)(op:CmpOp)(a b:WI)(t:TE):Prop:=
 ∀(Ys:List (WA×Obj))(s:WB)(σ:St)(H:Hp)(Q:VK),ag X Ys σ H s->t σ H Q->
  WD (WE X.prog X.w) X.A (eval a X.env) (λv s₁=>WD (WE X.prog X.w) X.A (eval b X.env) (λu s₂=>WD (WE X.prog X.w) X.A (WS op v u) (EP X Ys σ Q) X.xe s₂) X.xe s₁) X.xe s
theorem G6(b:WI){op:CmpOp}(h:op≠ .In)(h2:op≠ .NotIn):Xb op b=false:=by
 have e1:(op==CmpOp.In)=false:=by cases op <;> first | rfl | exact absurd rfl h
 have e2:(op==Wg)=false:=by cases op <;> first | rfl | exact absurd rfl h2
 cases b <;> simp [Xb,e1,e2]
def tB(t:TE):TT:=λσ H Q=>t σ H λx H1=>∃c,x= .bl c/\Q c H1
theorem Pp{op:CmpOp}{t:TE}(h:PC X op a b t)(h1:Xb op b=false:=by first | exact G6 _ tx tx | rfl):PT X (.Compare a [op] [b] pos) (tB t):=by
 intro Ys s σ H Q I hw;refine wpAny_isTrue_Compare1 (aC (h Ys s σ H _ I hw) λv s1 h1=>aC h1 λu s2 h2=>aC h2 λc s3 ⟨x,H1,I1,r1,q1⟩=>?_) h1;obtain⟨d,rfl,q⟩:=q1;cases r1;exact WY ⟨H1,I1,q⟩
theorem qM{e:WI}{t:TE}(h:PE X e t)(he:∀whole,isTrue e X.env whole=(do let v<-whole;standAt e.pos;X4 [v] (truthy v)):=by intro _;rfl):PT X e (tB t):=by
 intro Ys s σ H Q I hw;refine isTrue_plain (aC (h Ys s σ H _ I hw) λv s1 ⟨x,H1,I1,r1,q1⟩=>?_) (he _);obtain⟨d,rfl,q⟩:=q1;cases r1;exact WY ⟨H1,I1,q⟩
variable {tA tB':TT} {rest:List WI}
def wu(t u:TT):TT:=λσ H Q=>t σ H λc H1=>if c=true then u σ H1 Q else Q false H1
def wz(t u:TT):TT:=λσ H Q=>t σ H λc H1=>if c=true then Q true H1 else u σ H1 Q
def wA(t:TT):TT:=λσ H Q=>t σ H λc H1=>Q (!c) H1
theorem BY(ha:PT X a tA):PW X (.BoolOp .And [a] pos) tA:=by
 intro wh Ys s σ H Q I h;refine isTrue_and (aC (ha Ys s σ H Q I h) λc s1 e=>?_);cases c with
 | true=>exact isTrue_and_nil e
 | false=>exact e
theorem BZ(ha:PT X a tA):PW X (.BoolOp .Or [a] pos) tA:=by
 intro wh Ys s σ H Q I h;refine isTrue_or (aC (ha Ys s σ H Q I h) λc s1 e=>?_);cases c with
 | false=>exact isTrue_or_nil e
 | true=>exact e
theorem B0(ha:PT X a tA)(hb:PW X (.BoolOp .And (b::rest) pos) tB'):PW X (.BoolOp .And (a::b::rest) pos) (wu tA tB'):=by
 intro wh Ys s σ H Q I h;refine isTrue_and (aC (ha Ys s σ H _ I h) λc s1 ⟨H1,I1,q1⟩=>?_);cases c with
 | true=>exact hb wh Ys s1 σ H1 Q I1 q1
 | false=>exact⟨H1,I1,q1⟩
theorem wB(ha:PT X a tA)(hb:PW X (.BoolOp .Or (b::rest) pos) tB'):PW X (.BoolOp .Or (a::b::rest) pos) (wz tA tB'):=by
 intro wh Ys s σ H Q I h;refine isTrue_or (aC (ha Ys s σ H _ I h) λc s1 ⟨H1,I1,q1⟩=>?_);cases c with
 | true=>exact⟨H1,I1,q1⟩
 | false=>exact hb wh Ys s1 σ H1 Q I1 q1
theorem wC(ha:PT X a tA):PT X (.UnaryOp .Not a pos) (wA tA):=by
 intro Ys s σ H Q I h;exact isTrue_not (aC (ha Ys s σ H (λc H1=>Q (!c) H1) I h) λc s1 uu8=>by obtain⟨H1,I1,q⟩:=uu8;exact⟨H1,I1,q⟩)
def wD(ta tb:TE):TE:=λσ H Q=>ta σ H λx H1=>∃c,x= .bl c/\if c=true then tb σ H1 Q else Q (.bl false) H1
def wF(ta tb:TE):TE:=λσ H Q=>ta σ H λx H1=>∃c,x= .bl c/\if c=true then Q (.bl true) H1 else tb σ H1 Q
def wG(ta:TE):TE:=λσ H Q=>ta σ H λx H1=>∃c,x= .bl c/\Q (.bl (!c)) H1
theorem sr{op}{t:TE}(h:PE X a t):PE X (.BoolOp op [a] pos) t:=λYs s σ H Q I hw=>BoolOp_one (h Ys s σ H Q I hw)
theorem sA(ha:PE X a ta)(hb:PE X (.BoolOp .And (b::rest) pos) tb):PE X (.BoolOp .And (a::b::rest) pos) (wD ta tb):=by
 intro Ys s σ H Q I h;refine BoolOp_and (aC (ha Ys s σ H _ I h) λv s1 ⟨x,H1,I1,r1,q1⟩=>?_);obtain⟨c,rfl,q1⟩:=q1;cases r1;refine WY ?_;cases c with
 | true=>exact hb Ys s1 σ H1 Q I1 q1
 | false=>exact⟨.bl false,H1,I1,rfl,q1⟩
theorem G7(ha:PE X a ta)(hb:PE X (.BoolOp .Or (b::rest) pos) tb):PE X (.BoolOp .Or (a::b::rest) pos) (wF ta tb):=by
 intro Ys s σ H Q I h;refine BoolOp_or (aC (ha Ys s σ H _ I h) λv s1 ⟨x,H1,I1,r1,q1⟩=>?_);obtain⟨c,rfl,q1⟩:=q1;cases r1;refine WY ?_;cases c with
 | false=>exact hb Ys s1 σ H1 Q I1 q1
 | true=>exact⟨.bl true,H1,I1,rfl,q1⟩
theorem B1(ha:PE X a ta):PE X (.UnaryOp .Not a pos) (wG ta):=by
 intro Ys s σ H Q I h;refine UnaryOp_ (aC (ha Ys s σ H _ I h) λv s1 ⟨x,H1,I1,r1,q1⟩=>?_);obtain⟨c,rfl,q1⟩:=q1;cases r1;exact not_of (WY ⟨.bl (!c),H1,I1,rfl,q1⟩)
def wH(t:TT)(ta tb:TE):TE:=λσ H Q=>t σ H λc H1=>if c=true then ta σ H1 Q else tb σ H1 Q
theorem G8{c:WI}(hc:PT X c tA)(ha:PE X a ta)(hb:PE X b tb):PE X (.IfExp c a b pos) (wH tA ta tb):=by
 intro Ys s σ H Q I h;refine wpAny_IfExp (aC (hc Ys s σ H _ I h) λd s1 ⟨H1,I1,q1⟩=>?_);cases d with
 | true=>exact ha Ys s1 σ H1 Q I1 q1
 | false=>exact hb Ys s1 σ H1 Q I1 q1
end
def bg(K:Pt)(H:Hp)(a:WA)(xs:List V):Prop:=
 Rd H a (.lst xs)\/
  ∃(o:Obj)(its:Array Wx)(n:Nat),K.lookup a=some o/\o.cls= .type "list"/\o.dict=none/\o.data= .seq its n/\its.size<=WG/\aM xs its.toList
def aZ(K:Pt)(H:Hp)(a:WA)(xs:List V):Prop:=
 Rd H a (.tup xs)\/
  ∃(o:Obj)(its:Array Wx)(n:Nat),K.lookup a=some o/\o.cls= .type "tuple"/\o.data= .seq its n/\its.size<=WG/\aM xs its.toList
def G9:Wx->Option V
 | .none=>some .non
 | .bool b=>some (.bl b)
 | .int i _=>some (.int i)
 | .str x _=>some (.str x)
 | .bytes b _=>some (.byt b)
 | .float b _=>some (.flt b)
 | .ref a=>some (.ref a)
 | .type n=>some (.ty n)
 | _=>none
theorem aJ.abs{x:V}{u:Wx}(r:aJ x u):G9 u=some x:=by
 cases x with
 | non=>cases r;rfl
 | bl _=>cases r;rfl
 | int _=>obtain⟨t,rfl⟩:=r;rfl
 | str _=>obtain⟨t,rfl⟩:=r;rfl
 | byt _=>obtain⟨t,rfl⟩:=r;rfl
 | flt _=>obtain⟨t,rfl⟩:=r;rfl
 | ref _=>cases r;rfl
 | ty _=>cases r;rfl
theorem aJ.inj{x y:V}{u:Wx}(r:aJ x u)(q:aJ y u):x=y:=Rk (r.abs.symm.trans q.abs)
theorem aM.inj:∀{xs ys:List V}{us:List Wx},aM xs us->aM ys us->xs=ys
 | _,_,_,.nil,.nil=>rfl
 | _,_,_,.cons r t,.cons r' t'=>by rw [r.inj r',aM.inj t t']
section
variable {X:Cx} {Ys:List (WA×Obj)} {σ:St} {H:Hp} {s:WB} {a:WA} {xs ys:List V}
theorem bg.of{K:Pt}(h:H a=some (.lst xs)):bg K H a xs:= .inl (.inl h)
theorem aZ.of{K:Pt}(h:H a=some (.tup xs)):aZ K H a xs:= .inl (.inl h)
theorem ag.list(I:ag X Ys σ H s)(h:bg X.K H a xs):∃its:List Wx,aM xs its/\PlainL s.heap a its.toArray/\xs.length<=WG:=by
 rcases h with h | ⟨o,its,n,hk,hc,hd,hs,hz,r⟩
 ·obtain⟨z,its,n,r,e⟩:=h.ok I.hok;exact⟨its,r,⟨_,n,e,rfl,rfl,rfl⟩,z⟩
 ·refine⟨its.toList,r,⟨o,n,I.kIn a o hk,hc,hd,by simpa using hs⟩,?_⟩;have e:=r.length;simp only [P2] at e;omega
theorem ag.tuple(I:ag X Ys σ H s)(h:aZ X.K H a xs):∃its:List Wx,aM xs its/\IsTup s.heap a its.toArray/\xs.length<=WG:=by
 rcases h with h | ⟨o,its,n,hk,hc,hs,hz,r⟩
 ·obtain⟨z,its,r,p⟩:=h.ok I.hok;exact⟨its,r,p,z⟩
 ·refine⟨its.toList,r,⟨o,I.kIn a o hk,hc,n,by simpa using hs⟩,?_⟩;have e:=r.length;simp only [P2] at e;omega
theorem ag.list_inj(I:ag X Ys σ H s)(h:bg X.K H a xs)(h':bg X.K H a ys):xs=ys:=by
 obtain⟨its,r,⟨o,n,e,_,_,d⟩,_⟩:=I.list h;obtain⟨its',r',⟨o',n',e',_,_,d'⟩,_⟩:=I.list h';rw [e] at e';cases e';rw [d] at d';injection d' with d1 _
 have:its=its':=by simpa using congrArg V6 d1
 subst this;exact r.inj r'
theorem ag.tuple_inj(I:ag X Ys σ H s)(h:aZ X.K H a xs)(h':aZ X.K H a ys):xs=ys:=by
 obtain⟨its,r,⟨o,e,_,n,d⟩,_⟩:=I.tuple h;obtain⟨its',r',⟨o',e',_,n',d'⟩,_⟩:=I.tuple h';rw [e] at e';cases e';rw [d] at d';injection d' with d1 _
 have:its=its':=by simpa using congrArg V6 d1
 subst this;exact r.inj r'
end
abbrev Cx.wish(X:Cx)(E:Wx->WB->Prop):Cx:={X with xe:=E}
abbrev Cx.nox(X:Cx):Cx:=X.wish λ_ _=>False
theorem Cx.Ok.wish{X:Cx}(ok:X.Ok)(E:Wx->WB->Prop):(X.wish E).Ok:=
 ⟨ok.mod,ok.kind,ok.glob,ok.blt,ok.above,ok.inj,ok.has,ok.cab,ok.hd,ok.frames,ok.stk,ok.exf,ok.bs,ok.bsz,ok.noex,ok.exfs,ok.funs,ok.frf⟩
theorem Cx.Ok.unwish{X:Cx}{E:Wx->WB->Prop}(ok:(X.wish E).Ok):X.Ok:=
 ⟨ok.mod,ok.kind,ok.glob,ok.blt,ok.above,ok.inj,ok.has,ok.cab,ok.hd,ok.frames,ok.stk,ok.exf,ok.bs,ok.bsz,ok.noex,ok.exfs,ok.funs,ok.frf⟩
section
variable {X:Cx} {Ys:List (WA×Obj)} {σ:St} {H:Hp} {s:WB} {E:Wx->WB->Prop}
theorem ag.wish(I:ag X Ys σ H s)(E:Wx->WB->Prop):ag (X.wish E) Ys σ H s:=⟨I.ok.wish E,I.os,I.bare,I.base,I.loc,I.cell,I.free,I.freeC,I.pin,I.hok,I.len⟩
theorem ag.unwish(I:ag (X.wish E) Ys σ H s):ag X Ys σ H s:=⟨I.ok.unwish,I.os,I.bare,I.base,I.loc,I.cell,I.free,I.freeC,I.pin,I.hok,I.len⟩
theorem SP.unwish{D:nJ}{f:Flow}{s':WB}(h:SP (X.wish E) Ys D f s'):SP X Ys D f s':=by
 cases f with
 | next=>obtain⟨σ',H',I,q⟩:=h;exact⟨σ',H',I.unwish,q⟩
 | brk=>obtain⟨σ',H',I,q⟩:=h;exact⟨σ',H',I.unwish,q⟩
 | cont=>obtain⟨σ',H',I,q⟩:=h;exact⟨σ',H',I.unwish,q⟩
 | ret u=>obtain⟨v,σ',H',I,r,q⟩:=h;exact⟨v,σ',H',I.unwish,r,q⟩
theorem bG.nox{st:List WQ}{t:TS}(h:bG X.nox st t):bG X st t:=λYs s σ H D I hw=>
 WW (h Ys s σ H D (I.wish _) hw) (λ_ _ q=>q.unwish) λ_ _ z=>RA z
end
section
variable {X:Cx} {st:WQ} {rest:List WQ} {t u:TS} {e:WI} {te:TE} {pos:Pos}
def wI:TS:=λD σ H=>D.nx σ H
def um(t u:TS):TS:=λD σ H=>t {D with nx:=u D} σ H
theorem oY:bG X [] wI:=λ_ _ σ H _ I h=>XB ⟨σ,H,I,h⟩
theorem kR(h1:PS X st t)(h2:bG X rest u):bG X (st::rest) (um t u):=by
 intro Ys s σ H D I h;refine X0 (aC (h1 Ys s σ H {D with nx:=u D} I h) λf s1 q=>?_);cases f with
 | next=>
  obtain⟨σ',H',I',q⟩:=q;exact h2 Ys s1 σ' H' D I' q
 | ret v=>exact q
 | brk=>exact q
 | cont=>exact q
theorem kA(h1:PS X st t):bG X [st] t:=by
 intro Ys s σ H D I h;refine X0 (aC (h1 Ys s σ H D I h) λf s1 q=>?_);cases f with
 | next=>exact XB q
 | ret v=>exact q
 | brk=>exact q
 | cont=>exact q
theorem ag.quiet{Ys:List (WA×Obj)}{σ:St}{H:Hp}{s:WB}(I:ag X Ys σ H s):interactive X.env=false:=by simp [interactive,I.ok.kind]
def wJ(te:TE):TS:=λD σ H=>te σ H λ_ H1=>D.nx σ H1
theorem Ha(he:PE X e te)(hs:W7 e none pos.line X.env=pure false:=by rfl):PS X (.Expr e pos) (wJ te):=by
 intro Ys s σ H D I h;exact wpAny_Expr_any (aC (he Ys s σ H _ I h) λv s1 uu13=>by obtain⟨x,H1,I1,r1,q1⟩:=uu13;exact⟨σ,H1,I1,q1⟩) I.quiet hs
def wK(te:TE):TS:=λD σ H=>te σ H D.rt
theorem kS(he:PE X e te):PS X (.Return (some e) pos) (wK te):=by
 intro Ys s σ H D I h;exact wpAny_Return_some (aC (he Ys s σ H _ I h) λv s1 uu14=>by obtain⟨x,H1,I1,r1,q1⟩:=uu14;exact⟨x,σ,H1,I1,r1,q1⟩)
def wL(c:TT)(t u:TS):TS:=λD σ H=>c σ H λb H1=>if b=true then t D σ H1 else u D σ H1
theorem oZ{c:WI}{a b:List WQ}{tc:TT}(hc:PT X c tc)(ha:bG X a t)(hb:bG X b u):PS X (.If c a b pos) (wL tc t u):=by
 intro Ys s σ H D I h;refine wpAny_If (aC (hc Ys s σ H _ I h) λd s1 ⟨H1,I1,q1⟩=>?_);cases d with
 | true=>exact ha Ys s1 σ H1 D I1 q1
 | false=>exact hb Ys s1 σ H1 D I1 q1
end
abbrev TG:=V->St->Hp->(St->Hp->Prop)->Prop
abbrev mx:=List V->St->Hp->(St->Hp->Prop)->Prop
def PG(X:Cx)(target:WI)(t:TG):Prop:=
 ∀(Ys:List (WA×Obj))(s:WB)(σ:St)(H:Hp)(v:V)(u:Wx)(Q:St->Hp->Prop),ag X Ys σ H s->aJ v u->t v σ H Q->
  WD (WE X.prog X.w) X.A (assign target X.env u) (λ_ s'=>∃σ' H',ag X Ys σ' H' s'/\Q σ' H') X.xe s
def sC(X:Cx)(ts:List WI)(t:mx):Prop:=
 ∀(Ys:List (WA×Obj))(s:WB)(σ:St)(H:Hp)(vs:List V)(us:List Wx)(Q:St->Hp->Prop),ag X Ys σ H s->aM vs us->t vs σ H Q->
  WD (WE X.prog X.w) X.A (assignInOrder ((Xq ts X.env).map (·.2)) us) (λ_ s'=>∃σ' H',ag X Ys σ' H' s'/\Q σ' H') X.xe s
abbrev wM:=V->V->V->Hp->(Hp->Prop)->Prop
def B2(X:Cx)(t:wM):Prop:=
 ∀(Ys:List (WA×Obj))(s:WB)(σ:St)(H:Hp)(o i v:V)(ov iv u:Wx)(Q:Hp->Prop),ag X Ys σ H s->aJ o ov->aJ i iv->aJ v u->t o i v H Q->
  WD (WE X.prog X.w) X.A (setItem ov iv u) (λ_ s'=>∃H',ag X Ys σ H' s'/\Q H') X.xe s
section
variable {X:Cx} {pos:Pos}
def ni(i:Nat):TG:=λv σ H Q=>Q (σ.set i (some v)) H
theorem bP{i:Nat}{x:Str}(hN:X.N.Nodup)(hi:X.N[i]?=some x)(hx:nI X.env.scope x)(hf:X.fn x=true\/X.env.scope.names.lookup x=some .local:=by first | exact .inl rfl | exact .inr rfl | assumption):PG X (.Name x pos) (ni i):=by
 intro Ys s σ H v u Q I r h;exact wpAny_assign_Name (pV I hN hi hx r (λs' I'=>⟨_,H,I',h⟩) hf)
def sE:mx:=λvs σ H Q=>vs=[]/\Q σ H
def qN(t:TG)(u:mx):mx:=λvs σ H Q=>∃v r,vs=v::r/\t v σ H λσ' H'=>u r σ' H' Q
theorem qO:sC X [] sE:=by
 intro Ys s σ H vs us Q I r h;obtain⟨e,h⟩:=h;subst e;cases r;exact assignInOrder_nil ⟨σ,H,I,h⟩
theorem my{e:WI}{es:List WI}{t:TG}{u:mx}(h1:PG X e t)(h2:sC X es u)
 (hs:(Xq (e::es) X.env).map (·.2)=assign e X.env::(Xq es X.env).map (·.2):=by rfl):sC X (e::es) (qN t u):=by
 intro Ys s σ H vs us Q I r h;obtain⟨v,vr,e1,h⟩:=h;subst e1;cases r with
 | cons r rr=>
  rw [hs];refine Yf (aC (h1 Ys s σ H _ _ _ I r h) λ_ s1 ⟨σ1,H1,I1,q1⟩=>?_);exact h2 Ys s1 σ1 H1 _ _ Q I1 rr q1
def sF(K:Pt)(n:Nat)(t:mx):TG:=λv σ H Q=>∃a xs,v= .ref a/\aZ K H a xs/\xs.length=n/\t xs σ H Q
theorem sG{es:List WI}{k:Nat}{t:mx}{n:Nat}(hc:X.calm=true)(h:sC X es t)
 (hn:(Xq es X.env).length=n:=by rfl)(hst:(Xq es X.env).findIdx? (·.1)=none:=by rfl):PG X (.Tuple es k pos) (sF X.K n t):=by
 intro Ys s σ H v u Q I r hw;obtain⟨a,xs,e1,hq,hl,hw⟩:=hw;subst e1;cases r;obtain⟨its,rv,ht,hz⟩:=I.tuple hq;refine assign_Tuple_tuple (I.ok.hd hc) ht (by simp [hn,<-hl,rv.length]) hst λh' hx=>?_;have I1:ag X Ys σ H {s with heap:=h'}:=I.kept (t':=s.toks) λb o e=>hx b o (QN (PX e)) e;exact h Ys _ σ H xs _ Q I1 (by simpa using rv) hw
def wN(to ti:TE)(t:wM):TG:=λv σ H Q=>to σ H λo H1=>ti σ H1 λi H2=>t o i v H2 λH3=>Q σ H3
theorem Hb{o i:WI}{to ti:TE}{t:wM}(ho:PE X o to)(hi:PE X i ti)(hs:B2 X t)
 (ha:∀v,assign (.Subscript o i pos) X.env v=(do
   let ov<-X4 [v] (eval o X.env)
   let iv<-X4 [v,ov] (eval i X.env)
   standAt pos
   X4 [v,ov,iv] (setItem ov iv v)
   release [v,ov,iv] []):=by intro _;rfl):PG X (.Subscript o i pos) (wN to ti t):=by
 intro Ys s σ H v u Q I r h;rw [ha];refine Wy (W3 (aC (ho Ys s σ H _ I h) λov s1 ⟨x,H1,I1,r1,q1⟩=>?_));refine Wy (W3 (aC (hi Ys s1 σ H1 _ I1 q1) λiv s2 ⟨y,H2,I2,r2,q2⟩=>?_));refine Wy (Xz (Wy (W3 (aC (hs Ys s2 σ H2 x y v ov iv u _ I2 r1 r2 r q2) λ_ s3 ⟨H3,I3,q3⟩=>?_))));exact wpAny_release ⟨σ,H3,I3,q3⟩
def qP(te:TE)(g:TG):TS:=λD σ H=>te σ H λx H1=>g x σ H1 D.nx
theorem B3{tg e:WI}{te:TE}{g:TG}(he:PE X e te)(hg:PG X tg g)(hs:Yl [tg] e pos.line X.env=pure false:=by rfl)(hw:Ym [tg] e X.env=pure none:=by rfl)
 (h1:(Xq [tg] X.env).map (·.2)=[assign tg X.env]:=by rfl):PS X (.Assign [tg] e pos) (qP te g):=by
 intro Ys s σ H D I h;refine wpAny_Assign_stores (aC (he Ys s σ H _ I h) λv s1 ⟨x,H1,I1,r1,q1⟩=>?_) hs hw;rw [h1];exact aC (hg Ys s1 σ H1 x v _ I1 r1 q1) λ_ s2 q=>q
theorem mz{i:Nat}{x:Str}{e:WI}{te:TE}{pos':Pos}(hN:X.N.Nodup)(hi:X.N[i]?=some x)(hx:nI X.env.scope x)(he:PE X e te)(hs:W7 e (some (.Name x pos')) pos.line X.env=pure false:=by rfl)(hf:X.fn x=true\/X.env.scope.names.lookup x=some .local:=by first | exact .inl rfl | exact .inr rfl | assumption):
 PS X (.Assign [.Name x pos'] e pos) (qP te (ni i)):=by
 intro Ys s σ H D I h;refine wpAny_Assign_Name (aC (he Ys s σ H _ I h) λv s1 ⟨y,H1,I1,r1,q1⟩=>?_) hs;exact pV I1 hN hi hx r1 (λs2 I2=>⟨_,H1,I2,q1⟩) hf
def wO(i j:Nat)(ta:TA):TS:=λD σ H=>ta σ H λvs H1=>∃v w,vs=[v,w]/\D.nx ((σ.set i (some v)).set j (some w)) H1
theorem Hc{i j:Nat}{x y:Str}{a b:WI}{ta:TA}{px py pt:Pos}{kt k2 pt2}(hc:X.calm=true)(hN:X.N.Nodup)(hi:X.N[i]?=some x)(hj:X.N[j]?=some y)(hij:i≠j)
 (hx:X.env.scope.names.lookup x=some .local)(hy:X.env.scope.names.lookup y=some .local)(ha:PA X [a,b] ta)
 (hw:Ym [.Tuple [.Name x px,.Name y py] kt pt] (.Tuple [a,b] k2 pt2) X.env=pure (some [x,y]))
 (hs:Yl [.Tuple [.Name x px,.Name y py] kt pt] (.Tuple [a,b] k2 pt2) pos.line X.env=pure false:=by rfl):
 PS X (.Assign [.Tuple [.Name x px,.Name y py] kt pt] (.Tuple [a,b] k2 pt2) pos) (wO i j ta):=by
 intro Ys s σ H D I h;rw [exec_Assign_arm];refine Wy (Xz ?_);rw [hs];refine Wy (WC ?_);rw [Ws tx];refine Wy (Tuple_ (aC (ha _ Ys s σ H _ I h) λus s1 ⟨vs,H1,I1,r1,q1⟩=>?_));obtain⟨v,w,e1,q1⟩:=q1;subst e1;obtain⟨u1,u2,rfl,rv,rw'⟩:∃u1 u2,us=[u1,u2]/\aJ v u1/\aJ w u2:=by
  cases r1 with
  | cons p q=>
   cases q with
   | cons p' q'=>
    cases q';exact⟨_,_,rfl,p,p'⟩
 refine WV ?_ (by show 2<=WG;decide);have I2:ag X Ys σ H1 {s1 with heap:=s1.heap.push {cls:= .type "tuple",data:= .seq [u1,u2].toArray}}:=I1.kept (t':=s1.toks) λb o e=>PB _ e;rw [hw];refine Wy (WC ?_);show WD (WE X.prog X.w) X.A (do rule "assign.swapped-stores";let items<-unpackItems (.ref s1.heap.objs.size) 2 none;assignInOrder [λv=>bindName X.env y v,λv=>bindName X.env x v] items.reverse;pure Wo) _ _ _;refine Wy (XF (Wy (unpackItems_tuple (items:=#[u1,u2]) (I.ok.hd hc) (Vf s1.heap _) λh' hx'=>?_)));have I3:=I2.kept (h':=h') (t':=s1.toks) λb o e=>hx' b o (QN (PX e)) e;show WD _ _ (assignInOrder [λv=>bindName X.env y v,λv=>bindName X.env x v] [u2,u1] >>=λ_=>pure Wo) _ _ _;refine Wy (Yf (wpAny_bindName (pV I3 hN hj (.inl hy) rw' (λs2 I4=>?_) (.inr hy))));refine Yf (wpAny_bindName (pV I4 hN hi (.inl hx) rv (λs3 I5=>assignInOrder_nil (WC ?_)) (.inr hx)));rw [List.set_comm _ _ (Ne.symm hij)] at I5;exact⟨_,H1,I5,q1⟩
def Hd(c:TT)(tb:TS):TS:=λD σ H=>∃W:Nat->St->Hp->Prop,(∃m,W m σ H)/\∀m σ H,W m σ H->
 c σ H λb H1=>if b=true then ∃N:St->Hp->Prop,(∀σ' H',N σ' H'->∃m',m' < m/\W m' σ' H')/\tb {D with nx:=N,ct:=N,bk:=D.nx} σ H1 else D.nx σ H1
theorem B4{c:WI}{body:List WQ}{tc:TT}{tb:TS}(hp:XO (WE X.prog X.w) X.A X.env X.xe)(hc:PT X c tc)(hb:bG X body tb):PS X (.While c body [] pos) (Hd tc tb):=by
 intro Ys s σ H D I h;obtain⟨W,⟨m0,w0⟩,turn⟩:=h;refine wpAny_While (codeAny_whileLoop (λn s'=>∃σ' H',ag X Ys σ' H' s'/\W n σ' H') ?_ m0 ⟨σ,H,I,w0⟩);rintro n s1 ⟨σ1,H1,I1,w1⟩;refine Xl hp (aC (hc Ys s1 σ1 H1 _ I1 (turn n σ1 H1 w1)) λb s2 ⟨H2,I2,q2⟩=>?_);cases b with
 | true=>
  obtain⟨N,hN,q2⟩:=q2;rw [Wt rfl];refine Xl hp (aC (hb Ys s2 σ1 H2 _ I2 q2) λf s3 q3=>?_);cases f with
  | next=>
   obtain⟨σ3,H3,I3,n3⟩:=q3;obtain⟨m',hm,w3⟩:=hN σ3 H3 n3;exact⟨m',hm,σ3,H3,I3,w3⟩
  | cont=>
   obtain⟨σ3,H3,I3,n3⟩:=q3;obtain⟨m',hm,w3⟩:=hN σ3 H3 n3;exact⟨m',hm,σ3,H3,I3,w3⟩
  | brk=>exact q3
  | ret v=>exact q3
 | false=>
  rw [Ws Qx];exact XB ⟨σ1,H2,I2,q2⟩
end
structure It where
 go:Nat->Hp->Prop
 yld:Nat->Hp->V->Hp->Prop
 stop:Nat->Hp->Prop
def mQ(X:Cx)(Ys:List (WA×Obj))(H:Hp)(b:WA):Prop:=
 H b=none/\b≠X.env.locals/\b ∉ X.fs/\(b∈X.ex\/X.s₀.heap.objs.size<=b)/\(∀x c,X.env.cells.lookup x=some c->c≠b)/\∀p∈X.pn++Ys,p.1≠b
theorem ag.fpOk{X:Cx}{Ys:List (WA×Obj)}{σ:St}{H H':Hp}{s:WB}{b:WA}(I:ag X Ys σ H s)(hb:s.heap.objs.size<=b)(hn:H' b=none):mQ X Ys H' b:=by
 refine⟨hn,Su (Q0 I.lt hb),I.nofs hb,.inr (Qz I.sz hb),λx c e z=>?_,λp hp z=>?_⟩
 ·obtain⟨v,q⟩:=I.cell x c e;exact absurd (Q0 q.lt (by rw [z];exact hb)) (RR _)
 ·exact absurd (Q0 (PX (I.pin p hp).1) (by rw [z];exact hb)) (RR _)
structure pZ (P:WM) (w:WO) (K:Pt) (tg:WI) (J:It) (fp:List WA) (it:WA) (tn:Nat->WL->Prop):Prop where
 mem:it∈fp
 obj:∀i h,tn i h->∀b∈fp,∃o,h.get? b=some o/\∀v,o.data≠ .cell v
 keep:∀i h h',tn i h->(∀b∈fp,∀o,h.get? b=some o->h'.get? b=some o)->tn i h'
 item:∀(X:Cx),X.prog=P->X.w=w->X.K=K->X.calm=true->∀(i:Nat)(Ys:List (WA×Obj))(s:WB)(σ:St)(H:Hp)(E:Wx->WB->Prop),ag X Ys σ H s->(∀b∈fp,mQ X Ys H b)->tn i s.heap->J.go i H->
  WD (WE P w) X.A (Xo (.ref it)) (λr s1=>∃u,r=some u/\
   WD (WE P w) X.A (X8 tg (.ref it) u) (λ_ s2=>∃x H',ag X Ys σ H' s2/\aJ x u/\J.yld i H x H'/\tn (i+1) s2.heap/\∀b∈fp,H' b=none) E s1) E s
 done:∀(X:Cx),X.prog=P->X.w=w->X.K=K->X.calm=true->∀(i:Nat)(Ys:List (WA×Obj))(s:WB)(σ:St)(H:Hp)(E:Wx->WB->Prop),ag X Ys σ H s->(∀b∈fp,mQ X Ys H b)->tn i s.heap->J.stop i H->
  WD (WE P w) X.A (Xo (.ref it)) (λr s1=>r=none/\ag X Ys σ H s1) E s
 self:∀(A:WR)(i:Nat)(s:WB)(Q:Wx->WB->Prop)(E:Wx->WB->Prop),tn i s.heap->Q (.ref it) s->WD (WE P w) A (pyIter (.ref it)) Q E s
abbrev TI:=St->Hp->(It->Hp->Prop)->Prop
def B5(X:Cx)(Ys:List (WA×Obj))(σ:St)(tg:WI)(R:It->Hp->Prop)(itv:Wx)(s2:WB):Prop:=
 ∃(it:WA)(fp:List WA)(tn:Nat->WL->Prop)(J:It)(H':Hp),itv= .ref it/\ag X Ys σ H' s2/\pZ X.prog X.w X.K tg J fp it tn/\tn 0 s2.heap/\(∀b∈fp,mQ X Ys H' b)/\R J H'
def PI(X:Cx)(tg iter:WI)(wi:TI):Prop:=
 ∀(Ys:List (WA×Obj))(s:WB)(σ:St)(H:Hp)(R:It->Hp->Prop),ag X Ys σ H s->wi σ H R->
  WD (WE X.prog X.w) X.A (eval iter X.env) (λv s1=>WD (WE X.prog X.w) X.A (pyIter v) (B5 X Ys σ tg R) X.xe s1) X.xe s
theorem uo{M:XS}{A:WR}{E:Wx->WB->Prop}{s:WB}{tg:WI}{it:WA}{u:Wx}{o:Obj}{n:String}{vs:Array Wx}{Q:Unit->WB->Prop}(ho:s.heap.get? it=some o)(hc:o.cls= .type n)(hd:o.data= .fields vs)
 (hn:["enumerate","zip","dict_itemiterator","dict_reverseitemiterator","odict_iterator","itertools.zip_longest","itertools.pairwise"].contains n=false)(hQ:Q () s):WD M A (X8 tg (.ref it) u) Q E s:=by
 unfold X8;cases tg <;> first
  | exact WC hQ
  | (cases u <;> first
      | exact WC hQ
      | (refine Wy (wpAny_load ho ?_)
         rw [hc,hd];show WD M A (if (["enumerate","zip","dict_itemiterator","dict_reverseitemiterator","odict_iterator","itertools.zip_longest","itertools.pairwise"].contains n && vs[0]?==some (Xe _))=true then _ else _) Q E s;rw [Ws (by intro h;rw [hn,Bool.false_and] at h;cases h)];exact WC hQ))
def sH(K:Pt)(a:WA):It:=
 ⟨λi H=>∃xs x,bg K H a xs/\xs[i]?=some x,λi H x H'=>H'=H/\∀xs,bg K H a xs->xs[i]?=some x,λi H=>∃xs,bg K H a xs/\xs.length<=i⟩
def sI(K:Pt)(a:WA):It:=
 ⟨λi H=>∃xs x,aZ K H a xs/\xs[i]?=some x,λi H x H'=>H'=H/\∀xs,aZ K H a xs->xs[i]?=some x,λi H=>∃xs,aZ K H a xs/\xs.length<=i⟩
def nK(lo:Int)(n:Nat):It:=⟨λi _=>i < n,λi H x H'=>H'=H/\x= .int (lo+i),λi _=>n<=i⟩
theorem He{P:WM}{w:WO}{K:Pt}{tg:WI}(a it:WA):pZ P w K tg (sH K a) [it] it (λi h=>h.IsListIter it a i) where
 mem:=Wv
 obj:=λi h st b hb=>by
  have e:b=it:=by simpa using hb
  subst e;obtain⟨o,e,c,d⟩:=st;exact⟨o,e,λv z=>by rw [d] at z;cases z⟩
 keep:=λi h h' st k=>st.at λo e=>k it Wv o e
 item:=by
  intro X hP hw hK hc i Ys s σ H E I hf st hg;subst hP hw hK;obtain⟨xs,x,hq,hx⟩:=hg;obtain⟨its,rv,p,hz⟩:=I.list hq;obtain⟨u,hu,ru⟩:=rv.get hx;obtain⟨f0,f1,f2,f3,f4,f5⟩:=hf it Wv;refine wpAny_pyNext_list_item st p.isList (x:=u) (by simpa using hu) λh' st' sb=>?_;have I1:ag X Ys σ H {s with heap:=h'}:=I.turned (t':=s.toks) (λb o hb e=>(sb.2 b hb).trans e) f0 f1 f3 f4 f5;obtain⟨o,e,c,d⟩:=id st';exact⟨u,rfl,uo (s:={s with heap:=h'}) e c d tx ⟨x,H,I1,ru,⟨rfl,λys hy=>by rw [I.list_inj hy hq];exact hx⟩,st',λb hb=>(hf b hb).1⟩⟩
 done:=by
  intro X hP hw hK hc i Ys s σ H E I hf st hg;subst hP hw hK;obtain⟨xs,hq,hx⟩:=hg;obtain⟨its,rv,p,hz⟩:=I.list hq;obtain⟨f0,f1,f2,f3,f4,f5⟩:=hf it Wv;have hl:=rv.length;exact wpAny_pyNext_list_end (I.ok.hd hc) st p.isList (by simp;omega) λh' eb=>⟨rfl,I.turned (t':=s.toks) (λb o hb e=>eb b o hb e) f0 f1 f3 f4 f5⟩
 self:=λ_ _ _ _ _ st h=>wpAny_pyIter_listiter st h
theorem Hf{P:WM}{w:WO}{K:Pt}{tg:WI}(a it:WA):pZ P w K tg (sI K a) [it] it (λi h=>h.IsTupleIter it a i) where
 mem:=Wv
 obj:=λi h st b hb=>by
  have e:b=it:=by simpa using hb
  subst e;obtain⟨o,e,c,d⟩:=st;exact⟨o,e,λv z=>by rw [d] at z;cases z⟩
 keep:=λi h h' st k=>st.at λo e=>k it Wv o e
 item:=by
  intro X hP hw hK hc i Ys s σ H E I hf st hg;subst hP hw hK;obtain⟨xs,x,hq,hx⟩:=hg;obtain⟨its,rv,p,hz⟩:=I.tuple hq;obtain⟨u,hu,ru⟩:=rv.get hx;obtain⟨f0,f1,f2,f3,f4,f5⟩:=hf it Wv;refine wpAny_pyNext_tuple_item st (show s.heap.IsTuple a its.toArray from p) (x:=u) (by simpa using hu) λh' st' sb=>?_;have I1:ag X Ys σ H {s with heap:=h'}:=I.turned (t':=s.toks) (λb o hb e=>(sb.2 b hb).trans e) f0 f1 f3 f4 f5;obtain⟨o,e,c,d⟩:=id st';exact⟨u,rfl,uo (s:={s with heap:=h'}) e c d tx ⟨x,H,I1,ru,⟨rfl,λys hy=>by rw [I.tuple_inj hy hq];exact hx⟩,st',λb hb=>(hf b hb).1⟩⟩
 done:=by
  intro X hP hw hK hc i Ys s σ H E I hf st hg;subst hP hw hK;obtain⟨xs,hq,hx⟩:=hg;obtain⟨its,rv,p,hz⟩:=I.tuple hq;obtain⟨f0,f1,f2,f3,f4,f5⟩:=hf it Wv;have hl:=rv.length;exact wpAny_pyNext_tuple_end (I.ok.hd hc) st (show s.heap.IsTuple a its.toArray from p) (by simp;omega) λh' eb=>⟨rfl,I.turned (t':=s.toks) (λb o hb e=>eb b o hb e) f0 f1 f3 f4 f5⟩
 self:=λ_ _ _ _ _ st h=>wpAny_pyIter_tupleiter st h
theorem Hg{P:WM}{w:WO}{K:Pt}{tg:WI}(it:WA)(lo:Int)(n:Nat):pZ P w K tg (nK lo n) [it] it (λi h=>IsRangeIter h it (lo+(i:Nat)*1) ((n:Int) - (i:Nat)) 1) where
 mem:=Wv
 obj:=λi h st b hb=>by
  have e:b=it:=by simpa using hb
  subst e;exact⟨_,st,λv z=>by
   have z':Data.fields _=Data.cell v:=z;cases z'⟩
 keep:=λi h h' st k=>k it Wv _ st
 item:=by
  intro X hP hw hK hc i Ys s σ H E I hf st hg;subst hP hw hK;obtain⟨f0,f1,f2,f3,f4,f5⟩:=hf it Wv;have W:=Walks.range (prog:=X.prog) (w:=X.w) (I.ok.hd hc) it lo 1 n;refine W.item i s _ _ hg st λv h' tk hv st' kk=>?_;obtain⟨t,rfl⟩:=hv;have I1:ag X Ys σ H {s with heap:=h',toks:=tk}:=I.turned (λb o hb e=>kk b o (by simpa using hb) e) f0 f1 f3 f4 f5;refine⟨_,rfl,uo (s:={s with heap:=h',toks:=tk}) (n:="range_iterator") st' rfl rfl tx ⟨.int (lo+i),H,I1,⟨t,?_⟩,⟨rfl,rfl⟩,st',λb hb=>(hf b hb).1⟩⟩;rw [Int.mul_one]
 done:=by
  intro X hP hw hK hc i Ys s σ H E I hf st hg;subst hP hw hK;obtain⟨f0,f1,f2,f3,f4,f5⟩:=hf it Wv;exact wpAny_pyNext_range_end (I.ok.hd hc) st (by have:n<=i:=hg;omega) λh' eb=>⟨rfl,I.turned (t':=s.toks) (λb o hb e=>eb b o hb e) f0 f1 f3 f4 f5⟩
 self:=λ_ _ _ _ _ st h=>wpAny_pyIter_rangeiter st h
section
variable {X:Cx} {tg:WI}
def wQ(K:Pt)(tl:TE):TI:=λσ H R=>tl σ H λx H1=>∃a,x= .ref a/\(∃xs,bg K H1 a xs)/\R (sH K a) H1
def wR(K:Pt)(tl:TE):TI:=λσ H R=>tl σ H λx H1=>∃a,x= .ref a/\(∃xs,aZ K H1 a xs)/\R (sI K a) H1
theorem uq{l:WI}{tl:TE}(hl:PE X l tl):PI X tg l (wQ X.K tl):=by
 intro Ys s σ H R I h;refine aC (hl Ys s σ H _ I h) λv s1 ⟨x,H1,I1,r1,q1⟩=>?_;obtain⟨a,e,⟨xs,hq⟩,q⟩:=q1;subst e;cases r1;obtain⟨its,rv,p,hz⟩:=I1.list hq;refine Yo p.isList ?_;refine⟨s1.heap.objs.size,[s1.heap.objs.size],_,_,H1,rfl,I1.kept (t':=s1.toks) λb o e=>PB _ e,He a _,⟨_,Qi _ rfl,rfl,rfl⟩,λb hb=>?_,q⟩;have e:b=s1.heap.objs.size:=by simpa using hb
 subst e;exact I1.fpOk (PQ _) (I1.hok.fresh (PQ _))
theorem B6{l:WI}{tl:TE}(hl:PE X l tl):PI X tg l (wR X.K tl):=by
 intro Ys s σ H R I h;refine aC (hl Ys s σ H _ I h) λv s1 ⟨x,H1,I1,r1,q1⟩=>?_;obtain⟨a,e,⟨xs,hq⟩,q⟩:=q1;subst e;cases r1;obtain⟨its,rv,p,hz⟩:=I1.tuple hq;refine Yg (show s1.heap.IsTuple a its.toArray from p) ?_;refine⟨s1.heap.objs.size,[s1.heap.objs.size],_,_,H1,rfl,I1.kept (t':=s1.toks) λb o e=>PB _ e,Hf a _,⟨_,Qi _ rfl,rfl,rfl⟩,λb hb=>?_,q⟩;have e:b=s1.heap.objs.size:=by simpa using hb
 subst e;exact I1.fpOk (PQ _) (I1.hok.fresh (PQ _))
theorem B7{Ys:List (WA×Obj)}{σ:St}{H:Hp}{s:WB}{R:It->Hp->Prop}{E:Wx->WB->Prop}{lo hi:Int}{t u v:Tok}{tk:Nat}(I:ag X Ys σ H s)(h1:-(2 ^ 62)<=lo)(h2:lo < 2 ^ 62)(h3:-(2 ^ 62)<=hi)(h4:hi < 2 ^ 62)
 (q:R (nK lo (hi - lo).toNat) H):WD (WE X.prog X.w) X.A (pyIter (.ref s.heap.objs.size)) (B5 X Ys σ tg R) E {s with heap:=s.heap.push {cls:= .type "range",data:= .fields #[.int lo t,.int hi u,.int 1 v]},toks:=tk}:=by
 refine wpAny_pyIter_range (IsRange.new ..) (small_one h1 h2 h3 h4) ?_;have I1:ag X Ys σ H {s with heap:=s.heap.push {cls:= .type "range",data:= .fields #[.int lo t,.int hi u,.int 1 v]},toks:=tk}:=I.kept λb o e=>PB _ e;refine⟨(s.heap.push {cls:= .type "range",data:= .fields #[.int lo t,.int hi u,.int 1 v]}).objs.size,[(s.heap.push {cls:= .type "range",data:= .fields #[.int lo t,.int hi u,.int 1 v]}).objs.size],_,_,H,rfl,
  I1.kept (t':=tk) λb o e=>PB _ e,Hg _ lo (hi - lo).toNat,?_,λb hb=>?_,q⟩
 ·have e1:lo+((0:Nat):Int)*1=lo:=Wv
  have e2:(((hi - lo).toNat:Nat):Int) - ((0:Nat):Int)=Builtin.Range.rangeSize lo hi 1:=by rw [rangeSize_one];split <;> omega
  show IsRangeIter _ _ (lo+((0:Nat):Int)*1) ((((hi - lo).toNat:Nat):Int) - ((0:Nat):Int)) 1;rw [e1,e2];exact Qi _ rfl
 ·have e:b=(s.heap.push {cls:= .type "range",data:= .fields #[.int lo t,.int hi u,.int 1 v]}).objs.size:=by simpa using hb
  subst e;exact I1.fpOk (PQ _) (I1.hok.fresh (PQ _))
def wU(ta:TA):TI:=λσ H R=>ta σ H λvs H1=>∃j:Int,vs=[.int j]/\-(2 ^ 62)<=j/\j < 2 ^ 62/\R (nK 0 j.toNat) H1
def wV(ta:TA):TI:=λσ H R=>ta σ H λvs H1=>∃i j:Int,vs=[.int i,.int j]/\(-(2 ^ 62)<=i/\i < 2 ^ 62/\-(2 ^ 62)<=j/\j < 2 ^ 62)/\R (nK i (j - i).toNat) H1
theorem B8{a:WI}{ta:TA}{p pos:Pos}(hg:Gl X "range")(hm:X.mg "range"=none)(ha:PA X [a] ta)(hs:WH [a] X.env=[(false,eval a X.env)]:=by rfl):PI X tg (.Call (.Name "range" p) [a] [] pos) (wU ta):=by
 intro Ys s σ H R I h;refine Call_ (pY I hg hm boot_range (R4 (aC (ha pos Ys s σ H _ I h) λus s1 ⟨vs,H1,I1,r1,q1⟩=>?_) hs rfl));obtain⟨j,e,q1,q2,q⟩:=q1;subst e;cases r1 with
 | cons r rr=>
  cases rr;obtain⟨t,rfl⟩:=r;exact call_range_1 (B7 I1 Ce Ce q1 q2 (by simpa using q))
theorem B9{a b:WI}{ta:TA}{p pos:Pos}(hg:Gl X "range")(hm:X.mg "range"=none)(ha:PA X [a,b] ta)(hs:WH [a,b] X.env=[(false,eval a X.env),(false,eval b X.env)]:=by rfl)(hs2:WH [b] X.env=[(false,eval b X.env)]:=by rfl):
 PI X tg (.Call (.Name "range" p) [a,b] [] pos) (wV ta):=by
 intro Ys s σ H R I h;refine Call_ (pY I hg hm boot_range (R4 (aC (ha pos Ys s σ H _ I h) λus s1 ⟨vs,H1,I1,r1,q1⟩=>?_) (by rw [hs,hs2]) (by rw [hs2];rfl)));obtain⟨i,j,e,⟨q1,q2,q3,q4⟩,q⟩:=q1;subst e;cases r1 with
 | cons r rr=>
  cases rr with
  | cons r' rr=>
   cases rr;obtain⟨t,rfl⟩:=r;obtain⟨t',rfl⟩:=r';exact call_range_2 (B7 I1 q1 q2 q3 q4 q)
def sJ(wi:TI)(g:TG)(tb:TS):TS:=λD σ H=>wi σ H λJ H1=>∃W:Nat->Nat->St->Hp->Prop,(∃m,W 0 m σ H1)/\∀i m σ H,W i m σ H->
 (J.stop i H/\D.nx σ H)\/(J.go i H/\∃N:St->Hp->Prop,(∀σ' H',N σ' H'->∃m',m' < m/\W (i+1) m' σ' H')/\∀x H',J.yld i H x H'->g x σ H' λσ2 H2=>tb {D with nx:=N,ct:=N,bk:=D.nx} σ2 H2)
def sL(fp:List WA)(h:WL):List (WA×Obj):=fp.filterMap λb=>(h.get? b).map λo=>(b,o)
theorem ur{fp:List WA}{h:WL}{b:WA}{o:Obj}(hb:b∈fp)(e:h.get? b=some o):(b,o)∈sL fp h:=T2.mpr ⟨b,hb,by rw [e];rfl⟩
theorem Hh{fp:List WA}{h:WL}{p:WA×Obj}(hp:p∈sL fp h):p.1∈fp/\h.get? p.1=some p.2:=by
 obtain⟨b,hb,e⟩:=T2.mp hp;cases q:h.get? b with
 | none=>rw [q] at e;cases e
 | some o=>
  rw [q] at e;have e':(b,o)=p:=Rk e;subst e';exact⟨hb,q⟩
theorem ag.pinned{Ys:List (WA×Obj)}{σ:St}{H:Hp}{s:WB}{fp:List WA}(I:ag X Ys σ H s)(hf:∀b∈fp,mQ X Ys H b)(ho:∀b∈fp,∃o,s.heap.get? b=some o/\∀v,o.data≠ .cell v):ag X (Ys++sL fp s.heap) σ H s:=
 I.pins_of λp hp=>(Rt.mp hp).elim (λz=>I.pin p (Ru _ z)) λz=>by
  obtain⟨hb,e⟩:=Hh z;obtain⟨f0,f1,f2,_⟩:=hf p.1 hb;obtain⟨o,e',d⟩:=ho p.1 hb;rw [e] at e';cases e';exact⟨e,f0,f1,f2,d⟩
theorem ag.unpinned{Ys pl:List (WA×Obj)}{σ:St}{H:Hp}{s:WB}(I:ag X (Ys++pl) σ H s):ag X Ys σ H s:=I.pins_of λp hp=>I.pin p (Ru _ (UX _ hp))
theorem sM{iter:WI}{body:List WQ}{wi:TI}{g:TG}{tb:TS}{pos:Pos}(hp:XO (WE X.prog X.w) X.A X.env X.xe)(hc:X.calm=true)(hi:PI X tg iter wi)(hg:PG X tg g)(hb:bG X body tb)
 (hs:∀x,WT iter X.env x=pure x:=by intro _;rfl):PS X (.For tg iter body [] pos) (sJ wi g tb):=by
 intro Ys s σ H D I h;refine wpAny_For (aC (hi Ys s σ H _ I h) λv s1 h1=>aC h1 λitv s2 h2=>?_) hs;obtain⟨it,fp,tn,J,H2,e,I2,T,st2,f2,W,⟨m0,w0⟩,turn⟩:=h2;subst e;have stat:∀{H':Hp},(∀b∈fp,H' b=none)->∀b∈fp,mQ X Ys H' b:=λhn b hb=>⟨hn b hb,(f2 b hb).2⟩;refine codeAny_forLoop_any (λn s'=>∃i σ' H',ag X Ys σ' H' s'/\tn i s'.heap/\(∀b∈fp,H' b=none)/\W i n σ' H') ?_ m0 ⟨0,σ,H2,I2,st2,λb hb=>(f2 b hb).1,w0⟩;rintro n s3 ⟨i,σ3,H3,I3,st3,fr3,w3⟩;rcases turn i n σ3 H3 w3 with⟨stop,qn⟩ | ⟨go,N,hN,step⟩
 ·refine Xl hp (aC (T.done X rfl rfl rfl hc i Ys s3 σ3 H3 X.xe I3 (stat fr3) st3 stop) λr s4 ⟨hr,I4⟩=>?_);subst hr;exact XB ⟨σ3,H3,I4,qn⟩
 ·refine Xl hp (aC (T.item X rfl rfl rfl hc i Ys s3 σ3 H3 X.xe I3 (stat fr3) st3 go) λr s4 ⟨u,hr,h4⟩=>?_);subst hr;refine Xl hp (aC h4 λ_ s5 ⟨x,H5,I5,r5,y5,st5,fr5⟩=>?_);have I5':=I5.pinned (stat fr5) (T.obj _ _ st5);refine Xl hp (aC (hg _ s5 σ3 H5 x u _ I5' r5 (step x H5 y5)) λ_ s6 ⟨σ6,H6,I6,q6⟩=>?_);refine Xl hp (aC (hb _ s6 σ6 H6 _ I6 q6) λf s7 q7=>?_);have again:∀{σ7:St}{H7:Hp},ag X (Ys++sL fp s5.heap) σ7 H7 s7->N σ7 H7->∃m,m < n/\∃i σ' H',ag X Ys σ' H' s7/\tn i s7.heap/\(∀b∈fp,H' b=none)/\W i m σ' H':=λ{σ7 H7} I7 n7=>by
   obtain⟨m',hm,w7⟩:=hN σ7 H7 n7;refine⟨m',hm,i+1,σ7,H7,I7.unpinned,T.keep _ _ _ st5 λb hb o e=>(I7.pin (b,o) (Ru _ (Ru _ (ur hb e)))).1,λb hb=>?_,w7⟩;obtain⟨o,e,d⟩:=T.obj _ _ st5 b hb;exact(I7.pin (b,o) (Ru _ (Ru _ (ur hb e)))).2.1
  cases f with
  | next=>obtain⟨σ7,H7,I7,n7⟩:=q7;exact again I7 n7
  | cont=>obtain⟨σ7,H7,I7,n7⟩:=q7;exact again I7 n7
  | brk=>obtain⟨σ7,H7,I7,q7⟩:=q7;exact⟨σ7,H7,I7.unpinned,q7⟩
  | ret v=>obtain⟨x7,σ7,H7,I7,r7,q7⟩:=q7;exact⟨x7,σ7,H7,I7.unpinned,r7,q7⟩
end
abbrev R2:=V->V->Hp->VK->Prop
def bD(X:Cx)(f:Wx->Wx->Sem Wx)(r:R2):Prop:=
 ∀(Ys:List (WA×Obj))(s:WB)(σ:St)(H:Hp)(x y:V)(v u:Wx)(Q:VK),ag X Ys σ H s->aJ x v->aJ y u->r x y H Q->
  WD (WE X.prog X.w) X.A (f v u) (EP X Ys σ Q) X.xe s
def wX(X:Cx)(f:Wx->Sem Wx)(r:V->Hp->VK->Prop):Prop:=
 ∀(Ys:List (WA×Obj))(s:WB)(σ:St)(H:Hp)(x:V)(v:Wx)(Q:VK),ag X Ys σ H s->aJ x v->r x H Q->
  WD (WE X.prog X.w) X.A (f v) (EP X Ys σ Q) X.xe s
def kB(X:Cx)(f:Wx)(r:List V->Hp->VK->Prop):Prop:=
 ∀(Ys:List (WA×Obj))(s:WB)(σ:St)(H:Hp)(xs:List V)(us:List Wx)(Q:VK),ag X Ys σ H s->aM xs us->r xs H Q->
  WD (WE X.prog X.w) X.A (call f us) (EP X Ys σ Q) X.xe s
def Hi(X:Cx)(r:V->Hp->(Bool->Hp->Prop)->Prop):Prop:=
 ∀(Ys:List (WA×Obj))(s:WB)(σ:St)(H:Hp)(x:V)(v:Wx)(Q:Bool->Hp->Prop),ag X Ys σ H s->aJ x v->r x H Q->
  WD (WE X.prog X.w) X.A (truthy v) (TP X Ys σ Q) X.xe s
def p4(r:R2)(ta tb:TE):TE:=λσ H Q=>ta σ H λx H1=>tb σ H1 λy H2=>r x y H2 Q
def wY(r:V->Hp->VK->Prop)(ta:TE):TE:=λσ H Q=>ta σ H λx H1=>r x H1 Q
def rI(C:Int->Int->Prop)(g:Int->Int->V):R2:=λx y H Q=>∃i j,x= .int i/\y= .int j/\C i j/\Q (g i j) H
def mR(g:Int->Int->V):R2:=λx y H Q=>∃i j,x= .int i/\y= .int j/\Q (g i j) H
def rU(g:Int->V):V->Hp->VK->Prop:=λx H Q=>∃i,x= .int i/\Q (g i) H
section
variable {X:Cx} {a b c:WI} {ta tb tc:TE} {pos:Pos}
theorem wZ(ha:PE X a ta)(hb:PE X b tb){Ys:List (WA×Obj)}{s:WB}{σ:St}{H:Hp}{R:V->V->Hp->Prop}(I:ag X Ys σ H s)
 (h:ta σ H λx H1=>tb σ H1 λy H2=>R x y H2){Q:Wx->WB->Prop}{f:Wx->Wx->Sem Wx}
 (hf:∀v u s2 x y H2,ag X Ys σ H2 s2->aJ x v->aJ y u->R x y H2->WD (WE X.prog X.w) X.A (f v u) Q X.xe s2):
 WD (WE X.prog X.w) X.A (eval a X.env) (λv s₁=>WD (WE X.prog X.w) X.A (eval b X.env) (λu s₂=>WD (WE X.prog X.w) X.A (f v u) Q X.xe s₂) X.xe s₁) X.xe s:=by
 refine aC (ha Ys s σ H _ I h) λv s1 ⟨x,H1,I1,r1,q1⟩=>?_;refine aC (hb Ys s1 σ H1 _ I1 q1) λu s2 ⟨y,H2,I2,r2,q2⟩=>?_;exact hf v u s2 x y H2 I2 r1 r2 q2
theorem cw{op:Operator}{r:R2}(ho:bD X (Xc op) r)(ha:PE X a ta)(hb:PE X b tb):PE X (.BinOp a op b pos) (p4 r ta tb):=by
 intro Ys s σ H Q I h;exact wpAny_BinOp (wZ ha hb I h λv u s2 x y H2 I2 rx ry q=>ho Ys s2 σ H2 x y v u Q I2 rx ry q)
theorem Hj{op:UnaryOp}{r:V->Hp->VK->Prop}(ho:wX X (unaryOp op) r)(ha:PE X a ta):PE X (.UnaryOp op a pos) (wY r ta):=by
 intro Ys s σ H Q I h;exact UnaryOp_ (aC (ha Ys s σ H _ I h) λv s1 uu34=>by obtain⟨x,H1,I1,r1,q1⟩:=uu34;exact ho Ys s1 σ H1 x v Q I1 r1 q1)
theorem sN{f:Wx->Wx->Sem Wx}{C:Int->Int->Prop}{g:Int->Int->Int}
 (rule:∀(i j:Int) (t u:Tok) (s:WB) (Q:Wx->WB->Prop) (E:Wx->WB->Prop),C i j->Q (.int (g i j) s.toks) {s with toks:=s.toks+1}->WD (WE X.prog X.w) X.A (f (.int i t) (.int j u)) Q E s):
 bD X f (rI C λi j=>.int (g i j)):=by
 intro Ys s σ H x y v u Q I rx ry h;obtain⟨i,j,rfl,rfl,hc,q⟩:=h;obtain⟨t,rfl⟩:=rx;obtain⟨t',rfl⟩:=ry;exact rule i j t t' s _ _ hc ⟨.int (g i j),H,I.tok _,⟨_,rfl⟩,q⟩
theorem Ca{f:Wx->Wx->Sem Wx}{g:Int->Int->Int}
 (rule:∀(i j:Int) (t u:Tok) (s:WB) (Q:Wx->WB->Prop) (E:Wx->WB->Prop),Q (.int (g i j) s.toks) {s with toks:=s.toks+1}->WD (WE X.prog X.w) X.A (f (.int i t) (.int j u)) Q E s):
 bD X f (mR λi j=>.int (g i j)):=by
 intro Ys s σ H x y v u Q I rx ry h;obtain⟨i,j,rfl,rfl,q⟩:=h;obtain⟨t,rfl⟩:=rx;obtain⟨t',rfl⟩:=ry;exact rule i j t t' s _ _ ⟨.int (g i j),H,I.tok _,⟨_,rfl⟩,q⟩
theorem uu{f:Wx->Wx->Sem Wx}{g:Int->Int->Bool}
 (rule:∀(i j:Int) (t u:Tok) (s:WB) (Q:Wx->WB->Prop) (E:Wx->WB->Prop),Q (.bool (g i j)) s->WD (WE X.prog X.w) X.A (f (.int i t) (.int j u)) Q E s):
 bD X f (mR λi j=>.bl (g i j)):=by
 intro Ys s σ H x y v u Q I rx ry h;obtain⟨i,j,rfl,rfl,q⟩:=h;obtain⟨t,rfl⟩:=rx;obtain⟨t',rfl⟩:=ry;exact rule i j t t' s _ _ ⟨.bl (g i j),H,I,rfl,q⟩
def bZ(i j:Int):Prop:=0 < j/\j < 1073741824
def cC(i j:Int):Prop:=0<=j/\j<=1000000/\i.natAbs < 2 ^ 64
def b0(i j:Int):Prop:=(-(2 ^ 64) < i/\i < 2 ^ 64)\/(-(2 ^ 64) < j/\j < 2 ^ 64)
theorem b0.ok{i j:Int}(h:b0 i j):IntMulOk i j:=by
 rcases h with⟨h1,h2⟩ | ⟨h1,h2⟩
 ·exact .of_left (intBits_le_64 h1 h2)
 ·exact .of_right (intBits_le_64 h1 h2)
theorem cD:bD X (Xc .Add) (mR λi j=>.int (i+j)):=Ca λ_ _ _ _ _ _ _ q=>add_int q
theorem lh:bD X (Xc .Sub) (mR λi j=>.int (i - j)):=Ca λ_ _ _ _ _ _ _ q=>sub_int q
theorem qQ:bD X (Xc .Mult) (rI b0 λi j=>.int (i*j)):=sN λ_ _ _ _ _ _ _ hc q=>mul_int q hc.ok
theorem oj:bD X (Xc .FloorDiv) (rI bZ λi j=>.int (i / j)):=sN λi j _ _ _ _ _ hc q=>by
 have h1:(0:Int) < j:=hc.1;have h2:j < 1073741824:=hc.2;exact floordiv_int Ce (by rw [T9 i Ce];exact q) (.inl (UH Ce))
theorem om:bD X (Xc .Mod) (rI (λ_ j=>0 < j) λi j=>.int (i % j)):=sN λi j _ _ _ _ _ hc q=>by
 have h1:(0:Int) < j:=hc;exact mod_int' Ce (by rw [Ua i Ce];exact q)
theorem Hk:bD X (Xc .Pow) (rI cC λi j=>.int (i ^ j.toNat)):=sN λ_ _ _ _ _ _ _ hc q=>pow_int_small hc.1 hc.2.1 hc.2.2 q
theorem Hl{f:Wx->Sem Wx}{g:Int->Int}
 (rule:∀(i:Int) (t:Tok) (s:WB) (Q:Wx->WB->Prop) (E:Wx->WB->Prop),Q (.int (g i) s.toks) {s with toks:=s.toks+1}->WD (WE X.prog X.w) X.A (f (.int i t)) Q E s):
 wX X f (rU λi=>.int (g i)):=by
 intro Ys s σ H x v Q I rx h;obtain⟨i,rfl,q⟩:=h;obtain⟨t,rfl⟩:=rx;exact rule i t s _ _ ⟨.int (g i),H,I.tok _,⟨_,rfl⟩,q⟩
theorem Hm:wX X (unaryOp .USub) (rU λi=>.int (-i)):=Hl λ_ _ _ _ _ q=>neg_int q
end
def pd:V->V->Bool
 | .non,.non=>true | .non,.int _=>true | .int _,.non=>true | .non,.bl _=>true | .bl _,.non=>true | .non,.str _=>true | .str _,.non=>true
 | .int _,.int _=>true | .bl _,.bl _=>true | .str _,.str _=>true | .byt _,.byt _=>true
 | .int _,.str _=>true | .str _,.int _=>true | .bl _,.str _=>true | .str _,.bl _=>true
 | _,_=>false
def xK:R2:=λx y H Q=>pd x y=true/\Q (.bl (decide (x=y))) H
def xM:R2:=λx y H Q=>pd x y=true/\Q (.bl (!decide (x=y))) H
theorem Cb{i j:Int}:decide (V.int i=V.int j)=(i==j):=by
 rw [RO];simp
theorem Cc{i j:Bool}:decide (V.bl i=V.bl j)=(i==j):=by
 rw [RO];simp
theorem Cd{i j:Str}:decide (V.str i=V.str j)=(i==j):=by
 rw [RO];simp
theorem Cf{i j:Array UInt8}:decide (V.byt i=V.byt j)=(i.toList==j.toList):=by
 rw [RO];cases i;cases j;simp
section
variable {X:Cx} {a b c:WI} {ta tb tc:TE} {pos:Pos}
theorem bH{Ys:List (WA×Obj)}{σ:St}{H:Hp}{s:WB}{Q:VK}{k k':Bool}(I:ag X Ys σ H s)(q:Q (.bl k) H)(e:k=k'):EP X Ys σ Q (.bool k') s:=by
 subst e;exact⟨.bl k,H,I,rfl,q⟩
theorem uw:bD X (WS .Eq) xK:=by
 intro Ys s σ H x y v u Q I rx ry h;obtain⟨hs,q⟩:=h;cases x with
 | non=>
  cases rx;cases y with
  | non=>cases ry;exact PySem.EqNone.eq_none_none (bH I q Wv)
  | bl j=>cases ry;exact PySem.EqNone.eq_none_bool (bH I q Wv)
  | int j=>obtain⟨t',rfl⟩:=ry;exact PySem.EqNone.eq_none_int (bH I q Wv)
  | str j=>obtain⟨t',rfl⟩:=ry;exact PySem.EqNone.eq_none_str (bH I q Wv)
  | _=>exact absurd (show false=true from hs) Qx
 | bl i=>
  cases rx;cases y with
  | non=>cases ry;exact PySem.EqNone.eq_bool_none (bH I q Wv)
  | bl j=>cases ry;exact eq_bool (bH I q Cc)
  | str j=>obtain⟨t',rfl⟩:=ry;exact PySem.EqMixed.eq_bool_str (bH I q Wv)
  | _=>exact absurd (show false=true from hs) Qx
 | int i=>
  obtain⟨t,rfl⟩:=rx;cases y with
  | non=>cases ry;exact PySem.EqNone.eq_int_none (bH I q Wv)
  | int j=>obtain⟨t',rfl⟩:=ry;exact eq_int (bH I q Cb)
  | str j=>obtain⟨t',rfl⟩:=ry;exact PySem.EqMixed.eq_int_str (bH I q Wv)
  | _=>exact absurd (show false=true from hs) Qx
 | str i=>
  obtain⟨t,rfl⟩:=rx;cases y with
  | non=>cases ry;exact PySem.EqNone.eq_str_none (bH I q Wv)
  | bl j=>cases ry;exact PySem.EqMixed.eq_str_bool (bH I q Wv)
  | int j=>obtain⟨t',rfl⟩:=ry;exact PySem.EqMixed.eq_str_int (bH I q Wv)
  | str j=>obtain⟨t',rfl⟩:=ry;exact eq_str (bH I q Cd)
  | _=>exact absurd (show false=true from hs) Qx
 | byt i=>
  obtain⟨t,rfl⟩:=rx;cases y with
  | byt j=>obtain⟨t',rfl⟩:=ry;exact PySem.W.eq_bytes (bH I q Cf)
  | _=>exact absurd (show false=true from hs) Qx
 | _=>cases y <;> exact absurd (show false=true from hs) Qx
theorem Hn:bD X (WS .NotEq) xM:=by
 intro Ys s σ H x y v u Q I rx ry h;obtain⟨hs,q⟩:=h;cases x with
 | non=>
  cases rx;cases y with
  | non=>cases ry;exact PySem.EqNone.ne_none_none (bH I q Wv)
  | bl j=>cases ry;exact PySem.EqNone.ne_none_bool (bH I q Wv)
  | int j=>obtain⟨t',rfl⟩:=ry;exact PySem.EqNone.ne_none_int (bH I q Wv)
  | str j=>obtain⟨t',rfl⟩:=ry;exact PySem.EqNone.ne_none_str (bH I q Wv)
  | _=>exact absurd (show false=true from hs) Qx
 | bl i=>
  cases rx;cases y with
  | non=>cases ry;exact PySem.EqNone.ne_bool_none (bH I q Wv)
  | bl j=>cases ry;exact ne_bool (bH I q (congrArg not Cc))
  | str j=>obtain⟨t',rfl⟩:=ry;exact PySem.EqMixed.ne_bool_str (bH I q Wv)
  | _=>exact absurd (show false=true from hs) Qx
 | int i=>
  obtain⟨t,rfl⟩:=rx;cases y with
  | non=>cases ry;exact PySem.EqNone.ne_int_none (bH I q Wv)
  | int j=>obtain⟨t',rfl⟩:=ry;exact ne_int (bH I q (congrArg not Cb))
  | str j=>obtain⟨t',rfl⟩:=ry;exact PySem.EqMixed.ne_int_str (bH I q Wv)
  | _=>exact absurd (show false=true from hs) Qx
 | str i=>
  obtain⟨t,rfl⟩:=rx;cases y with
  | non=>cases ry;exact PySem.EqNone.ne_str_none (bH I q Wv)
  | bl j=>cases ry;exact PySem.EqMixed.ne_str_bool (bH I q Wv)
  | int j=>obtain⟨t',rfl⟩:=ry;exact PySem.EqMixed.ne_str_int (bH I q Wv)
  | str j=>obtain⟨t',rfl⟩:=ry;exact ne_str (bH I q (congrArg not Cd))
  | _=>exact absurd (show false=true from hs) Qx
 | byt i=>
  obtain⟨t,rfl⟩:=rx;cases y with
  | byt j=>obtain⟨t',rfl⟩:=ry;exact PySem.W.ne_bytes (bH I q (congrArg not Cf))
  | _=>exact absurd (show false=true from hs) Qx
 | _=>cases y <;> exact absurd (show false=true from hs) Qx
theorem qR:bD X (WS .Lt) (mR λi j=>.bl (decide (i < j))):=uu λ_ _ _ _ _ _ _ q=>lt_int q
theorem ko:bD X (WS .LtE) (mR λi j=>.bl (decide (i<=j))):=uu λ_ _ _ _ _ _ _ q=>le_int q
theorem pe:bD X (WS .Gt) (mR λi j=>.bl (decide (j < i))):=uu λ_ _ _ _ _ _ _ q=>gt_int q
theorem Ho:bD X (WS .GtE) (mR λi j=>.bl (decide (j<=i))):=uu λ_ _ _ _ _ _ _ q=>ge_int q
theorem Hq:bD X (WS .Lt) (λx y H Q=>∃i j,x= .str i/\y= .str j/\Q (.bl (decide (i.cps.toList < j.cps.toList))) H):=by
 intro Ys s σ H x y v u Q I rx ry h;obtain⟨i,j,rfl,rfl,q⟩:=h;obtain⟨t,rfl⟩:=rx;obtain⟨t',rfl⟩:=ry;exact lt_str (bH I q rfl)
theorem ux:bD X (WS .In) (λx y H Q=>∃i j,x= .str i/\y= .str j/\Q (.bl (!(R1 j i 0 j.length 1).isEmpty)) H):=by
 intro Ys s σ H x y v u Q I rx ry h;obtain⟨i,j,rfl,rfl,q⟩:=h;obtain⟨t,rfl⟩:=rx;obtain⟨t',rfl⟩:=ry;exact in_str (bH I q rfl)
theorem qS:bD X (WS .Is) (λx y H Q=>y= .non/\Q (.bl (decide (x= .non))) H):=by
 intro Ys s σ H x y v u Q I rx ry h;obtain⟨rfl,q⟩:=h;cases ry;refine is_none_gen (bH I q ?_);cases x <;> first
  | (cases rx;rfl)
  | (obtain⟨t,rfl⟩:=rx;rfl)
theorem Cg:bD X (WS .IsNot) (λx y H Q=>y= .non/\Q (.bl (!decide (x= .non))) H):=by
 intro Ys s σ H x y v u Q I rx ry h;obtain⟨rfl,q⟩:=h;cases ry;refine isnot_none_gen (bH I q ?_);cases x <;> first
  | (cases rx;rfl)
  | (obtain⟨t,rfl⟩:=rx;rfl)
theorem av(b:WI){op:CmpOp}(h:op≠ .In:=by decide)(h2:op≠ .NotIn:=by decide):Xb op b=false:=by
 have e1:(op==CmpOp.In)=false:=by cases op <;> first | rfl | exact absurd rfl h
 have e2:(op==Wg)=false:=by cases op <;> first | rfl | exact absurd rfl h2
 cases b <;> simp [Xb,e1,e2]
theorem p5{op:CmpOp}{r:R2}(ho:bD X (WS op) r)(ha:PE X a ta)(hb:PE X b tb)(hm:Xb op b=false):PE X (.Compare a [op] [b] pos) (p4 r ta tb):=by
 intro Ys s σ H Q I h;exact wpAny_Compare1 (wZ ha hb I h λv u s2 x y H2 I2 rx ry q=>ho Ys s2 σ H2 x y v u Q I2 rx ry q) hm
def uy(t:TE):TT:=λσ H Q=>t σ H λx H'=>∃k,x= .bl k/\Q k H'
theorem p6{op:CmpOp}{r:R2}(ho:bD X (WS op) r)(ha:PE X a ta)(hb:PE X b tb)(hm:Xb op b=false):PT X (.Compare a [op] [b] pos) (uy (p4 r ta tb)):=by
 intro Ys s σ H Q I h;refine wpAny_isTrue_Compare1 (aC (ha Ys s σ H _ I h) λv s1 ⟨x,H1,I1,r1,q1⟩=>aC (hb Ys s1 σ H1 _ I1 q1) λu s2 ⟨y,H2,I2,r2,q2⟩=>
  aC (ho Ys s2 σ H2 x y v u _ I2 r1 r2 q2) λc s3 ⟨z,H3,I3,r3,k,e,q3⟩=>?_) hm
 subst e;cases r3;exact WY ⟨H3,I3,q3⟩
def uz(r r':R2)(ta tb tc:TE):TE:=λσ H Q=>ta σ H λx H1=>tb σ H1 λy H2=>r x y H2 λz H3=>∃k,z= .bl k/\
 (if k=true then tc σ H3 λw' H4=>r' y w' H4 Q else Q (.bl false) H3)
theorem Hr{op op':CmpOp}{r r':R2}(ho:bD X (WS op) r)(ho':bD X (WS op') r')(ha:PE X a ta)(hb:PE X b tb)(hc:PE X c tc)
 (hm:lastMarks [op,op'] [b,c]=false:=by with_unfolding_all rfl):PE X (.Compare a [op,op'] [b,c] pos) (uz r r' ta tb tc):=by
 intro Ys s σ H Q I h;refine Compare_chain (aC (ha Ys s σ H _ I h) λv s1 ⟨x,H1,I1,r1,q1⟩=>chain_link (aC (hb Ys s1 σ H1 _ I1 q1) λu s2 ⟨y,H2,I2,r2,q2⟩=>
  aC (ho Ys s2 σ H2 x y v u _ I2 r1 r2 q2) λd s3 ⟨z,H3,I3,r3,k,e,q3⟩=>?_)) hm
 subst e;cases r3;refine WY ?_;cases k with
 | false=>exact ite_ff ⟨.bl false,H3,I3,rfl,q3⟩
 | true=>exact ite_tt (chain_last (aC (hc Ys s3 σ H3 _ I3 q3) λw' s4 uu41=>by obtain⟨z',H4,I4,r4,q4⟩:=uu41;exact ho' Ys s4 σ H4 y z' u w' Q I4 r2 r4 q4))
theorem Hs{op op':CmpOp}{r r':R2}(ho:bD X (WS op) r)(ho':bD X (WS op') r')(ha:PE X a ta)(hb:PE X b tb)(hc:PE X c tc)
 (hm:lastMarks [op,op'] [b,c]=false:=by with_unfolding_all rfl):PT X (.Compare a [op,op'] [b,c] pos) (uy (uz r r' ta tb tc)):=by
 intro Ys s σ H Q I h;refine isTrue_chain (aC (ha Ys s σ H _ I h) λv s1 ⟨x,H1,I1,r1,q1⟩=>test_link (aC (hb Ys s1 σ H1 _ I1 q1) λu s2 ⟨y,H2,I2,r2,q2⟩=>
  aC (ho Ys s2 σ H2 x y v u _ I2 r1 r2 q2) λd s3 ⟨z,H3,I3,r3,k,e,q3⟩=>?_)) hm
 subst e;cases r3;refine WY ?_;cases k with
 | false=>
  obtain⟨k',e',q'⟩:=q3;cases e';exact ite_ff ⟨H3,I3,q'⟩
 | true=>
  refine ite_tt (test_last (aC (hc Ys s3 σ H3 _ I3 q3) λw' s4 ⟨z',H4,I4,r4,q4⟩=>aC (ho' Ys s4 σ H4 y z' u w' _ I4 r2 r4 q4) λd' s5 ⟨z2,H5,I5,r5,k2,e2,q5⟩=>?_));subst e2;cases r5;exact WY ⟨H5,I5,q5⟩
def Ci(K:Pt)(x:V)(H:Hp)(k:Bool):Prop:=
 match x with
 | .non=>k=false
 | .bl b=>k=b
 | .int i=>k=(i !=0)
 | .str y=>y.length<=WG/\k=((y.length:Int) !=0)
 | .byt y=>y.size<=WG/\k=((y.size:Int) !=0)
 | .ref p=>(∃xs,bg K H p xs/\k=!xs.isEmpty)\/(∃xs,aZ K H p xs/\k=!xs.isEmpty)\/∃kvs,H p=some (.dK kvs)/\k=!kvs.isEmpty
 | _=>False
theorem Ht{κ:Type}{kvs:List (κ×V)}{vs:List (κ×Wx)}(r:KV kvs vs):(!vs.isEmpty)=!kvs.isEmpty:=by
 cases r <;> rfl
theorem Cj{xs:List V}{its:List Wx}(r:aM xs its):(!its.toArray.isEmpty)=!xs.isEmpty:=by
 cases r <;> simp
theorem pf:(WG:Nat) < 2 ^ 63:=by rw [WN];decide
theorem Hu:Hi X (λx H Q=>∃k,Ci X.K x H k/\Q k H):=by
 intro Ys s σ H x v Q I rx h;obtain⟨k,e,q⟩:=h;have hl:=pf;have hs:WG=16777216:=WN;cases x with
 | non=>
  cases rx;have e':k=false:=e;subst e';exact truthy_none ⟨H,I,q⟩
 | bl b=>
  cases rx;have e':k=b:=e;subst e';exact WY ⟨H,I,q⟩
 | int i=>
  obtain⟨t,rfl⟩:=rx;have e':k=(i !=0):=e;subst e';exact PySem.P.truthy_int ⟨H,I,q⟩
 | str y=>
  obtain⟨t,rfl⟩:=rx;obtain⟨hy,e'⟩:y.length<=WG/\k=((y.length:Int) !=0):=e;subst e';exact PySem.P.truthy_str Ce ⟨H,I.tok _,q⟩
 | byt y=>
  obtain⟨t,rfl⟩:=rx;obtain⟨hy,e'⟩:y.size<=WG/\k=((y.size:Int) !=0):=e;subst e';exact PySem.W.truthy_bytes Ce ⟨H,I.tok _,q⟩
 | ref p=>
  cases rx;have e':(∃xs,bg X.K H p xs/\k=!xs.isEmpty)\/(∃xs,aZ X.K H p xs/\k=!xs.isEmpty)\/∃kvs,H p=some (.dK kvs)/\k=!kvs.isEmpty:=e;rcases e' with⟨xs,hx,e'⟩ | ⟨xs,hx,e'⟩ | ⟨kvs,hx,e'⟩
  ·subst e';obtain⟨its,r,pl,hz⟩:=I.list hx;have hlen:=r.length;exact wpAny_truthy_list pl.isList (by simp only [Qt];omega) ⟨H,I.tok _,by rw [Cj r];exact q⟩
  ·subst e';obtain⟨its,r,pl,hz⟩:=I.tuple hx;have hlen:=r.length;exact truthy_tuple pl (by simp only [Qt];omega) ⟨H,I.tok _,by rw [Cj r];exact q⟩
  ·subst e';obtain⟨hz,hS,vs,r,m⟩:kvs.length<=WG/\(p==sysModules)=false/\∃vs,KV kvs vs/\s.heap.DictOf (wk X.prog X.w) p vs:=I.hok p _ hx;have hlen:kvs.length=vs.length:=V0 r;exact wpAny_truthy_dict hS m Ce ⟨H,I.tok _,by rw [Ht r];exact q⟩
 | _=>exact(show False from e).elim
theorem Hv(ha:PE X a ta)(he:∀whole,isTrue a X.env whole=(do let v<-whole;standAt a.pos;X4 [v] (truthy v))):
 PT X a (λσ H Q=>ta σ H λx H'=>∃k,Ci X.K x H' k/\Q k H'):=by
 intro Ys s σ H Q I h;exact isTrue_plain (aC (ha Ys s σ H _ I h) λv s1 uu47=>by obtain⟨x,H1,I1,r1,q1⟩:=uu47;exact Hu Ys s1 σ H1 x v Q I1 r1 q1) (he _)
theorem sO:bD X (Xc .Add) (λx y H Q=>∃i j,x= .str i/\y= .str j/\i.length+j.length<=WG/\Q (.str (i++j)) H):=by
 intro Ys s σ H x y v u Q I rx ry h;obtain⟨i,j,rfl,rfl,hz,q⟩:=h;obtain⟨t,rfl⟩:=rx;obtain⟨t',rfl⟩:=ry;exact add_str (λt' tk=>⟨.str (i++j),H,I.tok _,⟨_,rfl⟩,q⟩) hz
theorem lj{x:V}{us:List Wx}(r:aM [x] us):∃u,us=[u]/\aJ x u:=by
 cases r with
 | cons r1 r2=>cases r2;exact⟨_,rfl,r1⟩
theorem p7{x y:V}{us:List Wx}(r:aM [x,y] us):∃u w',us=[u,w']/\aJ x u/\aJ y w':=by
 cases r with
 | cons r1 r2=>
  cases r2 with
  | cons r3 r4=>cases r4;exact⟨_,_,rfl,r1,r3⟩
theorem Hw(hc:X.calm=true):kB X (.builtin "max") (λxs H Q=>∃i j,xs=[.int i,.int j]/\Q (.int (if j > i then j else i)) H):=by
 intro Ys s σ H xs us Q I r h;obtain⟨i,j,rfl,q⟩:=h;obtain⟨u,w',rfl,⟨t,rfl⟩,⟨t',rfl⟩⟩:=p7 r;refine max_two_ints (I.ok.hd hc) λh' tk k=>⟨_,H,I.kept k,?_,q⟩;by_cases hj:j > i
 ·rw [Wt hj,Wt hj];exact⟨_,rfl⟩
 ·rw [Ws hj,Ws hj];exact⟨_,rfl⟩
theorem Ck(hc:X.calm=true):kB X (.builtin "min") (λxs H Q=>∃i j,xs=[.int i,.int j]/\Q (.int (if j < i then j else i)) H):=by
 intro Ys s σ H xs us Q I r h;obtain⟨i,j,rfl,q⟩:=h;obtain⟨u,w',rfl,⟨t,rfl⟩,⟨t',rfl⟩⟩:=p7 r;refine min_two_ints (I.ok.hd hc) λh' tk k=>⟨_,H,I.kept k,?_,q⟩;by_cases hj:j < i
 ·rw [Wt hj,Wt hj];exact⟨_,rfl⟩
 ·rw [Ws hj,Ws hj];exact⟨_,rfl⟩
theorem uA:kB X (.type "int") (λxs H Q=>(∃i,xs=[.int i]/\Q (.int i) H)\/∃k,xs=[.bl k]/\Q (.int (if k then 1 else 0)) H):=by
 intro Ys s σ H xs us Q I r h;rcases h with⟨i,rfl,q⟩ | ⟨k,rfl,q⟩
 ·obtain⟨u,rfl,t,rfl⟩:=lj r;exact call_int_int ⟨.int i,H,I,⟨_,rfl⟩,q⟩
 ·obtain⟨u,rfl,r1⟩:=lj r;cases r1;exact call_int_bool ⟨.int (if k then 1 else 0),H,I.tok _,⟨_,rfl⟩,q⟩
theorem oo:kB X (.type "str") (λxs H Q=>∃i,xs=[.int i]/\i.natAbs.log2 < 1920/\Q (.str (toString i)) H):=by
 intro Ys s σ H xs us Q I r h;obtain⟨i,rfl,hz,q⟩:=h;obtain⟨u,rfl,t,rfl⟩:=lj r;exact PySem.P.str_of_int hz ⟨.str _,H,I.tok _,⟨_,rfl⟩,q⟩
def Hx(K:Pt)(x:V)(H:Hp)(n:Nat):Prop:=
 match x with
 | .str y=>y.length<=WG/\n=y.length
 | .byt y=>y.size<=WG/\n=y.size
 | .ref p=>(∃xs,bg K H p xs/\n=xs.length)\/∃xs,aZ K H p xs/\n=xs.length
 | _=>False
theorem Hy:kB X (.builtin "len") (λxs H Q=>∃x n,xs=[x]/\Hx X.K x H n/\Q (.int n) H):=by
 intro Ys s σ H xs us Q I r h;obtain⟨x,n,rfl,e,q⟩:=h;obtain⟨u,rfl,rx⟩:=lj r;have hl:=pf;have hs:WG=16777216:=WN;cases x with
 | str y=>
  obtain⟨t,rfl⟩:=rx;obtain⟨hy,e'⟩:y.length<=WG/\n=y.length:=e;subst e';exact len_str Ce ⟨.int _,H,I.tok _,⟨_,rfl⟩,q⟩
 | byt y=>
  obtain⟨t,rfl⟩:=rx;obtain⟨hy,e'⟩:y.size<=WG/\n=y.size:=e;subst e';exact PySem.W.len_bytes Ce ⟨.int _,H,I.tok _,⟨_,rfl⟩,q⟩
 | ref p=>
  cases rx;have e':(∃xs,bg X.K H p xs/\n=xs.length)\/∃xs,aZ X.K H p xs/\n=xs.length:=e;rcases e' with⟨xs,hx,e'⟩ | ⟨xs,hx,e'⟩
  ·subst e';obtain⟨its,r',pl,hz⟩:=I.list hx;have hlen:=r'.length;exact U9 pl.isList (by simp only [Qt];omega) ⟨.int xs.length,H,I.tok _,⟨_,by simp only [Qt];rw [hlen]⟩,q⟩
  ·subst e';obtain⟨its,r',pl,hz⟩:=I.tuple hx;have hlen:=r'.length;exact len_tuple pl (by simp only [Qt];omega) ⟨.int xs.length,H,I.tok _,⟨_,by simp only [Qt];rw [hlen]⟩,q⟩
 | _=>exact(show False from e).elim
theorem Hz:kB X (.builtin "divmod") (λxs H Q=>∃i j,xs=[.int i,.int j]/\bZ i j/\∀p,H p=none->Q (.ref p) (ao H p (.tup [.int (i / j),.int (i % j)]))):=by
 intro Ys s σ H xs us Q I r h;obtain⟨i,j,rfl,⟨h1,h2⟩,q⟩:=h;obtain⟨u,w',rfl,⟨t,rfl⟩,⟨t',rfl⟩⟩:=p7 r;refine divmod_int Ce ?_ (.inl (UH Ce));rw [T9 i Ce,Ua i Ce];have hn:H s.heap.objs.size=none:=I.hok.fresh (PQ _);refine⟨.ref s.heap.objs.size,_,?_,rfl,q _ hn⟩;refine I.laid (λb o e=>PB _ e) (PQ _) ⟨by simp only [Px,P5];rw [WN];decide,[.int (i / j) s.toks,.int (i % j) (s.toks+1)],.cons ⟨_,rfl⟩ (.cons ⟨_,rfl⟩ .nil),?_⟩;exact⟨_,Qi s.heap rfl,rfl,0,rfl⟩
end
structure xN (h:WL) (x dx C:WA) (mA:Str->Option Wx):Prop where
 obj:h.get? x=some (UB C dx)
 ns:h.Ns1 dx mA
 ne:dx≠x
theorem Cm{h:WL}{dx:WA}{mA:Str->Option Wx}(n:h.Ns1 dx mA):∃od,h.get? dx=some od/\∀name,UJ name od=some (mA name):=by
 obtain⟨o,es,ep,ho,hd,hk,_,hm⟩:=n;refine⟨o,ho,λname=>?_⟩;have e:=hm name;unfold nsFind findBy at e;rw [<-Array.find?_toList] at e;unfold UJ;rw [hd];dsimp only;split
 ·rename_i y q;rw [q] at e;exact congrArg some e
 ·rename_i q;rw [q] at e;have a:es.toList.any (·.refKey)=false:=by
   rw [List.any_eq_false];intro y hy;obtain⟨z,t,hkey⟩:=hk y (Array.mem_toList_iff.mp hy);simp [DictEntry.refKey,hkey]
  have a':¬es.toList.any (·.refKey)=true:=by rw [a];exact Qx
  rw [Ws a'];exact congrArg some e
theorem xN.look{h:WL}{x dx C:WA}{mA:Str->Option Wx}(I:xN h x dx C mA):∃od,S4 h x (UB C dx) C (some od)/\∀name,UJ name od=some (mA name):=
 let ⟨od,ho,hl⟩:=Cm I.ns
 ⟨od,⟨I.obj,rfl,rfl,ho⟩,hl⟩
theorem qL.some_of{v:V}{o:Option Wx}(r:qL (some v) o):∃u,o=some u/\aJ v u:=by
 cases o with
 | none=>exact(show False from r).elim
 | some u=>exact⟨u,rfl,r⟩
section
variable {P:WM} {w:WO} {H H':Hp} {h h':WL} {a C dx:WA} {fs fs':List (Str×V)}
theorem HA(hok:bV P w H h)(e:H a=some (.ins C dx fs)):∃mA,xN h a dx C mA/\(∀f,qL (fs.lookup f) (mA f))/\V5 mA (fs.map (·.1))/\fs.length<=1000/\H dx=some (.own a):=by
 obtain⟨d,z,ne,ob,mA,n,r,q⟩:=(show bL P w H h a (.ins C dx fs) from hok a _ e);exact⟨mA,⟨ob,n,ne⟩,r,q,z,d⟩
end
structure xO (K:Pt) (C:WA):Prop where
 pg:VB K C TR=true
 hd:Ui K C=true
 po:PySem.W.plainOver K C=true
 sa:Rp K (.ref C) "__setattr__"=some (some (.builtin "object.__setattr__"))
theorem xO.get{K:Pt}{C:WA}(c:xO K C)(f:Str):VB K C f=true:=c.pg
section
variable {X:Cx} {Ys:List (WA×Obj)} {σ:St} {H:Hp} {s:WB} {a C dx:WA} {fs:List (Str×V)} {f:Str} {v:V} {A:WR} {E:Wx->WB->Prop}
theorem HB{prog:WM}{w:WO}{env:Env}{e:WI}{f:Str}{pos:Pos}{s:WB}{Q:Wx->WB->Prop}(hb:Xn e f env (eval e env)=eval e env)
 (h:WD (WE prog w) A (eval e env) (λo s₁=>WD (WE prog w) A (getAttr o f true) Q E s₁) E s):WD (WE prog w) A (eval (.Attribute e f pos) env) Q E s:=
 Attribute_any_ h (by rw [arm_eval_Attribute,hb])
end
section
variable {X:Cx} {Ys:List (WA×Obj)} {σ:St} {H:Hp} {s:WB} {A:WR} {E:Wx->WB->Prop} {Q:Wx->WB->Prop} {c:Wx} {b:Bool}
inductive mB (K:Pt) (H:Hp):V->Wx->Prop where
 | non:mB K H .non (.type "NoneType")
 | bl (x:Bool):mB K H (.bl x) (.type "bool")
 | int (i:Int):mB K H (.int i) (.type "int")
 | str (x:Str):mB K H (.str x) (.type "str")
 | flt (x:UInt64):mB K H (.flt x) (.type "float")
 | lst {a:WA} {xs:List V} (e:H a=some (.lst xs)):mB K H (.ref a) (.type "list")
 | frz {a:WA} {o:Obj} {xs:List V} (e:H a=some (.frz o (.lst xs))):mB K H (.ref a) (.type "list")
 | tup {a:WA} {xs:List V} (e:H a=some (.tup xs)):mB K H (.ref a) (.type "tuple")
 | dK {a:WA} {kvs:List (br×V)} (e:H a=some (.dK kvs)):mB K H (.ref a) (.type "dict")
 | dT {a:WA} {kvs:List (List br×V)} (e:H a=some (.dT kvs)):mB K H (.ref a) (.type "dict")
 | ins {a C dx:WA} {fs:List (Str×V)} (e:H a=some (.ins C dx fs)) (cl:xO K C) (ha:Rp K (.ref C) "__class__"=some (some (.builtin "object.__class__")))
  (hn:SX K (.builtin "object.__class__") "__get__"=some (some (.builtin "getset_descriptor.__get__"))) (htk:UC K (.builtin "object.__class__")=some true)
  (hm:RS K C (.type "object")=some true):mB K H (.ref a) (.ref C)
theorem HC{x:V}{u t:Wx}(I:ag X Ys σ H s)(rx:aJ x u)(ty:mB X.K H x t)(e:SH X.K t c=some b)(h:∀tk,Q (.bool b) {s with toks:=tk}):
 WD (WE X.prog X.w) A (call (.builtin "isinstance") [u,c]) Q E s:=by
 cases ty with
 | non=>cases (show u=RX from rx);exact RF PySem.W.kitx_none I.kIn RM e (λz=>nomatch z) h
 | bl y=>cases (show u=Sr y from rx);exact RF PySem.W.kitx_bool I.kIn RM e (λz=>nomatch z) h
 | int i=>obtain⟨t,q⟩:=(show ∃t,u=TQ i t from rx);cases q;exact RF PySem.W.kitx_int I.kIn RM e (λz=>nomatch z) h
 | str y=>obtain⟨t,q⟩:=(show ∃t,u=S7 y t from rx);cases q;exact RF PySem.W.kitx_str I.kIn RM e (λz=>nomatch z) h
 | flt y=>obtain⟨t,q⟩:=(show ∃t,u=Wf y t from rx);cases q;exact RF PySem.W.kitx_float I.kIn RM e (λz=>nomatch z) h
 | @lst a xs ea=>
  cases (show u=QJ a from rx);obtain⟨_,_,n,_,h1⟩:=(show bL X.prog X.w H s.heap a (.lst xs) from I.hok a _ ea);exact RF Vq I.kIn ⟨_,h1,rfl⟩ e (λz=>nomatch z) h
 | @frz a ob xs ea=>
  cases (show u=QJ a from rx);obtain⟨_,_,_,n,_,h1⟩:=(show bL X.prog X.w H s.heap a (.frz ob (.lst xs)) from I.hok a _ ea);exact RF Vq I.kIn ⟨_,h1,rfl⟩ e (λz=>nomatch z) h
 | @tup a xs ea=>
  cases (show u=QJ a from rx);obtain⟨_,_,_,p⟩:=(show bL X.prog X.w H s.heap a (.tup xs) from I.hok a _ ea);obtain⟨o,h1,h2,_⟩:=p;exact RF PySem.W.kitx_tuple I.kIn ⟨o,h1,h2⟩ e (λz=>nomatch z) h
 | @dK a kvs ea=>
  cases (show u=QJ a from rx);obtain⟨_,_,vs,_,p⟩:=(show bL X.prog X.w H s.heap a (.dK kvs) from I.hok a _ ea);obtain⟨o,es,ep,h1,h2,_⟩:=p;exact RF Vr I.kIn ⟨o,h1,h2.1⟩ e (λz=>nomatch z) h
 | @dT a kvs ea=>
  cases (show u=QJ a from rx);obtain⟨_,_,xs,_,o,es,ep,h1,h2,_⟩:=(show bL X.prog X.w H s.heap a (.dT kvs) from I.hok a _ ea);exact RF Vr I.kIn ⟨o,h1,h2.1⟩ e (λz=>nomatch z) h
 | @ins a C dx fs ea cl ha hn htk hm=>
  cases (show u=QJ a from rx);obtain⟨mA,O,_⟩:=HA I.hok ea;obtain⟨od,J,_⟩:=O.look;exact RF (PySem.W.kitx_own (cl.get _) cl.hd ha hn htk hm) I.kIn J e (λz=>nomatch z) h
end
structure bQ (k:Nat) (A:WR):Prop where
 hd:A.handled=none
 dp:A.depth+3*k+5 < recursionLimit
 un:A.units+16*k+200 < cLine
theorem bQ.mono{j k:Nat}{A:WR}(r:bQ k A)(h:j<=k):bQ j A:=⟨r.hd,by have:=r.dp;omega,by have:=r.un;omega⟩
theorem bQ.deeper{k:Nat}{A:WR}(r:bQ (k+1) A)(env:Env):bQ k (A.deeper env):=
 ⟨r.hd,by have:=r.dp;show A.depth+1+3*k+5 < _;omega,by have:=r.un;show A.units+3+16*k+200 < _;omega⟩
theorem HD{A:WR}{C:WA}{us:List Wx}{kw:List (Str×Wx)}:(A.under (.builtin "type.__call__" ⟨.ref C::us,kw⟩)).depth=A.depth+1:=by
 first | rfl | simp [Vg,Code.weight,Code.isCreation,Code.isGuard,Code.isCaller,Wh,Vh,guardIds]
theorem HE{A:WR}{C:WA}{us:List Wx}{kw:List (Str×Wx)}:(A.under (.builtin "type.__call__" ⟨.ref C::us,kw⟩)).units=A.units+1:=by
 first | rfl | simp [Vg,Code.cUnits,Wh,Vh]
theorem bQ.make{k:Nat}{A:WR}(r:bQ (k+1) A)(C:WA)(us:List Wx)(kw:List (Str×Wx)):bQ k (A.under (.builtin "type.__call__" ⟨.ref C::us,kw⟩)):=
 ⟨r.hd,by have:=r.dp;rw [HD];omega,by have:=r.un;rw [HE];omega⟩
theorem bQ.depth{k:Nat}{A:WR}(r:bQ k A):A.depth < recursionLimit:=by have:=r.dp;omega
theorem bQ.units{k:Nat}{A:WR}(r:bQ k A):A.units+64 < cLine:=by have:=r.un;omega
theorem bQ.units0{k:Nat}{A:WR}(r:bQ k A):A.units < cLine:=by have:=r.un;omega
def uB:TA:=λ_ H Q=>Q [] H
def sP(ta:TE)(tr:TA):TA:=λσ H Q=>ta σ H λx H1=>tr σ H1 λxs H2=>Q (x::xs) H2
section
variable {X:Cx} {e:WI} {es:List WI} {te:TE} {t:TA} {pos:Pos}
theorem bM:PA X [] uB:=λ_ _ _ _ H Q I h=>Calls.spliced_nil ⟨[],H,I,.nil,h⟩
theorem aQ(ha:PE X e te)(hr:PA X es t)(hs:WH (e::es) X.env=(false,eval e X.env)::WH es X.env:=by rfl):PA X (e::es) (sP te t):=by
 intro pos Ys s σ H Q I h;rw [hs];show WD _ _ (spliced ((false,eval e X.env)::WZ pos (WH es X.env))) _ _ s;refine Calls.spliced_cons (aC (ha Ys s σ H _ I h) λu s1 ⟨x,H1,I1,r1,q1⟩=>?_);exact aC (hr pos Ys s1 σ H1 _ I1 q1) λus s2 uu49=>by obtain⟨xs,H2,I2,r2,q2⟩:=uu49;exact⟨x::xs,H2,I2,.cons r1 r2,q2⟩
def xP(t:TA):TE:=λσ H Q=>t σ H λxs H1=>xs.length<=WG/\∀p,H1 p=none->Q (.ref p) (ao H1 p (.tup xs))
def xQ(t:TA):TE:=λσ H Q=>t σ H λxs H1=>xs.length<=WG/\∀p,H1 p=none->Q (.ref p) (ao H1 p (.lst xs))
theorem uC{x1}(h:PA X es t):PE X (.Tuple es x1 pos) (xP t):=by
 intro Ys s σ H Q I hq;refine wpAny_Tuple_spliced (aC (h pos Ys s σ H _ I hq) λus s1 ⟨xs,H1,I1,r,z,q⟩=>⟨by rw [<-r.length];exact z,?_⟩);have hf:H1 s1.heap.objs.size=none:=I1.hok.fresh (PQ _);refine⟨.ref s1.heap.objs.size,ao H1 s1.heap.objs.size (.tup xs),I1.laid (t':=s1.toks) (λb u e=>PB _ e) (PQ _) ?_,rfl,q _ hf⟩;exact⟨z,us,r,⟨_,Qi _ rfl,rfl,_,rfl⟩⟩
theorem xR(h:PA X es t):PE X (.List es pos) (xQ t):=by
 intro Ys s σ H Q I hq;refine wpAny_List_spliced (aC (h pos Ys s σ H _ I hq) λus s1 ⟨xs,H1,I1,r,z,q⟩=>⟨by rw [<-r.length];exact z,?_⟩);have hf:H1 s1.heap.objs.size=none:=I1.hok.fresh (PQ _);refine⟨.ref s1.heap.objs.size,ao H1 s1.heap.objs.size (.lst xs),I1.laid (t':=s1.toks) (λb u e=>PB _ e) (PQ _) ?_,rfl,q _ hf⟩;exact⟨z,us,0,r,Qi _ rfl⟩
end
abbrev Sp:=List V->Hp->VK->XK->Prop
abbrev kT:=List Env->Hp->WB->XK->Wx->WB->Prop
structure p9 (P:WM) (w:WO) (K:Pt) (mg:Str->Option Wx) (base:WL) (A:WR) (outer:List Env) (s:WB) (H:Hp):Prop where
 frames:A.frames=some outer
 mod:Mod K mg base
 bs:∀b o,base.get? b=some o->s.heap.get? b=some o/\H b=none
 bsz:base.objs.size<=s.heap.objs.size
 funs:s.heap.FunFrames base outer
 frf:∀b∈cY outer,H b=none
 hok:bV P w H s.heap
 bare:XR s.gens
def CE(outer:List Env)(P:WM)(w:WO)(H:Hp)(s:WB)(Q:VK)(u:Wx)(s':WB):Prop:=
 ∃v H',s'.os=s.os/\XR s'.gens/\Un (cY outer) [] H H' s.heap s'.heap/\bV P w H' s'.heap/\aJ v u/\Q v H'
def CR(CX:kT)(outer:List Env)(P:WM)(w:WO)(H:Hp)(s:WB)(Q:VK)(E:XK)(r:Yh)(s':WB):Prop:=
 match r with
 | .ok (.ret u)=>CE outer P w H s Q u s'
 | .ok _=>False
 | .error e=>CX outer H s E e s'
structure aF (P:WM) (w:WO) (K:Pt) (mg:Str->Option Wx) (base:WL) (CX:kT) (k:Nat) (f:WA) (fd:WJ) (ps:List Str) (sp:Sp):Prop where
 len:∀vs H Q E,sp vs H Q E->vs.length=ps.length
 run:∀(A:WR)(outer:List Env)(s:WB)(H:Hp)(args:Args)(us:List Wx)(vs:List V)(Q:VK)(E:XK),bQ k A->p9 P w K mg base A outer s H->BindsTo s fd args (ps.zip us)->aM vs us->sp vs H Q E->
  Xt (WE P w) A (.call (.ref f) args) (CR CX outer P w H s Q E) s
theorem aF.imp{P:WM}{w:WO}{K:Pt}{mg:Str->Option Wx}{base:WL}{CX:kT}{k:Nat}{f:WA}{fd:WJ}{ps:List Str}{sp sp':Sp}(F:aF P w K mg base CX k f fd ps sp)
 (h:∀vs H Q E,sp' vs H Q E->sp vs H Q E):aF P w K mg base CX k f fd ps sp':=
 ⟨λvs H Q E q=>F.len vs H Q E (h _ _ _ _ q),λA outer s H args us vs Q E hr he hb hv hs=>F.run A outer s H args us vs Q E hr he hb hv (h _ _ _ _ hs)⟩
theorem p9.make{P:WM}{w:WO}{K:Pt}{mg:Str->Option Wx}{base:WL}{A:WR}{outer:List Env}{s:WB}{H:Hp}(e:p9 P w K mg base A outer s H)(C:WA)(us:List Wx)(kw:List (Str×Wx)):
 p9 P w K mg base (A.under (.builtin "type.__call__" ⟨.ref C::us,kw⟩)) outer s H:=⟨by first | exact e.frames | (simpa [Vg,Code.envs,Vh,pushEnvs] using e.frames),e.mod,e.bs,e.bsz,e.funs,e.frf,e.hok,e.bare⟩
section
variable {X:Cx} {Ys:List (WA×Obj)} {σ:St} {H:Hp} {s s':WB}
theorem ag.env0(I:ag X Ys σ H s):p9 X.prog X.w X.K X.mg X.base X.A X.stack s H:=
 ⟨I.ok.frames,I.ok.mod,I.bs,Qz I.ok.bsz I.sz,I.stack,I.stkFree,I.hok,I.bare⟩
theorem ag.after{Q:VK}{u:Wx}(I:ag X Ys σ H s)(h:CE X.stack X.prog X.w H s Q u s'):EP X Ys σ Q u s':=by
 obtain⟨v,H',os,bare,un,hok,r,q⟩:=h;obtain⟨hh,g,d,t,os'⟩:=s';obtain rfl:os'=s.os:=os;exact⟨v,H',I.call (h':=hh) (g':=g) (d':=d) (t':=t) (ch:=[]) un hok bare (λb z=>absurd z Wv),r,q⟩
end
def sQ(sp:Sp)(dvs:List V)(E:XK)(t:TA):TE:=λσ H Q=>t σ H λvs H1=>sp (vs++dvs) H1 Q E
def mC(K:Pt)(fd:WJ)(ps:List Str)(ds:List Wx):Prop:=
 ∀(s:WB)(us:List Wx),K.In s.heap->(us++ds).length=ps.length->BindsTo s fd ⟨us,[]⟩ (ps.zip (us++ds))
theorem mC.all{K:Pt}{fd:WJ}{ps:List Str}(h:∀us:List Wx,us.length=ps.length->bindArgs fd ⟨us,[]⟩=pure (ps.zip us)):mC K fd ps []:=λs us _ hl=>by
 rw [PY] at hl⊢;exact .of_eq (h us hl)
def qT(CX:kT)(X:Cx)(E:XK):Prop:=∀(Ys:List (WA×Obj))(σ:St)(H:Hp)(s:WB)(e:Wx)(s':WB),ag X Ys σ H s->CX X.stack H s E e s'->X.xe e s'
section
variable {X:Cx} {CX:kT} {k:Nat} {f C:WA} {fd:WJ} {ps:List Str} {sp:Sp} {dvs:List V} {ds:List Wx} {E:XK} {x m:Str} {p pos apos:Pos} {e o:WI} {es:List WI} {ta:TE} {t:TA}
theorem HF{Ys:List (WA×Obj)}{σ:St}{H:Hp}{s:WB}{Q:VK}{us:List Wx}{vs:List V}(F:aF X.prog X.w X.K X.mg X.base CX k f fd ps sp)(hr:bQ k X.A)(hb:mC X.K fd ps ds)(hd:aM dvs ds)(hx:qT CX X E)
 (I:ag X Ys σ H s)(r:aM vs us)(h:sp (vs++dvs) H Q E):WD (WE X.prog X.w) X.A (call (.ref f) us) (EP X Ys σ Q) X.xe s:=by
 have r2:aM (vs++dvs) (us++ds):=r.append hd;have hl:(us++ds).length=ps.length:=by rw [<-r2.length];exact F.len _ _ _ _ h
 refine XT (Xj (F.run X.A X.stack s H ⟨us,[]⟩ (us++ds) (vs++dvs) Q E hr I.env0 (hb s us I.kIn hl) r2 h) λr s' hq=>?_);cases r with
 | error e=>exact hx Ys σ H s e s' I hq
 | ok fl=>
  cases fl with
  | ret u=>exact I.after hq
  | next=>exact RA hq
  | brk=>exact RA hq
  | cont=>exact RA hq
theorem HG(F:aF X.prog X.w X.K X.mg X.base CX k f fd ps sp)(hr:bQ k X.A)(hg:Gl X x)(hm:X.mg x=some (.ref f))(hk:Se X.K (.ref f)=true)(hb:mC X.K fd ps ds)(hd:aM dvs ds)(hx:qT CX X E)
 (ha:PA X (e::es) t)(hdb:(x==("__debug__":Str))=false:=by decide)(he:WH (e::es) X.env=(false,eval e X.env)::WH es X.env:=by rfl)(hpl:(WZ pos (WH es X.env)).any (·.1)=false:=by rfl):
 PE X (.Call (.Name x p) (e::es) [] pos) (sQ sp dvs E t):=by
 intro Ys s σ H Q I h;refine Xk (oX I hg hm ?_ hdb);refine Ti (h₀:=X.base) I.ok.mod.kin hk (aC (ha pos Ys s σ H _ I h) λus s1 ⟨vs,H1,I1,r,q⟩=>⟨I1.kIn,?_⟩) he hpl;exact HF F hr hb hd hx I1 r q
end
section
variable {X:Cx} {CX:kT} {k:Nat} {f C:WA} {fd:WJ} {ps ks:List Str} {sp:Sp} {E:XK} {x m:Str} {p pos apos kpos:Pos} {e o:WI} {es:List WI} {kws:List XA} {te ta:TE} {t tk:TA} {nm:Option Str}
variable {g:List Wx->List Wx->List Wx} {gV:List V->List V->List V}
end
structure aN (N P:List Str) (sc:W5):Prop where
 kind:sc.kind= .function
 co:sc.isCoroutine=false
 gen:sc.isGenerator=false
 nd:N.Nodup
 pre:N.take P.length=P
 par:∀x∈P,sc.names.lookup x=some .local\/sc.names.lookup x=some .cell
 nofree:∀y∈sc.names,y.2≠ .free
theorem Cn{kindOf:Str->Option W9}{x:Str}:∀{binds:List (Str×Wx)}{m:Str->Option Wx},(∀v,(x,v)∉ binds)->bindL kindOf binds m x=m x
 | [],_,_=>rfl
 | (n,v)::r,m,h=>by
  unfold bindL;rw [Cn λw hw=>h w (Q4 _ hw)];split
  ·have:x≠n:=by rintro rfl;exact h v RE
   simp [this]
  ·rfl
theorem Co{kindOf:Str->Option W9}{x:Str}:∀{binds:List (Str×Wx)}{m:Str->Option Wx},(∀v,(x,v)∉ binds)->bindC kindOf binds m x=m x
 | [],_,_=>rfl
 | (n,v)::r,m,h=>by
  unfold bindC;rw [Co λw hw=>h w (Q4 _ hw)];split
  ·rfl
  ·have:x≠n:=by rintro rfl;exact h v RE
   simp [this]
theorem Cp{kindOf:Str->Option W9}{x:Str}{v:Wx}:∀{P:List Str}{vs:List Wx}{i:Nat}{m:Str->Option Wx},P.Nodup->P[i]?=some x->vs[i]?=some v->kindOf x=some .local->
 bindL kindOf (P.zip vs) m x=some v
 | [],_,_,_,_,h,_,_=>by simp at h
 | _::_,[],_,_,_,_,h,_=>by simp at h
 | p::P,w::vs,0,m,nd,h1,h2,hk=>by
  simp at h1 h2;subst h1;subst h2;show bindL kindOf ((p,w)::P.zip vs) m p=_;unfold bindL;rw [Cn λv hv=>(TV.mp nd).1 (UD hv).1,Wt hk];simp
 | p::P,w::vs,i+1,m,nd,h1,h2,hk=>by
  show bindL kindOf ((p,w)::P.zip vs) m x=_;unfold bindL;exact Cp (i:=i) (TV.mp nd).2 (by simpa using h1) (by simpa using h2) hk
theorem Cq{kindOf:Str->Option W9}{x:Str}{v:Wx}:∀{P:List Str}{vs:List Wx}{i:Nat}{m:Str->Option Wx},P.Nodup->P[i]?=some x->vs[i]?=some v->kindOf x≠some .local->
 bindC kindOf (P.zip vs) m x=some v
 | [],_,_,_,_,h,_,_=>by simp at h
 | _::_,[],_,_,_,_,h,_=>by simp at h
 | p::P,w::vs,0,m,nd,h1,h2,hk=>by
  simp at h1 h2;subst h1;subst h2;show bindC kindOf ((p,w)::P.zip vs) m p=_;unfold bindC;rw [Co λv hv=>(TV.mp nd).1 (UD hv).1,Ws hk];simp
 | p::P,w::vs,i+1,m,nd,h1,h2,hk=>by
  show bindC kindOf ((p,w)::P.zip vs) m x=_;unfold bindC;exact Cq (i:=i) (TV.mp nd).2 (by simpa using h1) (by simpa using h2) hk
def start(N:List Str)(vs:List V):St:=vs.map some++PK (N.length - vs.length) none
def kc(CX:kT)(P:WM)(w:WO)(K:Pt)(mg:Str->Option Wx)(base:WL)(N:List Str)(qual:Str)(scope:W5)(f:WA)(cd:Wx)(A:WR)(outer:List Env)(s:WB)(H:Hp)(E:XK):Cx where
 prog:=P
 w:=w
 K:=K
 mg:=mg
 base:=base
 A:=A.deeper (XH qual scope s.heap.objs.size f cd)
 N:=N
 s₀:=s
 H₀:=H
 env:=XH qual scope s.heap.objs.size f cd
 outer:=outer
 stack:=XH qual scope s.heap.objs.size f cd::outer
 ex:=[]
 calm:=true
 fn:=λ_=>true
 pn:=[]
 xe:=λe s'=>WD (WE P w) (A.deeper (XH qual scope s.heap.objs.size f cd)) (leaving (XH qual scope s.heap.objs.size f cd) e) (λ_ s''=>CX outer H s E e s'') (λe' s''=>CX outer H s E e' s'') s'
theorem Cr{sc:W5}{n:Nat}{x:Str}(h:sc.names.lookup x=some .cell):∃c,(W8 n sc.names []).lookup x=some c:=by
 have q:=TF sc.names n [] (.inl h);exact Sj.mp q
theorem HH{CX:kT}{P:WM}{w:WO}{K:Pt}{mg:Str->Option Wx}{base:WL}{N ps:List Str}{qual:Str}{scope:W5}{f:WA}{cd:Wx}{A:WR}{outer:List Env}{s s1:WB}{H:Hp}{E:XK}{us:List Wx}{vs:List V}
 (S:aN N ps scope)(hd:A.handled=none)(e0:p9 P w K mg base A outer s H)(hl:vs.length=ps.length)(r:aM vs us)
 (x:InCallC s s.heap.objs.size (bindL (XH qual scope s.heap.objs.size f cd).kindOf (ps.zip us) λ_=>none) (W8 (s.heap.objs.size+1) scope.names []) (bindC (XH qual scope s.heap.objs.size f cd).kindOf (ps.zip us) λ_=>none) s1):
 ag (kc CX P w K mg base N qual scope f cd A outer s H E) [] (start N vs) H s1:=by
 have hpl:ps.length<=N.length:=by have:=congrArg Td S.pre;rw [Rq] at this;omega
 obtain⟨h1,tk,rfl,hk⟩:=x.done;have noA:∀b:WA,b ∉ (kc CX P w K mg base N qual scope f cd A outer s H E).ex:=λb z=>absurd (show b∈([]:List WA) from z) Wv;refine⟨⟨e0.mod,S.kind,rfl,rfl,PQ _,λy z c h1 h2=>?_,λy hy=>?_,λy c _ h=>?_,λ_=>hd,Around.frames_deeper e0.frames,.inr ⟨rfl,rfl⟩,λb z=>absurd z (noA b),e0.bs,e0.bsz,λb _ _=>noA b,λb z=>absurd z (noA b),e0.funs,e0.frf⟩,
  rfl,e0.bare,Un.kept hk,⟨_,x.toInCall.ns,λi y v h1 h2 h3=>?_⟩,λy c h=>⟨_,x.cell y c h⟩,e0.hok.fresh (PQ _),λy c h=>?_,λp hp=>absurd (show p∈([]:List (WA×Obj)) from hp) Wv,e0.hok.kept hk,?_⟩
 ·exact name_of_addr x.apart (R6 h1) (R6 h2)
 ·have hy:scope.names.lookup y=some .cell\/scope.names.lookup y=some .free:=hy;rcases hy with hy | hy
  ·exact Cr hy
  ·exact absurd rfl (S.nofree _ (R6 hy))
 ·exact S0 (x.above y c (R6 h))
 ·have hi:i < vs.length:=by
   unfold start at h2;by_cases hi:i < vs.length
   ·exact hi
   ·rw [Sz (by simpa using hi)] at h2;rw [SO] at h2;split at h2 <;> cases h2
  have ha:vs[i]?=some v:=by
   unfold start at h2;rw [Sg (by simpa using hi),Rx] at h2;cases e:vs[i]? with
   | none=>rw [e] at h2;cases h2
   | some a=>rw [e] at h2;cases h2;rfl
  obtain⟨u,hu,rv⟩:=r.get ha;have hp:ps[i]?=some y:=by
   rw [<-S.pre,List.getElem?_take_of_lt Ce];exact h1
  have ndP:ps.Nodup:=by rw [<-S.pre];exact S.nd.sublist (Uj _ _)
  refine⟨u,rv,?_⟩;rcases S.par y (Rr hp) with k | k
  ·exact .inl ⟨k,Cp ndP hp hu k⟩
  ·obtain⟨c,e⟩:=Cr (n:=s.heap.objs.size+1) k;refine .inr ⟨.inl k,c,e,?_⟩;have q:=x.cell y c e;rw [Cq ndP hp hu (by show scope.names.lookup y≠_;rw [k];decide)] at q;exact q
 ·exact e0.hok.fresh (S0 (x.above y c (R6 h)))
 ·unfold start;show _=N.length;rw [Rf,PD,UK];omega
theorem Cs{CX:kT}{P:WM}{w:WO}{K:Pt}{mg:Str->Option Wx}{base:WL}{k:Nat}{f:WA}{name qual:Str}{params:Arguments}{body:List WQ}{scope:W5}{dV kV doc pm cdv ct oc:Wx}{an od:Option WA}
 {osl:Array (Option Wx)}{N ps:List Str}{sp:Sp}(lk:K.lookup f=some ⟨oc,od,.func (RV name qual params body scope dV kV doc pm an cdv ct),osl⟩)(hcd:Ts K cdv qual=true)(S:aN N ps scope)
 (len:∀vs H Q E,sp vs H Q E->vs.length=ps.length)
 (hbody:∀(A:WR) (outer:List Env) (s:WB) (H:Hp) (vs:List V) (Q:VK) (E:XK),bQ k (A.deeper (XH qual scope s.heap.objs.size f cdv))->sp vs H Q E->
   ∃t,bG (kc CX P w K mg base N qual scope f cdv A outer s H E) body t/\t {nx:=λ_ H'=>Q .non H',rt:=Q} (start N vs) H):
 aF P w K mg base CX (k+1) f (RV name qual params body scope dV kV doc pm an cdv ct) ps sp:=by
 refine⟨len,λA outer s H args us vs Q E hr e0 hb r hsp=>?_⟩;have hl:=len _ _ _ _ hsp;have KX:K.In s.heap:=e0.mod.kin.keeps λb o e=>(e0.bs b o e).1;have lim:s.heap.NoLimit:=e0.mod.nolimit.keeps λb o e=>(e0.bs b o e).1;have hkind:∀y∈ps.zip us,scope.names.lookup y.1=some .local\/(scope.names.lookup y.1=some .cell/\((W8 (s.heap.objs.size+1) scope.names []).lookup y.1).isSome=true):=λuu53 hy=>by
  obtain⟨n,v⟩:=uu53;rcases S.par n (UD hy).1 with q | q
  ·exact .inl q
  ·exact .inr ⟨q,TF _ _ _ (.inl q)⟩
 refine codeAny_call_function hr.depth (KX _ _ lk) rfl S.co S.gen rfl (PySem.W.codeRec_of KX hcd) (hb _ _ _ _ ?_);refine wpAny_newFunctionEnv_cells S.kind hkind λenv he s1 x=>?_;subst he;refine⟨lim.keeps x.toInCall.keep,codeAny_func ?_⟩;obtain⟨t,ht,hq⟩:=hbody A outer s H vs Q E (hr.deeper _) hsp;have I:ag (kc CX P w K mg base N qual scope f cdv A outer s H E) [] (start N vs) H s1:=HH S hr.hd e0 hl r x;refine WW (ht [] s1 (start N vs) H _ I hq) (λfl s' hs=>?_) λe s' hs=>hs;have fin:∀{σ':St}{H':Hp}{v:V}{u:Wx},ag (kc CX P w K mg base N qual scope f cdv A outer s H E) [] σ' H' s'->aJ v u->Q v H'->CE outer P w H s Q u s':=
  λ{σ' H' v u} J rv q=>⟨v,H',J.os,J.bare,J.base,J.hok,rv,q⟩
 cases fl with
 | ret u=>
  obtain⟨v,σ',H',J,rv,q⟩:=hs;exact fin J rv q
 | next=>
  obtain⟨σ',H',J,q⟩:=hs;exact fin (v:=V.non) (u:=RX) J rfl q
 | brk=>
  obtain⟨_,_,_,q⟩:=hs;exact RA q
 | cont=>
  obtain⟨_,_,_,q⟩:=hs;exact RA q
section
variable {X:Cx} {x:Str} {p pos:Pos} {e:WI} {es:List WI} {t:TA} {id T:String} {r:List V->Hp->VK->Prop}
def sR(r:List V->Hp->VK->Prop)(t:TA):TE:=λσ H Q=>t σ H λvs H1=>r vs H1 Q
theorem aR(hc:kB X (.builtin id) r)(hg:Gl X x)(hm:X.mg x=none)(hv:WU x=some (.builtin id))(ha:PA X (e::es) t)(hn:x≠"__name__":=by decide)(hdb:(x==("__debug__":Str))=false:=by decide)
 (he:WH (e::es) X.env=(false,eval e X.env)::WH es X.env:=by rfl)(hpl:(WZ pos (WH es X.env)).any (·.1)=false:=by rfl):PE X (.Call (.Name x p) (e::es) [] pos) (sR r t):=by
 intro Ys s σ H Q I h;refine Xk (pY I hg hm hv ?_ hn hdb);exact PyProof.Rows.callWith_builtin1 (aC (ha pos Ys s σ H _ I h) λus s1 uu54=>by obtain⟨vs,H1,I1,r1,q1⟩:=uu54;exact hc Ys s1 σ H1 vs us Q I1 r1 q1) he hpl
theorem cE(hc:kB X (.type T) r)(hg:Gl X x)(hm:X.mg x=none)(hv:WU x=some (.type T))(ha:PA X (e::es) t)(hn:x≠"__name__":=by decide)(hdb:(x==("__debug__":Str))=false:=by decide)
 (he:WH (e::es) X.env=(false,eval e X.env)::WH es X.env:=by rfl)(hpl:(WZ pos (WH es X.env)).any (·.1)=false:=by rfl):PE X (.Call (.Name x p) (e::es) [] pos) (sR r t):=by
 intro Ys s σ H Q I h;refine Xk (pY I hg hm hv ?_ hn hdb);exact R4 (aC (ha pos Ys s σ H _ I h) λus s1 uu55=>by obtain⟨vs,H1,I1,r1,q1⟩:=uu55;exact hc Ys s1 σ H1 vs us Q I1 r1 q1) he hpl
end
end L2
namespace HT
open PySem PyProof.Rows
def lexLt:List Int->List Int->Bool
 | [],[]=>false
 | [],_::_=>true
 | _::_,[]=>false
 | x::xs,y::ys=>if x=y then lexLt xs ys else decide (x < y)
section
open PySem.SeqAt
open PySem.AutoSeq1 (wpAny_loadPart')
open PySem.MeetsSeq PySem.MeetsSeq2 PySem.MeetsSeq3
end
section
variable {prog:WM} {w:WO} {A:WR} {E:Wx->WB->Prop} {s:WB}
theorem cat_tup{t b:WA}{vs ws:List Wx}{Q:Wx->WB->Prop}(ht:IsTup s.heap t vs.toArray)(hb:IsTup s.heap b ws.toArray)(hv:vs≠[])
 (h1:ws=[]->Q (.ref t) s)(h2:ws≠[]->Q (.ref s.heap.objs.size) {s with heap:=s.heap.push {cls:= .type "tuple",data:= .seq (vs++ws).toArray}})
 (hsz:vs.length+ws.length<=WG):WD (WE prog w) A (Xc .Add (.ref t) (.ref b)) Q E s:=by
 obtain⟨⟨cls,dd,data,sl⟩,ho,hc,n,hd⟩:=id ht;obtain⟨⟨cls2,dd2,data2,sl2⟩,ho2,hc2,n2,hd2⟩:=id hb;simp only at hc hd hc2 hd2;subst hc hd hc2 hd2;have e:vs.toArray++ws.toArray=(vs++ws).toArray:=Wv
 by_cases hw:ws=[]
 ·exact concat_meets ⟨_,ho,rfl⟩ ⟨_,ho2,rfl⟩ Yp seq_tuple_add TH Tw (Tj _ _)
   (tuple_addW1 t b vs.toArray ws.toArray n n2 dd dd2 sl sl2 (by simpa using hv) (by simp [hw])) ⟨ho,ho2,h1 hw⟩
 ·refine concat_meets ⟨_,ho,rfl⟩ ⟨_,ho2,rfl⟩ Yp seq_tuple_add TH Tw (Tj _ _)
   (tuple_addW2 t b vs.toArray ws.toArray n n2 dd dd2 sl sl2 (by simpa using hv) (by simpa using hw) (by rw [Qt,Qt];exact hsz)) ⟨ho,ho2,?_⟩
  rw [e];exact h2 hw
def sIx(n d:Nat):Option Int->Nat
 | none=>d
 | some v=>if v < 0 then(v+(n:Int)).toNat else min v.toNat n
theorem qc(n d:Nat):sIx n d none=d:=rfl
theorem sIx_nat(n d k:Nat):sIx n d (some (k:Int))=min k n:=by
 show(if (k:Int) < 0 then((k:Int)+(n:Int)).toNat else min (k:Int).toNat n)=min k n;rw [Ws Ce,Q9]
theorem sIx_le(n d:Nat)(hd:d<=n)(o:Option Int):sIx n d o<=n:=by
 cases o with
 | none=>exact hd
 | some v=>
  show(if v < 0 then(v+(n:Int)).toNat else min v.toNat n)<=n;by_cases hv:v < 0
  ·rw [Wt hv];omega
  ·rw [Ws hv];exact VC _ _
theorem Ct(v:Int)(n d:Nat):(if v < 0 then max (v+(n:Int)) 0 else min v (n:Int))=((sIx n d (some v):Nat):Int):=by
 show(if v < 0 then max (v+(n:Int)) 0 else min v (n:Int))=(((if v < 0 then(v+(n:Int)).toNat else min v.toNat n):Nat):Int);by_cases hv:v < 0
 ·simp only [Wt hv];omega
 ·simp only [Ws hv];omega
theorem HI(lo hi:Option Int)(n:Nat):Te lo hi 1 (n:Int)=(((sIx n 0 lo:Nat):Int),((sIx n n hi:Nat):Int)):=by
 have h1:¬((1:Int) < 0):=Ce
 unfold Te;simp only [h1,if_false];refine Prod.ext ?_ ?_
 ·cases lo with
  | none=>rfl
  | some v=>exact Ct v n 0
 ·cases hi with
  | none=>rfl
  | some v=>exact Ct v n n
theorem HJ(i j:Nat):SA (i:Int) (j:Int) 1=j - i:=by
 unfold SA;have h1:(1:Int) > 0:=Ce
 simp only [h1,if_true,V7];split <;> omega
theorem Cu{v:Wx}{o:Option Int}{Q:Option Int->WB->Prop}(p:IsPart v o)(h:Q o s):WD (WE prog w) A (Builtin.Slice.slicePartIndex v) Q E s:=by
 cases p with
 | none=>exact slicePart_none h
 | int i t=>exact slicePart_int h
theorem sliceApplied_gen{sl:WA}{vl vu:Wx}{lo hi:Option Int}{n:Nat}{Q:Int×Int×Nat->WB->Prop}(hs:s.heap.IsSliceOf sl vl vu .none)(pl:IsPart vl lo)(pu:IsPart vu hi)
 (h:Q (((sIx n 0 lo:Nat):Int),1,sIx n n hi - sIx n 0 lo) s):WD (WE prog w) A (Ub (.ref sl) (pure (n:Int))) Q E s:=by
 obtain⟨os,hos,hcs,hds⟩:=id hs;unfold Ub Builtin.Slice.sliceFields;refine Wy (Wy (W4 hos hds (x:=vl) rfl (Wy (W4 hos hds (x:=vu) rfl (Wy (W4 hos hds (x:= .none) rfl (WC ?_)))))));refine Wy (slicePart_none ?_);show WD _ _ (if ((1:Int)==0)=true then _ else _) _ _ s;rw [Ws tx];refine Wy (Cu pl (Wy (Cu pu (Wy (WC ?_)))));show WD _ _ (match Te lo hi 1 (n:Int) with | (lo,hi)=>pure (lo,(1:Int),SA lo hi 1)) _ _ s;rw [HI lo hi n];show WD _ _ (pure (((sIx n 0 lo:Nat):Int),(1:Int),SA ((sIx n 0 lo:Nat):Int) ((sIx n n hi:Nat):Int) 1)) _ _ s;rw [HJ];exact WC h
theorem HK(xs:Array Wx)(i k:Nat):((Rz k).filterMap λ(m:Nat)=>xs[((i:Int)+(m:Int)*1).toNat]?).toArray=((xs.toList.drop i).take k).toArray:=by
 have e:(λ(m:Nat)=>xs[((i:Int)+(m:Int)*1).toNat]?)=λm=>xs[i+m]?:=by
  funext m;have:((i:Int)+(m:Int)*1).toNat=i+m:=Ce
  rw [this]
 rw [e];have:=pick_run xs i k;rw [Vi] at this;have e2:((λx=>xs[x]?)∘ λx=>i+x)=λm=>xs[i+m]?:=rfl;rw [e2] at this;rw [this]
theorem getItem_tuple_cut{t sl:WA}{items:Array Wx}{vl vu:Wx}{lo hi:Option Int}{Q:Wx->WB->Prop}(ht:IsTup s.heap t items)(hs:s.heap.IsSliceOf sl vl vu .none)(pl:IsPart vl lo)(pu:IsPart vu hi)
 (hw:¬(sIx items.size 0 lo=0/\sIx items.size items.size hi=items.size))
 (h:Q (.ref s.heap.objs.size) {s with heap:=s.heap.push {cls:= .type "tuple",data:= .seq ((items.toList.drop (sIx items.size 0 lo)).take (sIx items.size items.size hi - sIx items.size 0 lo)).toArray}})
 (hsz:items.size<=WG):WD (WE prog w) A (X5 (.ref t) (.ref sl)) Q E s:=by
 have htake:sizeOk (.seq ((items.toList.drop (sIx items.size 0 lo)).take (sIx items.size items.size hi - sIx items.size 0 lo)).toArray):=by
  show((items.toList.drop (sIx items.size 0 lo)).take (sIx items.size items.size hi - sIx items.size 0 lo)).toArray.size<=WG;rw [Qt,Rq,RW,P2];omega
 have hj:sIx items.size items.size hi<=items.size:=sIx_le _ _ (PQ _) hi;obtain⟨os,hos,hcs,hds⟩:=id hs;have hTs:s.TypeIs (.ref sl) "slice":=⟨os,hos,hcs⟩;unfold X5
 try with_reducible refine W3 ?_
 first | refine Wy (WC ?_) | skip
 refine Wy (wpAny_sequenceKey ht.typeIs tx ?_);refine Wy (WX (name:=Pr "__getitem__") ht.typeIs Si
  (W0 Si ht.typeIs entry_tuple_getitem ?_ (args_tuple_getitem _ _)))
 show WD _ _ (Uc (.ref t) >>=_) _ _ s;refine Wy (tupleItemsOf_ ht ?_);refine Wy (X9 hTs ?_);rw [Wt tx];refine Wy (sliceApplied_gen hs pl pu ?_);have hno:¬((((sIx items.size 0 lo:Nat):Int)==0 && (1:Int)==1 && (sIx items.size items.size hi - sIx items.size 0 lo)==items.size)=true):=by
  intro q;rw [Qh,Qh] at q;have q1:((sIx items.size 0 lo:Nat):Int)=0:=eq_of_beq q.1.1;have q2:sIx items.size items.size hi - sIx items.size 0 lo=items.size:=eq_of_beq q.2;exact hw ⟨Ce,Ce⟩
 show WD _ _ (if (((sIx items.size 0 lo:Nat):Int)==0 && (1:Int)==1 && (sIx items.size items.size hi - sIx items.size 0 lo)==items.size)=true then _ else _) _ _ s;rw [Ws hno,HK]
 first
  | exact Wy (m:=SI _) (WV (WC ⟨_,rfl,WC h⟩) htake)
  | exact Wy (m:=SI _) (WV (Wy (WC (WC ⟨_,rfl,WC h⟩))) htake)
  | exact Wy (Wy (m:=SI _) (WV (WC (WC ⟨_,rfl,WC h⟩)) htake))
  | exact Wy (Wy (m:=SI _) (WV (WC ⟨_,rfl,WC h⟩) htake))
end
end HT
namespace L2
open PySem PySem.Spec PyProof.Rows
abbrev TO:=St->Hp->(Option Int->Hp->Prop)->Prop
def PO(X:Cx)(e:Option WI)(t:TO):Prop:=
 ∀(Ys:List (WA×Obj))(s:WB)(σ:St)(H:Hp)(Q:Option Int->Hp->Prop),ag X Ys σ H s->t σ H Q->
  WD (WE X.prog X.w) X.A (evalPart e X.env) (λu s'=>∃o H',ag X Ys σ H' s'/\IsPart u o/\Q o H') X.xe s
def HL:TO:=λ_ H Q=>Q none H
def HM(t:TE):TO:=λσ H Q=>t σ H λx H1=>∃i,x= .int i/\Q (some i) H1
theorem HN{ns:List Int}:∀{us:List Wx},aM (ns.map V.int) us->IntsAre us ns:=by
 induction ns with
 | nil=>intro us r;rw [Qf] at r;cases r;exact .nil
 | cons n ns ih=>
  intro us r;rw [Py] at r;cases r with
  | cons r1 r2=>
   obtain⟨t,e⟩:=r1;subst e;exact .cons n t (ih r2)
section
variable {X:Cx} {e:WI} {te:TE} {lo hi:Option WI} {tl th:TO} {pos p2:Pos}
theorem HP:PO X none HL:=by
 intro Ys s σ H Q I h;rw [evalPart_none];exact WC ⟨none,H,I,.none,h⟩
theorem HQ(h:PE X e te):PO X (some e) (HM te):=by
 intro Ys s σ H Q I hw;rw [evalPart_some];refine aC (h Ys s σ H _ I hw) λu s1 ⟨x,H1,I1,r1,q1⟩=>?_;obtain⟨i,rfl,q⟩:=q1;obtain⟨t,rfl⟩:=r1;exact⟨some i,H1,I1,.int i t,q⟩
def sS(X:Cx)(r:V->Option Int->Option Int->Hp->VK->Prop):Prop:=
 ∀(Ys:List (WA×Obj))(s:WB)(σ:St)(H:Hp)(x:V)(v vl vu:Wx)(lo hi:Option Int)(sl:WA)(Q:VK),ag X Ys σ H s->aJ x v->s.heap.IsSliceOf sl vl vu .none->IsPart vl lo->IsPart vu hi->r x lo hi H Q->
  ∃T id,typeLookup (.type T) "__getitem__"=pure (some (.builtin id))/\s.TypeIs v T/\WD (WE X.prog X.w) X.A (X5 v (.ref sl)) (EP X Ys σ Q) X.xe s
def HR(r:V->Option Int->Option Int->Hp->VK->Prop)(te:TE)(tl th:TO):TE:=λσ H Q=>te σ H λx H1=>tl σ H1 λl H2=>th σ H2 λu H3=>r x l u H3 Q
theorem xS{r:V->Option Int->Option Int->Hp->VK->Prop}(hr:sS X r)(he:PE X e te)(hl:PO X lo tl)(hu:PO X hi th):PE X (.Subscript e (.Slice lo hi none p2) pos) (HR r te tl th):=by
 intro Ys s σ H Q I h;refine Subscript_ (aC (he Ys s σ H _ I h) λv s1 ⟨x,H1,I1,r1,q1⟩=>?_);refine wpAny_Slice (aC (hl Ys s1 σ H1 _ I1 q1) λvl s2 ⟨l,H2,I2,pl,q2⟩=>aC (hu Ys s2 σ H2 _ I2 q2) λvu s3 ⟨u,H3,I3,pu,q3⟩=>?_);rw [evalPart_none];refine WC ?_;have I4:ag X Ys σ H3 {s3 with heap:=s3.heap.push {cls:= .type "slice",data:= .fields #[vl,vu,.none]}}:=I3.kept (t':=s3.toks) λb ob q=>PB _ q;obtain⟨T,id,hT,ht,hg⟩:=hr Ys {s3 with heap:=s3.heap.push {cls:= .type "slice",data:= .fields #[vl,vu,.none]}} σ H3 x v vl vu l u s3.heap.objs.size Q I4 r1 (Wq ..) pl pu q3;show WD (WE X.prog X.w) X.A (subscriptTail e (.Slice lo hi none p2) v (.ref s3.heap.objs.size)) (EP X Ys σ Q) X.xe {s3 with heap:=s3.heap.push {cls:= .type "slice",data:= .fields #[vl,vu,.none]}};exact tail_any (ops:=[.ref s3.heap.objs.size,v]) ht hT hg (by with_unfolding_all rfl)
def oq(xs:List V)(lo hi:Option Int):List V:=(xs.drop (HT.sIx xs.length 0 lo)).take (HT.sIx xs.length xs.length hi - HT.sIx xs.length 0 lo)
theorem Cv(xs:List V)(lo hi:Option Int):(oq xs lo hi).length<=xs.length:=by
 unfold oq;rw [Rq,RW];omega
def HS(K:Pt):V->Option Int->Option Int->Hp->VK->Prop:=λx lo hi H Q=>∃a xs,x= .ref a/\aZ K H a xs/\
 ¬(HT.sIx xs.length 0 lo=0/\HT.sIx xs.length xs.length hi=xs.length)/\∀p,H p=none->Q (.ref p) (ao H p (.tup (oq xs lo hi)))
theorem HU:sS X (HS X.K):=by
 intro Ys s σ H x v vl vu lo hi sl Q I rx hs pl pu h;obtain⟨a,xs,rfl,hx,hw,q⟩:=h;cases rx;obtain⟨its,r,ht,hz⟩:=I.tuple hx;have hlen:its.toArray.size=xs.length:=by rw [Qt];exact r.length.symm
 refine⟨"tuple",_,Si.lookup,ht.typeIs,?_⟩;refine HT.getItem_tuple_cut ht hs pl pu (by rw [hlen];exact hw) ?_ (by rw [hlen];exact hz);rw [hlen];refine⟨.ref s.heap.objs.size,_,I.laid (t':=s.toks) (o:= .tup (oq xs lo hi)) (λb ob q=>PB _ q) (PQ _) ?_,rfl,q _ (I.hok.fresh (PQ _))⟩;exact⟨Qz (Cv xs lo hi) hz,_,(r.drop (HT.sIx xs.length 0 lo)).take (HT.sIx xs.length xs.length hi - HT.sIx xs.length 0 lo),Vf _ _⟩
def xT(K:Pt):R2:=λx y H Q=>∃a b xs ys,x= .ref a/\y= .ref b/\aZ K H a xs/\aZ K H b ys/\xs≠[]/\xs.length+ys.length<=WG/\
 (ys=[]->Q (.ref a) H)/\(ys≠[]->∀p,H p=none->Q (.ref p) (ao H p (.tup (xs++ys))))
theorem aM.nil_iff{xs:List V}{us:List Wx}(r:aM xs us):us=[]↔xs=[]:=by
 cases r with
 | nil=>simp
 | cons _ _=>simp
theorem HV:bD X (Xc .Add) (xT X.K):=by
 intro Ys s σ H x y v u Q I rx ry h;obtain⟨a,b,xs,ys,rfl,rfl,ha,hb,hx,hz,q1,q2⟩:=h;cases rx;cases ry;obtain⟨its,r1,p1,_⟩:=I.tuple ha;obtain⟨its2,r2,p2,_⟩:=I.tuple hb;refine HT.cat_tup p1 p2 (λz=>hx (r1.nil_iff.mp z)) (λz=>⟨.ref a,H,I,rfl,q1 (r2.nil_iff.mp z)⟩) (λz=>?_) (by rw [<-r1.length,<-r2.length];exact hz);refine⟨.ref s.heap.objs.size,_,I.laid (t':=s.toks) (o:= .tup (xs++ys)) (λb ob q=>PB _ q) (PQ _) ?_,rfl,q2 (λw=>z (r2.nil_iff.mpr w)) _ (I.hok.fresh (PQ _))⟩;exact⟨by rw [Rf];exact hz,_,r1.append r2,Vf _ _⟩
end
def oy(n:Nat)(i:Int):Option Nat:=if 0<=i then(if i < n then some i.toNat else none) else if -(n:Int)<=i then some (i+n).toNat else none
def atI{α:Type}(xs:List α)(i:Int):Option α:=(oy xs.length i).bind λj=>xs[j]?
theorem Cw{n:Nat}{i:Int}{j:Nat}(h:oy n i=some j):seqIndex? i n=some j/\j < n/\-(n:Int)<=i/\i < n:=by
 unfold oy at h;by_cases h0:0<=i
 ·rw [Wt h0] at h;by_cases h1:i < n
  ·rw [Wt h1] at h;have e:i.toNat=j:=Rk h;exact⟨by rw [seqIndex_of h0 h1,e],Ce,Ce,h1⟩
  ·rw [Ws h1] at h;cases h
 ·rw [Ws h0] at h;by_cases h1:-(n:Int)<=i
  ·rw [Wt h1] at h;have e:(i+n).toNat=j:=Rk h;exact⟨by rw [seqIndex_neg Ce h1,e],Ce,h1,Ce⟩
  ·rw [Ws h1] at h;cases h
theorem xU{α:Type}{xs:List α}{i:Int}{v:α}(h:atI xs i=some v):∃j,seqIndex? i xs.length=some j/\xs[j]?=some v/\j < xs.length/\-(xs.length:Int)<=i/\i < xs.length:=by
 unfold atI at h;cases e:oy xs.length i with
 | none=>rw [e] at h;cases h
 | some j=>
  rw [e] at h;obtain⟨h1,h2,h3,h4⟩:=Cw e;exact⟨j,h1,h,h2,h3,h4⟩
theorem nL{α:Type}{xs:List α}{j:Nat}{v:α}(h:xs[j]?=some v):atI xs (j:Int)=some v:=by
 have hj:j < xs.length:=(Qu.mp h).1;have e:oy xs.length (j:Int)=some j:=by
  unfold oy;rw [Wt Ce,Wt Ce];simp
 unfold atI;rw [e];exact h
def HW(b:WI):Prop:=∀o i,subscripted b false o i=operate [o,i] (X5 o i)
def qU(X:Cx)(r:R2):Prop:=
 ∀(value slice:WI)(Ys:List (WA×Obj))(s:WB)(σ:St)(H:Hp)(x y:V)(v u:Wx)(Q:VK),ag X Ys σ H s->aJ x v->aJ y u->r x y H Q->
  subscripted slice false v u=operate [v,u] (X5 v u)->WD (WE X.prog X.w) X.A (subscriptTail value slice v u) (EP X Ys σ Q) X.xe s
def sT(X:Cx)(id:String)(r:V->List V->Hp->VK->Prop):Prop:=
 ∀(Ys:List (WA×Obj))(s:WB)(σ:St)(H:Hp)(x:V)(xs:List V)(v:Wx)(us:List Wx)(Q:VK),ag X Ys σ H s->aJ x v->aM xs us->r x xs H Q->
  WD (WE X.prog X.w) X.A (call (.builtin id) (v::us)) (EP X Ys σ Q) X.xe s
section
variable {X:Cx} {a b:WI} {ta tb:TE} {pos:Pos}
theorem qf{r:R2}(hr:qU X r)(ha:PE X a ta)(hb:PE X b tb)(hs:HW b):PE X (.Subscript a b pos) (p4 r ta tb):=by
 intro Ys s σ H Q I h;exact Subscript_ (wZ ha hb I h λv u s2 x y H2 I2 rx ry q=>hr a b Ys s2 σ H2 x y v u Q I2 rx ry q (hs _ _))
def xV(K:Pt):R2:=λx y H Q=>∃p xs i v,x= .ref p/\y= .int i/\bg K H p xs/\atI xs i=some v/\Q v H
def uD(K:Pt):R2:=λx y H Q=>∃p xs i v,x= .ref p/\y= .int i/\aZ K H p xs/\atI xs i=some v/\Q v H
def Cy:R2:=λx y H Q=>∃z i c,x= .str z/\y= .int i/\z.length<=WG/\atI z.cps.toList i=some c/\Q (.str ⟨#[c]⟩) H
theorem aO:qU X (xV X.K):=by
 intro value slice Ys s σ H x y v u Q I rx ry h hs;obtain⟨p,xs,i,z,rfl,rfl,hq,he,q⟩:=h;cases rx;obtain⟨t,rfl⟩:=ry;obtain⟨its,r,pl,hz⟩:=I.list hq;obtain⟨j,h1,h2,h3,h4,h5⟩:=xU he;obtain⟨w,ew,rw'⟩:=r.get h2;have hl:=r.length;have hn:=pf;have fin:EP X Ys σ Q w s:=⟨z,H,I,rw',q⟩;by_cases h0:0<=i
 ·have hj:i.toNat=j:=by
   rw [seqIndex_of h0 h5] at h1;exact Rk h1
  exact item_listR pl.isList h0 Ce (by rw [hj];simpa using ew) fin hs
 ·have hj:(i+(its.toArray.size:Int)).toNat=j:=by
   rw [seqIndex_neg Ce h4] at h1;rw [Qt,<-hl];exact Rk h1
  exact subscriptTail_builtinR (x:=w) pl.isList.typeIs slot_list_getitem.lookup
   (wpAny_getItem_list_neg (Q:=λr s'=>r=w/\EP X Ys σ Q r s') pl.isList Ce (by rw [Qt] <;> omega) Ce (by rw [hj];simpa using ew) ⟨rfl,fin⟩) hs
theorem aI:qU X (uD X.K):=by
 intro value slice Ys s σ H x y v u Q I rx ry h hs;obtain⟨p,xs,i,z,rfl,rfl,hq,he,q⟩:=h;cases rx;obtain⟨t,rfl⟩:=ry;obtain⟨its,r,pl,hz⟩:=I.tuple hq;obtain⟨j,h1,h2,h3,h4,h5⟩:=xU he;obtain⟨w,ew,rw'⟩:=r.get h2;have hl:=r.length;have hn:=pf;have fin:EP X Ys σ Q w s:=⟨z,H,I,rw',q⟩;exact subscriptTail_builtinR (x:=w) pl.typeIs slot_tuple_getitem.lookup
  (getItem_tuple (j:=j) (Q:=λr s'=>r=w/\EP X Ys σ Q r s') pl Ce Ce (by rw [Qt,<-hl];exact h1) (by simpa using ew) ⟨rfl,fin⟩) hs
theorem xW:qU X Cy:=by
 intro value slice Ys s σ H x y v u Q I rx ry h hs;obtain⟨z,i,c,rfl,rfl,hz,he,q⟩:=h;obtain⟨t,rfl⟩:=rx;obtain⟨t',rfl⟩:=ry;obtain⟨j,h1,h2,h3,h4,h5⟩:=xU he;have hl:z.cps.toList.length=z.length:=by simp [Str.length]
 rw [hl] at h1 h4 h5;have hn:=pf;exact tail_any (Xr s z t) slot_str_getitem.lookup (getItem_str (c:=c) (by
  have e1:decide (i < -(2 ^ 63:Int))=false:=decide_eq_false Ce;have e2:decide (i >= 2 ^ 63)=false:=decide_eq_false Ce;rw [e1,e2,QB]) (by rw [h1];simpa using h2) ⟨.str ⟨#[c]⟩,H,I.tok _,⟨_,rfl⟩,q⟩) hs
theorem HX(its:List Wx)(n j:Nat)(u:Wx):Tt (·.setIfInBounds j u) {cls:= .type "list",data:= .seq its.toArray n}={cls:= .type "list",data:= .seq (its.set j u).toArray n}:=by
 simp [Tt]
theorem ag.lst{Ys:List (WA×Obj)}{σ:St}{H:Hp}{s:WB}{p:WA}{xs:List V}(I:ag X Ys σ H s)(h:H p=some (.lst xs)):
 ∃(its:List Wx)(n:Nat),aM xs its/\s.heap.get? p=some {cls:= .type "list",data:= .seq its.toArray n}/\xs.length<=WG:=by
 obtain⟨z,its,n,r,e⟩:=I.hok p _ h;exact⟨its,n,r,e,z⟩
theorem ag.lstUpd{Ys:List (WA×Obj)}{σ:St}{H:Hp}{s:WB}{p:WA}{xs ys:List V}{its its':List Wx}{n n':Nat}{f:Obj->Obj}(I:ag X Ys σ H s)(h:H p=some (.lst xs))
 (ho:s.heap.get? p=some {cls:= .type "list",data:= .seq its.toArray n})(hf:f {cls:= .type "list",data:= .seq its.toArray n}={cls:= .type "list",data:= .seq its'.toArray n'})(r:aM ys its')(hz:ys.length<=WG)(t:Nat):
 ag X Ys σ (ao H p (.lst ys)) {s with heap:=s.heap.update p f,toks:=t}:=by
 have e:(s.heap.update p f).get? p=some {cls:= .type "list",data:= .seq its'.toArray n'}:=by
  rw [Rm f ho (by rw [hf] <;> rfl),hf]
 refine I.write (x:=p) (e:=p) (by rw [h];trivial) (.inl rfl) (λb u hb q=>(RI _ _ (Ne.symm hb)).trans q) ⟨_,e⟩ ?_;exact⟨hz,its',n',r,e⟩
def HY:V->V->V->Hp->(Hp->Prop)->Prop:=λo i v H Q=>∃p xs k j,o= .ref p/\i= .int k/\H p=some (.lst xs)/\oy xs.length k=some j/\Q (ao H p (.lst (xs.set j v)))
theorem HZ:B2 X HY:=by
 intro Ys s σ H o i v ov iv u Q I ro ri rv h;obtain⟨p,xs,k,j,rfl,rfl,hp,hj,q⟩:=h;cases ro;obtain⟨t,rfl⟩:=ri;obtain⟨its,n,r,ho,hz⟩:=I.lst hp;obtain⟨h1,h2,h3,h4⟩:=Cw hj;have hl:=r.length;have hn:=pf;have I':ag X Ys σ (ao H p (.lst (xs.set j v))) {s with heap:=s.heap.update p (Tt (·.setIfInBounds j u))}:=
  I.lstUpd hp ho (HX its n j u) (r.set rv j) (by rw [List.length_set];exact hz) s.toks
 by_cases h0:0<=k
 ·have hk:k.toNat=j:=by
   rw [seqIndex_of h0 h4] at h1;exact Rk h1
  exact PySem.W.ki_setAt ho h0 Ce (by rw [Qt,<-hl];exact h4) (by rw [hk];exact⟨_,I',q⟩)
 ·have hk:(k+(its.toArray.size:Int)).toNat=j:=by
   rw [seqIndex_neg Ce h3] at h1;rw [Qt,<-hl];exact Rk h1
  exact PySem.W.ki_setBack ho Ce (by rw [Qt,<-hl];exact h3) Ce (by rw [hk];exact⟨_,I',q⟩)
theorem Ia(lo hi:Option Int)(n:Nat):(XJ lo hi none n).1=((HT.sIx n 0 lo:Nat):Int)/\(XJ lo hi none n).2.1=((HT.sIx n n hi:Nat):Int)/\(XJ lo hi none n).2.2=1:=by
 refine⟨?_,?_,rfl⟩
 ·cases lo with
  | none=>simp [XJ,HT.sIx]
  | some i=>
   simp only [XJ,HT.sIx,VD,show(1:Int) > 0 by decide,if_true];by_cases h:i < 0
   ·simp only [h,if_true] <;> omega
   ·simp only [h,if_false] <;> omega
 ·cases hi with
  | none=>simp [XJ,HT.sIx]
  | some i=>
   simp only [XJ,HT.sIx,VD,show(1:Int) > 0 by decide,if_true];by_cases h:i < 0
   ·simp only [h,if_true] <;> omega
   ·simp only [h,if_false] <;> omega
theorem Ib(its:List Wx)(lo hi:Option Int):slicePick its.toArray lo hi none=((its.drop (HT.sIx its.length 0 lo)).take (HT.sIx its.length its.length hi - HT.sIx its.length 0 lo)).toArray:=by
 obtain⟨h1,h2,h3⟩:=Ia lo hi its.toArray.size;unfold slicePick;rw [h1,h2,h3];simp only [sliceRange_one,pick_run,Qt] <;> rfl
def Ic(K:Pt):V->Option Int->Option Int->Hp->VK->Prop:=λx lo hi H Q=>∃a xs,x= .ref a/\bg K H a xs/\∀p,H p=none->Q (.ref p) (ao H p (.lst (oq xs lo hi)))
theorem Ie:sS X (Ic X.K):=by
 intro Ys s σ H x v vl vu lo hi sl Q I rx hs pl pu h;obtain⟨a,xs,rfl,hx,q⟩:=h;cases rx;obtain⟨its,r,ht,hz⟩:=I.list hx;have hlen:=r.length;refine⟨"list",_,slot_list_getitem.lookup,ht.isList.typeIs,?_⟩;refine wpAny_getItem_list_slice ht.isList hs pl pu .none Wv ?_ (by rw [Qt] <;> omega);rw [Ib,<-hlen];refine⟨.ref s.heap.objs.size,_,I.laid (t':=s.toks) (o:= .lst (oq xs lo hi)) (λb ob q=>PB _ q) (PQ _) ?_,rfl,q _ (I.hok.fresh (PQ _))⟩;exact⟨Qz (Cv xs lo hi) hz,_,0,(r.drop (HT.sIx xs.length 0 lo)).take (HT.sIx xs.length xs.length hi - HT.sIx xs.length 0 lo),Qi _ rfl⟩
theorem kh:kB X (.builtin "len") (λxs H Q=>∃p ys,xs=[.ref p]/\(bg X.K H p ys\/aZ X.K H p ys)/\Q (.int ys.length) H):=by
 intro Ys s σ H xs us Q I r h;obtain⟨p,ys,rfl,hq,q⟩:=h;obtain⟨u,rfl,rx⟩:=lj r;cases rx;have hn:=pf;rcases hq with hq | hq
 ·obtain⟨its,r',pl,hz⟩:=I.list hq;have hlen:=r'.length;exact U9 pl.isList (by simp only [Qt] <;> omega) ⟨.int ys.length,H,I.tok _,⟨s.toks+1,by rw [Qt,hlen]⟩,q⟩
 ·obtain⟨its,r',pl,hz⟩:=I.tuple hq;have hlen:=r'.length;exact len_tuple pl (by simp only [Qt] <;> omega) ⟨.int ys.length,H,I.tok _,⟨s.toks+1,by rw [Qt,hlen]⟩,q⟩
theorem oz:kB X (.builtin "len") (λxs H Q=>∃z,xs=[.str z]/\z.length<=WG/\Q (.int z.length) H):=by
 intro Ys s σ H xs us Q I r h;obtain⟨z,rfl,hz,q⟩:=h;obtain⟨u,rfl,t,rfl⟩:=lj r;have hn:=pf;exact len_str Ce ⟨.int z.length,H,I.tok _,⟨_,rfl⟩,q⟩
theorem Ig:kB X (.type "list") (λxs H Q=>∃p ys,xs=[.ref p]/\(bg X.K H p ys\/aZ X.K H p ys)/\∀l,H l=none->Q (.ref l) (ao H l (.lst ys))):=by
 intro Ys s σ H xs us Q I r h;obtain⟨p,ys,rfl,hq,q⟩:=h;obtain⟨u,rfl,rx⟩:=lj r;cases rx;have fin:∀(its:List Wx),aM ys its->ys.length<=WG->∀(h':WL)(c':Nat),(∀b o',s.heap.get? b=some o'->h'.get? b=some o')->
  h'.get? s.heap.objs.size=some {cls:= .type "list",dict:=none,data:= .seq its.toArray c',slots:=#[]}->EP X Ys σ Q (.ref s.heap.objs.size) {s with heap:=h'}:=λits r' hz h' c' kp e=>
  ⟨.ref s.heap.objs.size,_,I.laid (t':=s.toks) kp (PQ _) (show bL X.prog X.w _ h' _ (.lst ys) from⟨hz,its,c',r',e⟩),rfl,q _ (I.hok.fresh (PQ _))⟩
 rcases hq with hq | hq
 ·obtain⟨its,r',pl,hz⟩:=I.list hq;have hlen:=r'.length;obtain⟨o,ho,hc,n,hd⟩:=pl.isList;exact call_list_seq p (.inl rfl) ho hc hd (λh' c' kp e=>fin its r' hz h' c' kp e) (by simp only [Qt] <;> omega)
 ·obtain⟨its,r',pl,hz⟩:=I.tuple hq;have hlen:=r'.length;obtain⟨o,ho,hc,n,hd⟩:=pl;exact call_list_seq p (.inr rfl) ho hc hd (λh' c' kp e=>fin its r' hz h' c' kp e) (by simp only [Qt] <;> omega)
theorem lZ:kB X (.type "tuple") (λxs H Q=>∃p ys,xs=[.ref p]/\((bg X.K H p ys/\∀l,H l=none->Q (.ref l) (ao H l (.tup ys)))\/(aZ X.K H p ys/\Q (.ref p) H))):=by
 intro Ys s σ H xs us Q I r h;obtain⟨p,ys,rfl,h⟩:=h;obtain⟨u,rfl,rx⟩:=lj r;cases rx;rcases h with⟨hq,q⟩ | ⟨hq,q⟩
 ·obtain⟨its,r',pl,hz⟩:=I.list hq;have hlen:=r'.length;refine call_tuple_list pl.isList (λh' kp=>?_) (by simp only [Qt] <;> omega);have I1:ag X Ys σ H {s with heap:=h'}:=I.kept (t':=s.toks) kp;have I2:ag X Ys σ (ao H h'.objs.size (.tup ys)) {s with heap:=h'.push {cls:= .type "tuple",data:= .seq its.toArray}}:=
   I1.laid (t':=s.toks) (λb o e=>PB _ e) (PQ _) (show bL X.prog X.w _ _ _ (.tup ys) from⟨hz,its,r',Vf _ _⟩)
  exact⟨.ref h'.objs.size,_,I2,rfl,q _ (I1.hok.fresh (PQ _))⟩
 ·obtain⟨its,r',pl,hz⟩:=I.tuple hq;exact call_tuple_same pl ⟨.ref p,H,I,rfl,q⟩
def Cz(K:Pt)(T:String)(x:V)(H:Hp):Prop:=match x with
 | .str _=>T="str"
 | .int _=>T="int"
 | .ref p=>(T="list"/\∃xs,bg K H p xs)\/(T="tuple"/\∃o,K.lookup p=some o/\o.cls= .type "tuple"/\o.dict=none)\/
  (T="dict"/\((∃kvs,H p=some (.dK kvs))\/∃kvs,H p=some (.dT kvs)))\/(T="set"/\∃S n,H p=some (.set S n))
 | _=>False
theorem Ih{Ys:List (WA×Obj)}{σ:St}{H:Hp}{s:WB}{T:String}{x:V}{v:Wx}(I:ag X Ys σ H s)(r:aJ x v)(ty:Cz X.K T x H):
 s.TypeIs v T/\∀a,v= .ref a->∃ob,s.heap.get? a=some ob/\ob.dict=none:=by
 cases x with
 | str z=>
  obtain⟨t,rfl⟩:=r;cases (show T="str" from ty);exact⟨Xr s z t,λ_ e=>nomatch e⟩
 | int i=>
  obtain⟨t,rfl⟩:=r;cases (show T="int" from ty);exact⟨typeIs_int s i t,λ_ e=>nomatch e⟩
 | ref p=>
  cases r;rcases ty with⟨rfl,xs,hq⟩ | ⟨rfl,o,hk,hc,hd⟩ | ⟨rfl,hk⟩ | ⟨rfl,S,n,hk⟩
  ·obtain⟨its,_,pl,_⟩:=I.list hq;refine⟨pl.isList.typeIs,λa e=>?_⟩;cases e;obtain⟨o,n,e,c,hd,_⟩:=pl;exact⟨o,e,hd⟩
  ·refine⟨⟨o,I.kIn p o hk,hc⟩,λa e=>?_⟩;cases e;exact⟨o,I.kIn _ o hk,hd⟩
  ·have z:∃o,s.heap.get? p=some o/\o.ExactDict:=by
    rcases hk with⟨kvs,hk⟩ | ⟨kvs,hk⟩
    ·obtain⟨_,_,_,_,o,_,_,e,ex,_⟩:=I.hok p _ hk;exact⟨o,e,ex⟩
    ·obtain⟨_,_,_,_,o,_,_,e,ex,_⟩:=I.hok p _ hk;exact⟨o,e,ex⟩
   obtain⟨o,e,ex⟩:=z;refine⟨⟨o,e,ex.1⟩,λa e2=>?_⟩;cases e2;exact⟨o,e,ex.2.1⟩
  ·obtain⟨o,_,_,_,e,ex,_⟩:=I.hok p _ hk;refine⟨⟨o,e,ex.1⟩,λa e2=>?_⟩;cases e2;exact⟨o,e,ex.2.1⟩
 | _=>exact RA ty
def Ii(K:Pt)(T:String)(r:V->List V->Hp->VK->Prop)(to:TE)(t:TA):TE:=λσ H Q=>to σ H λx H1=>Cz K T x H1/\t σ H1 λxs H2=>r x xs H2 Q
variable {o e:WI} {es:List WI} {to:TE} {t:TA} {name:Str} {apos cpos:Pos} {T id:String} {r:V->List V->Hp->VK->Prop}
theorem sU(pa:PlainAttrs T)(slot:Slot T name id)(hty:typeOf (.builtin id)=pure (.type "method_descriptor"))(hm:sT X id r)(ho:PE X o to)(ha:PA X (e::es) t)
 (hbase:Xn o name X.env (eval o X.env)=eval o X.env:=by rfl)
 (hfew:((WZ cpos (WH (e::es) X.env)).all (λx=>!x.1) && (Yb cpos (XM [] X.env)).all (λx=>x.1.isSome)
   && decide ((e::es).length+([]:List XA).length+(if ([]:List XA).isEmpty then 0 else 1) < 30))=true:=by rfl)
 (hline:(apos.endLine==cpos.line)=true:=by rfl)(hs:WH (e::es) X.env=(false,eval e X.env)::WH es X.env:=by rfl)(hplain:(WZ cpos (WH es X.env)).any (·.1)=false:=by rfl):
 PE X (.Call (.Attribute o name apos) (e::es) [] cpos) (Ii X.K T r to t):=by
 intro Ys s σ H Q I h;refine wpAny_Call_method_late hbase hfew hline rfl (aC (ho Ys s σ H _ I h) λv s1 ⟨x,H1,I1,r1,ty,q1⟩=>?_);obtain⟨h1,h2⟩:=Ih I1 r1 ty;refine⟨T,id,pa,slot,hty,h1,h2,?_⟩;have hA:=ha cpos Ys s1 σ H1 _ I1 q1;rw [hs] at hA⊢;refine UI (by show(false || (WZ cpos (WH es X.env)).any (·.1))=false;rw [hplain] <;> rfl) (UY ?_);exact aC hA λus s2 uu61=>by obtain⟨vs,H2,I2,r2,q2⟩:=uu61;exact hm Ys s2 σ H2 x vs v us Q I2 r1 r2 q2
end
def Ij(X:Cx)(id:String)(r:V->List V->Hp->VK->Prop):Prop:=
 ∀(Ys:List (WA×Obj))(s:WB)(σ:St)(H:Hp)(x:V)(xs:List V)(v:Wx)(us:List Wx)(Q:VK),ag X Ys σ H s->aJ x v->aM xs us->r x xs H Q->
  WD (WE X.prog X.w) X.A (call (.builtin id) (v::us)) (EP X Ys σ Q) X.xe s
theorem aM.one:∀{x:V}{us:List Wx},aM [x] us->∃u,us=[u]/\aJ x u
 | _,_,.cons r .nil=>⟨_,rfl,r⟩
theorem aM.rep{xs:List V}{us:List Wx}(h:aM xs us):∀k:Nat,aM (PK k xs).flatten (PK k us).flatten
 | 0=>.nil
 | k+1=>by
  rw [R7,R7,R3,R3];exact aM.append h (aM.rep h k)
theorem CA(its:List Wx):∀(k:Nat)(acc:List Wx),
 VJ (λx1 x2=>x1++x2) acc.toArray (PK k its.toArray)=(acc++(PK k its).flatten).toArray
 | 0,acc=>by simp
 | k+1,acc=>by
  have e:acc.toArray++its.toArray=(acc++its).toArray:=Wv
  have e2:(acc++its)++(PK k its).flatten=acc++(PK (k+1) its).flatten:=by
   rw [R7,R3,Uk]
  rw [<-e2,<-CA its k (acc++its),<-e,R7,R5]
section
variable {X:Cx} {Ys:List (WA×Obj)} {σ:St} {H:Hp} {s:WB} {l b:WA} {xs ys zs:List V}
theorem ag.lset{its its':List Wx}{n:Nat}{f:Array Wx->Array Wx}{t':Nat}(I:ag X Ys σ H s)(hH:H l=some (.lst xs))
 (e:s.heap.get? l=some {cls:= .type "list",data:= .seq its.toArray n})(hf:f its.toArray=its'.toArray)(hv:aM ys its')(hz:ys.length<=WG):
 ag X Ys σ (ao H l (.lst ys)) {s with heap:=s.heap.update l (Tt f),toks:=t'}:=by
 have q:=PySem.IsL.update e f;rw [hf] at q;refine I.write (x:=l) (e:=l) (by rw [hH];exact trivial) (.inl rfl) (λb' u hb hu=>(RI s.heap (Tt f) (Ne.symm hb)).trans hu) ⟨_,q⟩ ?_;exact⟨hz,its',_,hv,q⟩
theorem ag.lnew{its:List Wx}{t':Nat}(I:ag X Ys σ H s)(hv:aM ys its)(hz:ys.length<=WG):
 ag X Ys σ (ao H s.heap.objs.size (.lst ys)) {s with heap:=s.heap.push {cls:= .type "list",data:= .seq its.toArray},toks:=t'}:=
 I.laid (λ_ _ q=>PB _ q) (PQ _) ⟨hz,its,0,hv,Qi _ rfl⟩
theorem ag.fresh(I:ag X Ys σ H s):H s.heap.objs.size=none:=I.hok.fresh (PQ _)
theorem ag.lstM(I:ag X Ys σ H s)(hH:H l=some (.lst xs)):xs.length<=WG/\∃(its:List Wx)(n:Nat),aM xs its/\xs.length=its.length/\s.heap.get? l=some {cls:= .type "list",data:= .seq its.toArray n}:=by
 obtain⟨z,its,n,r,e⟩:=I.hok l _ hH;exact⟨z,its,n,r,r.length,e⟩
theorem Ik{n:Nat}(h:n<=WG):Tn n=false:=by
 unfold Tn;exact decide_eq_false Ce
end
section
variable {X:Cx}
def Il:V->List V->Hp->VK->Prop:=λx vs H Q=>∃l xs y,x= .ref l/\vs=[y]/\H l=some (.lst xs)/\xs.length < WG/\Q .non (ao H l (.lst (xs++[y])))
theorem CB:Ij X "list.append" Il:=by
 intro Ys s σ H x vs v us Q I rx rv h;obtain⟨l,xs,y,rfl,rfl,hH,hz,q⟩:=h;cases rx;obtain⟨u,rfl,ru⟩:=rv.one;obtain⟨z,its,n,r,hl,e⟩:=I.lstM hH;refine Xs F.slot_list_append ⟨_,e,rfl⟩ F.entry_list_append (F.args_list_append_2 _ _) (PySem.list_append l its.toArray n u (by rw [Qt];omega)) ⟨e,?_⟩;refine⟨.non,_,I.lset (its':=its++[u]) hH e Wv (r.append (.cons ru .nil)) ?_,rfl,q⟩;rw [Rf,List.length_singleton];omega
def Im:R2:=λx y H Q=>∃l k xs,x= .ref l/\y= .int k/\H l=some (.lst xs)/\-(2 ^ 63)<=k/\k < 2 ^ 63/\xs.length*k.toNat<=WG/\
 ∀p,H p=none->Q (.ref p) (ao H p (.lst (PK k.toNat xs).flatten))
theorem Io{α:Type}(xs:List α)(k:Nat):(PK k xs).flatten.length=k*xs.length:=by
 induction k with
 | zero=>simp
 | succ k ih=>rw [R7,R3,Rf,ih,Nat.succ_mul,Nat.add_comm]
theorem Ip:bD X (Xc .Mult) Im:=by
 intro Ys s σ H x y v u Q I rx ry h;obtain⟨l,k,xs,rfl,rfl,hH,h1,h2,hz,q⟩:=h;cases rx;obtain⟨t,rfl⟩:=ry;obtain⟨z,its,n,r,hl,e⟩:=I.lstM hH;have hlen:its.toArray.size*k.toNat<=WG:=by rw [Qt,<-hl];exact hz
 have hcap:¬its.toArray.size*k.toNat > (2 ^ 63 - 1)/ 8:=by
  have:(WG:Nat)<=(2 ^ 63 - 1)/ 8:=tx
  omega
 have hfit:¬(!V1 k)=true:=by
  rw [fitsIndex_both h1 h2];exact Qx
 have hlong:¬Tn (its.toArray.size*k.toNat)=true:=by
  rw [Ik hlen];exact Qx
 have hnew:VJ (λx1 x2=>x1++x2) #[] (PK (if its.toArray.isEmpty=true then 0 else k.toNat) its.toArray)=(PK k.toNat its).flatten.toArray:=by
  have f0:∀m:Nat,VJ (λx1 x2=>x1++x2) #[] (PK m its.toArray)=(PK m its).flatten.toArray:=λm=>by
   have:=CA its m [];rw [P6] at this;exact this
  rw [f0];cases its with
  | nil=>simp
  | cons a r'=>rw [Ws Wv]
 refine wpAny_binaryOp_repeat_ref (T:="list") (U:="int") tx ⟨_,e,rfl⟩ (λs'=>typeIs_int s' k t) noFill_list_mul F.fills_int_mul F.slot_int_rmul repeat_list F.slot_int_index.lookup
  (Xs F.slot_int_rmul (typeIs_int s k t) F.entry_int_rmul (F.args_int_rmul_2 _ _) (int___rmul___int_list k t l its.toArray n)
    ⟨e,rfl,⟨_,e,rfl⟩,Xs F.slot_list_mul ⟨_,e,rfl⟩ F.entry_list_mul (F.args_list_mul_2 _ _) (AutoListH.list___mul___list_int_3 l its.toArray n k t hfit hcap hlong) ⟨e,?_⟩⟩)
 rw [hnew];exact⟨.ref _,_,I.lnew (t':=s.toks) (r.rep k.toNat) (by rw [Io,Nat.mul_comm];exact hz),rfl,q _ I.fresh⟩
end
end L2
namespace Att
open PySem PySem.W PySem.Calls PyProof.Rows
theorem Iq{P:Params}{h:WL}:∀(ns:List Int)(vs:List Wx),WellAll P h vs (ns.map SQ)->IntsAre vs ns:=by
 intro ns
 induction ns with
 | nil=>
  intro vs w;rw [Qf] at w;cases w;exact .nil
 | cons n ns ih=>
  intro vs w;rw [Py] at w;cases w with
  | cons a b=>
   cases a;exact .cons _ _ (ih _ b)
theorem Ir{l:OpenLaw}{n:Nat}(hn:l.most=some n){P:Params}{h:WL}{args:List WData}{vals:List Wx}
 (hpre:l.row.toRowW.claim.pre args=true)(hwl:WellAll P h vals args):
 ∃a vs ns,vals=[QJ a]/\args=[Uo (ns.map SQ)]/\h.get? a=some {cls:= .type "list",data:= .seq vs.toArray}/\IntsAre vs ns/\ns.length<=n:=by
 have hsh:WShape.hasAll [] args [.list .int]=true:=(pre_splitW hpre).1;have hc:l.pre.holds [] {args:=args}=true:=(pre_splitW hpre).2;obtain⟨d,r,rfl,h1,h2⟩:=hasAllW_cons hsh;obtain rfl:=hasAllW_nil h2;obtain⟨xs,rfl,h3⟩:=hasW_list h1;obtain⟨ns,rfl⟩:=items_int h3;have hlen:ns.length<=n:=by
  unfold OpenLaw.pre at hc;have h4:(WTm.not (.lt (.lit (.int (n:Int))) (.len (.arg 0)))).holds [] {args:=[.list (ns.map .int)]}=true:=by
   have h4:=(holds_andW hc).1;rw [hn] at h4;exact h4
  have h5:=condW_of h4 (w_not (w_lt w_lit (w_len_list (w_arg rfl))));rw [PD] at h5;refine Us λq=>?_;have q':(n:Int) < ((ns.length:Nat):Int):=Ce
  first
   | (rw [decide_eq_true q'] at h5;exact absurd h5 tx)
   | (simp at h5;omega)
 cases hwl with
 | cons w1 w2=>
  cases w2;cases w1 with
  | list ho hall=>exact⟨_,_,ns,rfl,rfl,ho,Iq ns _ hall,hlen⟩
theorem Iu(l:OpenLaw)(args:List WData):l.row.toRowW.claim.post args (.bool true) args=true:=
 postW_of (r:=l.row.toRowW) (X:=(true==true))
  (show WShape.has [] (.bool true) .bool=true by first | rfl | decide | simp [WShape.has,WShape.arms,WShape.armsAll])
  (show(WTm.eq .res (.lit (.bool true))).value [] {args:=args,res:=some (.bool true),after:=args}=some (.bool (true==true)) from w_eq_bool (w_res rfl) w_lit) rfl
end Att
namespace L2
open PySem PySem.Spec PyProof.Rows
theorem CC:∀{vs:List Wx}{ns:List Int},IntsAre vs ns->aM (ns.map V.int) vs
 | _,_,.nil=>.nil
 | _,_,.cons n t h=>.cons ⟨t,rfl⟩ (CC h)
def uE(H:Hp):Prop:=∀b,H b=none\/∃o xs,H b=some (.frz o (.lst xs))
theorem Iw{P:WM}{w:WO}{K:Pt}{mg mb:Str->Option Wx}{CX:kT}{k:Nat}{fa a:WA}{fd:WJ}{x:Str}{sp:Sp}{s₁:WB}{vs:List Wx}{ns:List Int}
 (KX:K.In s₁.heap)(hns:s₁.heap.Ns WK mg)(hb:s₁.heap.Ns builtinsNs mb)(hbb:∀x:Str,x≠"__name__"->mb x=WU x)(hlim:s₁.heap.NoLimit)(hg:s₁.gens=#[])
 (ha:s₁.heap.get? a=some {cls:= .type "list",data:= .seq vs.toArray})(hi:IntsAre vs ns)(hl:ns.length<=WG)(hr:bQ k callerA)
 (F:∀base:WL,K.In base->base.Ns WK mg->aF P w K mg base CX k fa fd [x] sp)(hbind:∀(s:WB) (u:Wx),BindsTo s fd ⟨[u],[]⟩ [(x,u)])
 (hsp:∀H:Hp,uE H->bg K H a (ns.map V.int)->sp [.ref a] H (λv _=>v= .bl true) λ_ _ _=>False)
 (hCX:∀H e s',CX [] H s₁ (λ_ _ _=>False) e s'->False):
 Xt (WE P w) callerA (.call (.ref fa) ⟨[.ref a],[]⟩) (λr s'=>r= .ok (.ret (.bool true))/\OldK s₁.heap s'.heap/\s'.os=s₁.os/\XR s'.gens) s₁:=by
 have rv:=CC hi;have lenV:=hi.length;have core:∀H:Hp,uE H->bg K H a (ns.map V.int)->bV P w H s₁.heap->(∀b,H b≠none->b=a)->(H a≠none->K.lookup a=none)->
  Xt (WE P w) callerA (.call (.ref fa) ⟨[.ref a],[]⟩) (λr s'=>r= .ok (.ret (.bool true))/\OldK s₁.heap s'.heap/\s'.os=s₁.os/\XR s'.gens) s₁:=by
  intro H hO hS hok hA hK;have base_of:∀{b:WA}{o:Obj},s₁.heap.get? b=some o->H b=none->(oa s₁.heap H).get? b=some o:=λe n=>G2 e n;have noA:∀{b:WA}{o:Obj}{es:Array Yi}{ep:Nat},s₁.heap.get? b=some o->o.data= .dict es ep->H b=none:=λ{b o es ep} e d=>by
   cases q:H b with
   | none=>rfl
   | some u=>
    have e':b=a:=hA b (by rw [q];simp);subst e';rw [ha] at e;cases e;have d':Data.seq vs.toArray _=Data.dict es ep:=d;cases d'
  have nsK:∀{b:WA}{m:Str->Option Wx},s₁.heap.Ns b m->(oa s₁.heap H).Ns b m:=λ{b m} ⟨o,es,ep,e,d,r⟩=>⟨o,es,ep,base_of e (noA e d),d,r⟩;have hKb:K.In (oa s₁.heap H):=λb o e=>base_of (KX b o e) (by
   cases q:H b with
   | none=>rfl
   | some u=>
    have e':b=a:=hA b (by rw [q];simp);subst e';rw [hK (by rw [q];simp)] at e;cases e)
  have hM:Mod K mg (oa s₁.heap H):=⟨hKb,nsK hns,⟨mb,nsK hb,hbb⟩,let ⟨mc,h1,h2⟩:=hlim;⟨mc,nsK h1,h2⟩⟩;have e0:p9 P w K mg (oa s₁.heap H) callerA [] s₁ H:=⟨rfl,hM,λb o e=>G3 e,Nat.le_of_eq (G1 _ _),trivial,λb hb=>absurd (show b∈([]:List WA) from hb) Wv,hok,.of_eq hg⟩;refine Xj ((F _ hKb (nsK hns)).run callerA [] s₁ H ⟨[.ref a],[]⟩ [.ref a] [.ref a] _ _ hr e0 (hbind s₁ (.ref a)) (.cons rfl .nil) (hsp H hO hS)) λr s' h=>?_;cases r with
  | error e=>exact(hCX H e s' h).elim
  | ok fl=>
   cases fl with
   | next=>exact RA h
   | brk=>exact RA h
   | cont=>exact RA h
   | ret u=>
    obtain⟨v,H',os,bare,un,hok',r',q⟩:=h;have q':v= .bl true:=q;subst q';obtain rfl:u=Sr true:=r';refine⟨rfl,OldK.of_keep λb o e=>?_,os,bare⟩;cases q:H b with
    | none=>exact un.keep b o e q (by intro z;exact absurd (show b∈([]:List WA) from z) Wv) Wv
    | some u=>
     rcases hO b with z | ⟨ob,xs,z⟩
     ·rw [q] at z;cases z
     ·have z2:=un.frzs b ob _ z;obtain⟨e1,_⟩:=hok b _ z;obtain⟨e2,_⟩:=hok' b _ z2;rw [e] at e1;cases e1;exact e2
 cases hk:K.lookup a with
 | some o=>
  have e:=KX a o hk;rw [ha] at e;cases e;refine core (λ_=>none) (λ_=>.inl rfl) (.inr ⟨_,vs.toArray,_,hk,rfl,rfl,rfl,by rw [Qt,lenV];exact hl,by simpa using rv⟩) (λb u z=>by have z':(none:Option HO)=some u:=z;cases z') (λb z=>absurd rfl z) λz=>absurd rfl z
 | none=>
  refine core (λb=>if b=a then some (.frz {cls:= .type "list",data:= .seq vs.toArray} (.lst (ns.map V.int))) else none) (λb=>?_) (.inl (.inr ⟨{cls:= .type "list",data:= .seq vs.toArray},Wt rfl⟩)) (λb u z=>?_) (λb z=>?_) λ_=>hk
  ·by_cases hb:b=a
   ·exact .inr ⟨_,_,Wt hb⟩
   ·exact .inl (Ws hb)
  ·by_cases hb:b=a
   ·have z':=(Wt hb).symm.trans z;cases z';subst hb;exact⟨ha,by rw [PD];exact hl,vs,_,rv,ha⟩
   ·have z':=(Ws hb).symm.trans z;cases z'
  ·by_cases hb:b=a
   ·exact hb
   ·exact absurd (Ws hb) z
abbrev KOf{K:Pt}{h:WL}(_:K.In h):Pt:=K
def inClass(s:WQ)(j:Nat):WQ:=match s with
 | .ClassDef _ _ _ body _ _ _ _ _ _ _=>body.getD j (.Pass ⟨0,0,0,0⟩)
 | _=>.Pass ⟨0,0,0,0⟩
def nM(s:WQ):Arguments:=match s with
 | .FunctionDef _ a _ _ _ _ _ _ _ _=>a
 | _=>{posonlyargs:=[],args:=[],vararg:=none,kwonlyargs:=[],kw_defaults:=[],kwarg:=none,defaults:=[]}
def l3(s:WQ):List WQ:=match s with
 | .FunctionDef _ _ b _ _ _ _ _ _ _=>b
 | _=>[]
def az(s:WQ):W5:=match s with
 | .FunctionDef _ _ _ _ _ _ sc _ _ _=>sc
 | _=>{kind:= .function,names:=[],isGenerator:=false,isCoroutine:=false}
abbrev CX0:kT:=λ_ _ _ _ _ _=>False
abbrev E0:XK:=λ_ _ _=>False
theorem CD{X:Cx}:qT CX0 X E0:=λ_ _ _ _ _ _ _ h=>h.elim
structure lK (K:Pt) (x qual:Str) (st:WQ) (f:WA) (fd:WJ):Prop where
 ex:∃(oc:Wx)(od:Option WA)(kV doc pm:Wx)(an:Option WA)(cdv ct:Wx)(osl:Array (Option Wx)),
  fd=RV x qual (nM st) (l3 st) (az st) .none kV doc pm an cdv ct/\K.lookup f=some ⟨oc,od,.func fd,osl⟩/\Ts K cdv qual=true
 kp:Se K (.ref f)=true
section
variable {P:WM} {w:WO} {K:Pt} {mg:Str->Option Wx} {base:WL}
theorem lK.ok{x qual:Str}{st:WQ}{f:WA}{fd:WJ}{N ps:List Str}{k:Nat}{sp:Sp}(F:lK K x qual st f fd)(S:aN N ps (az st))(len:∀vs H Q E,sp vs H Q E->vs.length=ps.length)
 (hbody:∀(cdv:Wx) (A:WR) (outer:List Env) (s:WB) (H:Hp) (vs:List V) (Q:VK) (E:XK),bQ k (A.deeper (XH qual (az st) s.heap.objs.size f cdv))->sp vs H Q E->
   ∃t,bG (kc CX0 P w K mg base N qual (az st) f cdv A outer s H E).nox (l3 st) t/\t {nx:=λ_ H'=>Q .non H',rt:=Q} (start N vs) H):aF P w K mg base CX0 (k+1) f fd ps sp:=by
 obtain⟨oc,od,kV,doc,pm,an,cdv,ct,osl,rfl,lk,hcd⟩:=F.ex;refine Cs lk hcd S len λA outer s H vs Q E hr hsp=>?_;obtain⟨t,h,q⟩:=hbody cdv A outer s H vs Q E hr hsp;exact⟨t,h.nox,q⟩
theorem lK.binds{x qual:Str}{st:WQ}{f:WA}{fd:WJ}{ps:List Str}(F:lK K x qual st f fd)
 (h:∀(kV doc pm:Wx) (an:Option WA) (cdv ct:Wx) (us:List Wx),us.length=ps.length->bindArgs (RV x qual (nM st) (l3 st) (az st) .none kV doc pm an cdv ct) ⟨us,[]⟩=pure (ps.zip us)):mC K fd ps []:=by
 obtain⟨oc,od,kV,doc,pm,an,cdv,ct,osl,rfl,lk,hcd⟩:=F.ex;exact .all (h kV doc pm an cdv ct)
theorem CF{x qual:Str}{st:WQ}{f:WA}{oc:Wx}{od an:Option WA}{osl:Array (Option Wx)}{kV doc pm cdv ct:Wx}(l:K.lookup f=some ⟨oc,od,.func (RV x qual (nM st) (l3 st) (az st) .none kV doc pm an cdv ct),osl⟩)
 (c:Ts K cdv qual=true)(k:Se K (.ref f)=true):lK K x qual st f (RV x qual (nM st) (l3 st) (az st) .none kV doc pm an cdv ct):=⟨⟨oc,od,kV,doc,pm,an,cdv,ct,osl,rfl,l,c⟩,k⟩
end
section
variable {X:Cx}
theorem pv(i:Nat){x:Str}{pos:Pos}(hN:X.N[i]?=some x:=by rfl)(hv:so X.env.scope x:=by first | exact Ut rfl | exact TJ (Ut rfl) | exact TJ (TJ rfl))(hd:(x==("__debug__":Str))=false:=by decide)
 (hcd:(x==("__classdict__":Str))=false:=by decide):PE X (.Name x pos) (oh i):=pW hN hv hd hcd
end
def aq(H H':Hp):Prop:=∀b o,H b=some o->H' b=some o
theorem aq.refl(H:Hp):aq H H:=λ_ _ h=>h
theorem aq.trans{H H1 H2:Hp}(a:aq H H1)(b:aq H1 H2):aq H H2:=λc o h=>b c o (a c o h)
def mf(env:Env)(names:List (Str×W9))(cs:List (Str×WA)):List (Str×WA):=
 names.foldl (λcs p=>if (p.2==RC)=true then(p.1,(env.cells.lookup p.1).getD 0)::cs else cs) cs
theorem CG{scope:W5}{env:Env}(h:∀y∈scope.names,y.2= .free->∃c,env.cells.lookup y.1=some c):closureFor scope env=pure (mf env scope.names []):=by
 unfold closureFor;have key:∀(l:List (Str×W9))(cs:List (Str×WA)),(∀y∈l,y.2= .free->∃c,env.cells.lookup y.1=some c)->
  (forIn l cs λ(x:Str×W9) (r:List (Str×WA))=>(if (x.2==RC)=true then do let a<-cellOf env x.1;pure (SR ((x.1,a)::r)) else pure (SR r):Sem (ForInStep (List (Str×WA)))))=pure (mf env l cs):=by
  intro l
  induction l with
  | nil=>intro cs _;rfl
  | cons p r ih=>
   intro cs hl;rw [UE];by_cases hk:(p.2==RC)=true
   ·obtain⟨c,hc⟩:=hl p RE (by simpa using hk);rw [Wt hk];have e:cellOf env p.1=pure c:=by unfold cellOf;rw [hc]
    rw [e];simp only [pure_bind];rw [ih _ λy hy=>hl y (Q4 _ hy)];unfold mf;rw [R5,Wt hk,hc];rfl
   ·rw [Ws hk];simp only [pure_bind];rw [ih _ λy hy=>hl y (Q4 _ hy)];unfold mf;rw [R5,Ws hk]
 have:=key scope.names [] h;simp only [bind_pure];exact this
theorem xX{env:Env}:∀(l:List (Str×W9))(cs:List (Str×WA)){x:Str}{c:WA},(∀y∈l,y.2= .free->∃c,env.cells.lookup y.1=some c)->(∀y d,cs.lookup y=some d->env.cells.lookup y=some d)->
 (mf env l cs).lookup x=some c->env.cells.lookup x=some c
 | [],cs,x,c,_,hc,h=>hc x c h
 | p::r,cs,x,c,hl,hc,h=>by
  unfold mf at h;rw [R5] at h;by_cases hk:(p.2==RC)=true
  ·rw [Wt hk] at h;refine xX r _ (λy hy=>hl y (Q4 _ hy)) (λy d e=>?_) h;obtain⟨a,ha⟩:=hl p RE (by simpa using hk);rw [Q8] at e;cases hx:y==p.1 with
   | true=>
    rw [hx] at e;have hy:y=p.1:=by simpa using hx
    rw [ha] at e;cases e;rw [hy];exact ha
   | false=>rw [hx] at e;exact hc y d e
  ·rw [Ws hk] at h;exact xX r cs (λy hy=>hl y (Q4 _ hy)) hc h
theorem xY{env:Env}:∀(l:List (Str×W9))(cs:List (Str×WA)){x:Str},(∃c,cs.lookup x=some c)->∃c,(mf env l cs).lookup x=some c
 | [],cs,x,h=>h
 | p::r,cs,x,⟨c,h⟩=>by
  unfold mf;rw [R5];by_cases hk:(p.2==RC)=true
  ·rw [Wt hk];refine xY r _ ?_;rw [Q8];cases hx:x==p.1 with
   | true=>exact⟨_,rfl⟩
   | false=>exact⟨c,h⟩
  ·rw [Ws hk];exact xY r cs ⟨c,h⟩
theorem xZ{env:Env}:∀(l:List (Str×W9))(cs:List (Str×WA)){x:Str},(x,RC)∈l->∃c,(mf env l cs).lookup x=some c
 | [],_,_,h=>by simp at h
 | p::r,cs,x,h=>by
  unfold mf;rw [R5];rcases PH.mp h with e | e
  ·subst e;rw [Wt (by rfl)];exact xY r _ ⟨(env.cells.lookup x).getD 0,by rw [Q8];simp⟩
  ·exact xZ r _ e
theorem Iy{env:Env}{scope:W5}{x:Str}(h:(relabel scope env).names.lookup x=some .cell\/(relabel scope env).names.lookup x=some .free):scope.names.lookup x=some .free\/scope.names.lookup x=some .cell:=by
 have key:∀(l:List (Str×W9)),
  ((l.map λ(n,k)=>if (k==RC && env.scope.kind== .function && env.kindOf n==some .cell) then(n,TM) else(n,k)).lookup x=some .cell\/
  (l.map λ(n,k)=>if (k==RC && env.scope.kind== .function && env.kindOf n==some .cell) then(n,TM) else(n,k)).lookup x=some .free)->l.lookup x=some .free\/l.lookup x=some .cell:=by
  intro l
  induction l with
  | nil=>intro h;simp at h
  | cons p r ih=>
   obtain⟨n,k⟩:=p;intro h;rw [Py] at h;rw [Q8];by_cases hx:x=n
   ·subst hx;rw [beq_self_eq_true];by_cases hq:(k==RC && env.scope.kind== .function && env.kindOf x==some .cell)=true
    ·have:k= .free:=by simp only [Qh,beq_iff_eq] at hq;exact hq.1.1
     subst this;exact .inl rfl
    ·simp only [Ws hq,Q8,beq_self_eq_true] at h;exact h.symm
   ·have hb:(x==n)=false:=by simpa using hx
    rw [hb];refine ih ?_;by_cases hq:(k==RC && env.scope.kind== .function && env.kindOf n==some .cell)=true
    ·simpa only [Wt hq,Q8,hb] using h
    ·simpa only [Ws hq,Q8,hb] using h
 exact key scope.names h
theorem Iz{env:Env}{scope:W5}{x:Str}(h:scope.names.lookup x=some .cell\/scope.names.lookup x=some .free):(relabel scope env).names.lookup x=some .cell\/(relabel scope env).names.lookup x=some .free:=by
 have key:∀(l:List (Str×W9)),l.lookup x=some .cell\/l.lookup x=some .free->
  ((l.map λ(n,k)=>if (k==RC && env.scope.kind== .function && env.kindOf n==some .cell) then(n,TM) else(n,k)).lookup x=some .cell\/
  (l.map λ(n,k)=>if (k==RC && env.scope.kind== .function && env.kindOf n==some .cell) then(n,TM) else(n,k)).lookup x=some .free):=by
  intro l
  induction l with
  | nil=>intro h;simp at h
  | cons p r ih=>
   obtain⟨n,k⟩:=p;intro h;rw [Py];by_cases hx:x=n
   ·subst hx;rw [Q8,beq_self_eq_true] at h;by_cases hq:(k==RC && env.scope.kind== .function && env.kindOf x==some .cell)=true
    ·left;simp only [Wt hq,Q8,beq_self_eq_true]
    ·simp only [Ws hq,Q8,beq_self_eq_true];exact h
   ·have hb:(x==n)=false:=by simpa using hx
    rw [Q8,hb] at h;by_cases hq:(k==RC && env.scope.kind== .function && env.kindOf n==some .cell)=true
    ·simpa only [Wt hq,Q8,hb] using ih h
    ·simpa only [Ws hq,Q8,hb] using ih h
 exact key scope.names h
structure bR (sc:W5) (N N':List Str) (k:Nat) (fr:List Nat) (scope:W5):Prop where
 kind:scope.kind= .function
 cell:∀y∈scope.names,y.2= .cell->scope.names.lookup y.1=some .cell
 names:∀y∈scope.names,y.2= .local->scope.names.lookup y.1=some .local
 nd:N'.Nodup
 slot:fr.map (λj=>N[j]?)=(N'.drop k).map some
 frees:∀x∈N'.drop k,scope.names.lookup x=some .free
 outer:∀y∈scope.names,y.2= .free->sc.names.lookup y.1=some .cell\/sc.names.lookup y.1=some .free
 outer':∀x∈N'.drop k,sc.names.lookup x=some .cell\/sc.names.lookup x=some .free
 len:N'.length=k+fr.length
theorem uF:∀(l:List (Str×W9)){n:Nat}{a:List (Str×WA)}{x:Str}{c:WA},(W8 n l a).lookup x=some c->n<=c\/a.lookup x=some c
 | [],_,_,_,_,h=>.inr h
 | (y,k)::r,n,a,x,c,h=>by
  unfold W8 at h;split at h
  ·rcases uF r h with z | z
   ·exact .inl Ce
   ·rw [Q8] at z;split at z
    ·exact .inl (by cases z;exact PQ _)
    ·exact .inr z
  ·exact uF r h
theorem x4:∀(l:List (Str×W9)){n:Nat}{a:List (Str×WA)}{x:Str}{c:WA},l.lookup x=some .cell->(W8 n l a).lookup x=some c->n<=c
 | [],_,_,_,_,e,_=>nomatch e
 | (y,k)::r,n,a,x,c,e,h=>by
  unfold W8 at h;rw [Q8] at e;cases hx:x==y with
  | true=>
   rw [hx] at e;cases e;have h:List.lookup x (W8 (n+1) r ((y,n)::a))=some c:=h;rcases uF r h with z | z
   ·exact Ul z
   ·rw [Q8,hx] at z;cases z;exact PQ _
  | false=>
   rw [hx] at e;split at h
   ·exact Ul (x4 r e h)
   ·exact x4 r e h
theorem x5:∀(l:List (Str×W9)){n:Nat}{a:List (Str×WA)}{x:Str},(∀y∈l,y.2= .cell->y.1≠x)->(W8 n l a).lookup x=a.lookup x
 | [],_,_,_,_=>rfl
 | (y,k)::r,n,a,x,h=>by
  unfold W8;split
  ·rename_i hk;rw [x5 r λz hz=>h z (Q4 _ hz),Q8];have:(x==y)=false:=by simpa using Ne.symm (h (y,k) RE (by simpa using hk))
   rw [this]
  ·exact x5 r λz hz=>h z (Q4 _ hz)
theorem x6:∀(l:List (Str×W9)){n:Nat}{a:List (Str×WA)},(∀x c,a.lookup x=some c->c < n)->(∀x y c,a.lookup x=some c->a.lookup y=some c->x=y)->∀x y c,(W8 n l a).lookup x=some c->(W8 n l a).lookup y=some c->x=y
 | [],_,_,_,h=>h
 | (z,k)::r,n,a,hl,hi=>by
  unfold W8;split
  ·have one:∀x c,((z,n)::a).lookup x=some c->x=z/\c=n\/c < n/\a.lookup x=some c:=λx c e=>by
    rw [Q8] at e;cases hx:x==z with
    | true=>rw [hx] at e;cases e;exact .inl ⟨by simpa using hx,rfl⟩
    | false=>rw [hx] at e;exact .inr ⟨hl x c e,e⟩
   refine x6 r (λx c e=>?_) λx y c e1 e2=>?_
   ·rcases one x c e with⟨_,z⟩ | ⟨z,_⟩
    ·rw [z];exact So _
    ·exact RN z
   ·rcases one x c e1 with⟨a1,b1⟩ | ⟨a1,b1⟩ <;> rcases one y c e2 with⟨a2,b2⟩ | ⟨a2,b2⟩
    ·rw [a1,a2]
    ·omega
    ·omega
    ·exact hi x y c b1 b2
  ·exact x6 r hl hi
theorem x8:∀(l:List (Str×W9)){h:WL}{a:List (Str×WA)},(∀x c,a.lookup x=some c->∃v,h.IsCell c v)->∀x c,(W8 h.objs.size l a).lookup x=some c->∃v,(pushCells h l).IsCell c v
 | [],_,_,h=>h
 | (z,k)::r,h,a,ha=>by
  unfold W8 pushCells;split
  ·have:=x8 r (h:=h.push {cls:= .type "cell",data:= .cell none}) (a:=(z,h.objs.size)::a) λx c e=>by
    rw [Q8] at e;split at e
    ·cases e;exact⟨none,_,Qi _ rfl,rfl⟩
    ·obtain⟨v,q⟩:=ha x c e;exact⟨v,q.keeps λb o e=>PB _ e⟩
   rwa [RY] at this
  ·exact x8 r ha
def uG(X:Cx)(scope:W5)(C:WA):List (Str×WA):=W8 (C+1) scope.names (mf X.env scope.names [])
def bW(X:Cx)(scope:W5)(N':List Str)(fp:List WA)(C:WA)(s:WB)(H:Hp):Cx where
 prog:=X.prog
 w:=X.w
 K:=X.K
 mg:=X.mg
 base:=X.base
 A:=X.A
 N:=N'
 s₀:=s
 H₀:=H
 env:=compEnvC scope (uG X scope C) C X.env
 outer:=X.stack
 stack:=X.stack
 ex:=fp
 fn:=λx=>scope.names.lookup x==some .cell
 calm:=X.calm
 pn:=[]
 xe:=λ_ _=>False
def bF(k:Nat)(fr:List Nat)(σ:St):St:=PK k none++fr.map λj=>(σ[j]?).join
def ph(σ σ':St):Prop:=σ.length=σ'.length/\∀(i:Nat) v,σ[i]?=some (some v)->σ'[i]?=some (some v)
section
variable {X:Cx} {Ys:List (WA×Obj)} {σ:St} {H:Hp} {s:WB} {scope:W5} {N':List Str} {k:Nat} {fr:List Nat} {fp:List WA}
theorem x9(S:bR X.env.scope X.N N' k fr scope)(I:ag X Ys σ H s):∀x c,(mf X.env scope.names []).lookup x=some c->X.env.cells.lookup x=some c:=λx c e=>xX scope.names [] (λy hy e=>I.ok.has y.1 (S.outer y hy e)) (λ_ _ z=>by simp at z) e
theorem CH(S:bR X.env.scope X.N N' k fr scope)(I:ag X Ys σ H s){x:Str}{c:WA}(e:(uG X scope s.heap.objs.size).lookup x=some c):s.heap.objs.size < c\/X.env.cells.lookup x=some c:=
 (uF _ e).imp (λz=>z) λz=>x9 S I x c z
theorem IA(S:bR X.env.scope X.N N' k fr scope)(I:ag X Ys σ H s)(hf:∀b∈fp,mQ X Ys H b)(hlt:∀b∈fp,b < s.heap.objs.size):
 (bW X scope N' fp s.heap.objs.size s H).Ok:=by
 have hcl:=x9 S I;refine⟨I.ok.mod,S.kind,I.ok.glob,I.ok.blt,PQ _,x6 _ (λx c e=>?_) (λx y c h1 h2=>I.ok.inj x y c (hcl x c h1) (hcl y c h2)),λx hx=>Sj.mp (TF _ _ _ ?_),λx c h e=>Ul (x4 _ (eq_of_beq h) e),I.ok.hd,I.ok.frames,.inl rfl,λb hb=>⟨QN (hlt b hb),λx c e=>?_⟩,
  I.bs,Qz I.ok.bsz I.sz,λb o e hb=>?_,λb hb hb'=>?_,I.stack,I.stkFree⟩
 ·obtain⟨v,o,ho,_⟩:=I.cell x c (hcl x c e);exact RN (PX ho)
 ·rcases Iy hx with z | z
  ·exact .inr (Sj.mpr (xZ _ _ (R6 z)))
  ·exact .inl z
 ·rcases CH S I e with z | z
  ·exact λq=>absurd (hlt b hb) (by rw [<-q];exact Nat.lt_asymm z)
  ·exact(hf b hb).2.2.2.2.1 x c z
 ·rcases(hf b hb).2.2.2.1 with z | z
  ·exact I.ok.noex b o e z
  ·exact absurd (Q0 (PX e) (Qz I.ok.bsz z)) (RR _)
 ·rcases PH.mp (I.stkSub b hb') with z | z
  ·exact(hf b hb).2.1 z
  ·exact(hf b hb).2.2.1 z
theorem IB(S:bR X.env.scope X.N N' k fr scope)(I:ag X Ys σ H s)(hf:∀b∈fp,mQ X Ys H b)(hlt:∀b∈fp,b < s.heap.objs.size){o:Obj}{h':WL}(e':h'=pushCells (s.heap.push o) scope.names)
 (hn:h'.Ns s.heap.objs.size (λ_=>none))(hk:∀b o,s.heap.get? b=some o->h'.get? b=some o):
 ag (bW X scope N' fp s.heap.objs.size s H) [] (bF k fr σ) H {s with heap:=h'}:=by
 have hcl:=x9 S I;refine⟨IA S I hf hlt,rfl,I.bare,Un.kept hk,⟨_,hn,λi x v h1 h2 h3=>?_⟩,λx c e=>?_,I.hok.fresh (PQ _),λx c e=>?_,λp hp=>absurd hp (by simp [bW]),I.hok.kept hk,?_⟩
 ·have hi:k<=i:=by
   rcases Vj i k with z | z
   ·exfalso;unfold bF at h2;rw [Sg (by simpa using z),SO,Wt z] at h2;cases h2
   ·exact z
  have h2':(fr.map λj=>(σ[j]?).join)[i - k]?=some (some v):=by
   unfold bF at h2;rw [Sz (by simpa using hi)] at h2;simpa using h2
  have h1':(N'.drop k)[i - k]?=some x:=by
   rw [List.getElem?_drop,Nat.add_sub_cancel' hi];exact h1
  have hmem:x∈N'.drop k:=Rr h1';have e2:(fr.map λj=>X.N[j]?)[i - k]?=some (some x):=by
   rw [S.slot,Rx,h1'];rfl
  obtain⟨j,hj,ej⟩:∃j,fr[i - k]?=some j/\X.N[j]?=some x:=by
   rw [Rx] at e2;cases e:fr[i - k]? with
   | none=>rw [e] at e2;cases e2
   | some j=>rw [e] at e2;exact⟨j,rfl,Rk e2⟩
  have hv:σ[j]?=some (some v):=by
   rw [Rx,hj] at h2';have h3':(σ[j]?).join=some v:=Rk h2';cases e:σ[j]? with
   | none=>rw [e] at h3';cases h3'
   | some o=>rw [e] at h3';rw [show o=some v from h3']
  obtain⟨m,hn0,hl⟩:=I.loc;have ho:=S.outer' x hmem;obtain⟨u,ru,lk⟩:=hl j x v ej hv (.inr ho);refine⟨u,ru,.inr ⟨Iz (.inr (S.frees x hmem)),?_⟩⟩;rcases lk with⟨z,_⟩ | ⟨_,c,hc,hx⟩
  ·exfalso;rcases ho with ho | ho
   ·exact absurd (z.symm.trans ho) Wv
   ·exact absurd (z.symm.trans ho) Wv
  ·obtain⟨c',hc'⟩:=xZ (env:=X.env) scope.names [] (R6 (S.frees x hmem));have:=hcl x c' hc';rw [hc] at this;cases this;obtain⟨o,ho,hd⟩:=hx;exact⟨c,(x5 _ λy hy ey ex=>by have q:=S.cell y hy ey;rw [ex,S.frees x hmem] at q;cases q).trans hc',o,hk c o ho,hd⟩
 ·subst e';have:=x8 scope.names (h:=s.heap.push o) (a:=mf X.env scope.names []) (λx c e=>by
   obtain⟨v,q⟩:=I.cell x c (hcl x c e);exact⟨v,q.keeps λb o e=>PB _ e⟩) x c
  rw [RY] at this;exact this e
 ·rcases CH S I e with z | z
  ·exact I.hok.fresh (S0 z)
  ·exact I.freeC x c z
 ·unfold bF;show _=N'.length;rw [Rf,UK,PD,S.len]
end
section
variable {prog:WM} {w:WO} {A:WR} {E:Wx->WB->Prop} {R:Yh->WB->Prop} {s:WB}
theorem IC{elt target iter:WI}{ifs:List WI}{scope:W5}{pos:Pos}{it acc:Wx}{env:Env}(I:Nat->WB->Prop)
 (turn:∀n s,I n s->WD (WE prog w) A (Xo it) (λr s₁=>match r with
  | none=>R (.ok .next) s₁
  | some v=>WD (WE prog w) A (X8 target it v) (λ_ s₁'=>WD (WE prog w) A (assign target env v) (λ_ s₂=>
   WD (WE prog w) A (forIn ifs true λc r=>if r=true then do let ok<-isTrue c env (eval c env);pure (SR ok) else pure (SR r)) (λok s₃=>
    if ok=true then WD (WE prog w) A (eval elt env) (λx s₄=>
     WD (WE prog w) A (call (.builtin "list.append") [acc,x]) (λ_ s₅=>∃m,m < n/\I m s₅) (λ_ _=>False) s₄) (λ_ _=>False) s₃
    else ∃m,m < n/\I m s₃) (λ_ _=>False) s₂) (λ_ _=>False) s₁') (λ_ _=>False) s₁) (λ_ _=>False) s)
 (n:Nat)(h:I n s):
 Xt (WE prog w) A (.compLoop (.ListComp elt [⟨target,iter,ifs,0⟩] scope pos) 0 it acc env) R s:=by
 refine codeAny_loop rfl I (λn s hI=>?_) n h;show WD _ A ((compTurn (.ListComp elt [⟨target,iter,ifs,0⟩] scope pos) 0 it acc env).onRaise (λx=>do X6 x env;theTreesLotGoes x)) _ _ s;refine wpAny_noted ?_;rw [compTurn_list];refine Wy (Xz (Wy (WW (turn n s hI) (λr s₁ h₁=>?_) λ_ _ h'=>h'.elim)));cases r with
 | none=>exact WC h₁
 | some v=>
  refine Wy (WW h₁ (λ_ s₁' h₁'=>?_) λ_ _ h'=>h'.elim);refine Wy (WW h₁' (λ_ s₂ h₂=>Wy (WW h₂ (λok s₃ h₃=>?_) λ_ _ h'=>h'.elim)) λ_ _ h'=>h'.elim);cases ok with
  | false=>exact WC ⟨rfl,h₃⟩
  | true=>
   exact Wy (Wy (WW h₃ (λx s₄ h₄=>Wy (WW h₄ (λ_ s₅ h₅=>WC (WC ⟨rfl,h₅⟩)) λ_ _ h'=>h'.elim)) λ_ _ h'=>h'.elim))
end
def l6(X:Cx)(ifs:List WI)(t:TT):Prop:=
 ∀(Ys:List (WA×Obj))(s:WB)(σ:St)(H:Hp)(Q:Bool->Hp->Prop),ag X Ys σ H s->t σ H Q->
  WD (WE X.prog X.w) X.A (forIn ifs true λc r=>if r=true then do let ok<-isTrue c X.env (eval c X.env);pure (SR ok) else pure (SR r)) (TP X Ys σ Q) X.xe s
def CI:TT:=λ_ H Q=>Q true H
theorem CJ{X:Cx}:l6 X [] CI:=λYs s σ H Q I h=>wpAny_tests_nil ⟨H,I,h⟩
theorem ID{X:Cx}{c:WI}{t:TT}(h:PT X c t):l6 X [c] t:=λYs s σ H Q I hq=>wpAny_tests_one (h Ys s σ H Q I hq)
theorem bV.but{P:WM}{w:WO}{H:Hp}{h h':WL}{C:WA}(x:bV P w H h)(hC:H C=none)(k:∀b o,b≠C->h.get? b=some o->h'.get? b=some o):bV P w H h':=λa o e=>by
 refine(x a o e).stay (λb u hb q=>k b u ?_ q) (λ_ q=>q) (λ_ _ q=>q) λ_ _ q=>q;intro z;subst z;rcases hb with z | z
 ·rw [<-z,hC] at e;cases e
 ·rw [hC] at z;cases z
theorem IE{M:XS}{A:WR}{E:Wx->WB->Prop}{s:WB}{scope:W5}{g:WA}{cl:List (Str×WA)}{qual:Str}{e:Env}{Q:Env->WB->Prop}
 (hQ:∀h',h'=pushCells (s.heap.push {cls:= .type "dict",data:= .dict #[]}) scope.names->h'.Ns s.heap.objs.size (λ_=>none)->(∀b o,s.heap.get? b=some o->h'.get? b=some o)->
  Q (newEnv scope s.heap.objs.size g (W8 (s.heap.objs.size+1) scope.names cl) qual none .none (some e) builtinsNs) {s with heap:=h'}):
 WD M A (newFunctionEnv scope g cl [] qual none .none (some e)) Q E s:=by
 simp only [newFunctionEnv,Option.isSome_some,if_true];refine Wy (wpAny_alloc (Wy (wpAny_layCells _ (λname kind cells=>by cases hkc:kind==TM <;> simp [hkc]) _ _ _ _ ?_)));rw [show({s with heap:=s.heap.push {cls:= .type "dict",data:= .dict #[]}}:WB).heap.objs.size=s.heap.objs.size+1 from RY ..];rw [UL];exact Wy (WC (WC (hQ _ rfl ((Heap.Ns.new s.heap (.type "dict")).keeps (pushCells_keeps _ _)) λb o e=>pushCells_keeps _ _ b o (PB _ e))))
def pj(wi:TI)(g:TG)(tc:TT)(te:TE)(k:Nat)(fr:List Nat):TE:=λσ H Q=>wi σ H λJ H1=>∀D,H1 D=none->∃W:Nat->Nat->Hp->Prop,(∃m,W 0 m (ao H1 D (.lst [])))/\∀i m H,W i m H->
 (J.stop i H/\Q (.ref D) H)\/(J.go i H/\∀x H',J.yld i H x H'->g x (bF k fr σ) H' λσ2 H2=>ph (bF k fr σ) σ2/\tc σ2 H2 λok H3=>
  if ok=true then te σ2 H3 λy H4=>∃ys,H4 D=some (.lst ys)/\ys.length < WG/\∃m',m' < m/\W (i+1) m' (ao H4 D (.lst (ys++[y])))
  else ∃m',m' < m/\W (i+1) m' H3)
section
variable {X:Cx} {tg iter elt:WI} {ifs:List WI} {scope:W5} {N':List Str} {k:Nat} {fr:List Nat} {wi:TI} {g:TG} {tc:TT} {te:TE} {pos:Pos}
theorem CK{use:Option (Wx->Sem Unit)}{Q':Wx->WB->Prop}{Ys:List (WA×Obj)}{s:WB}{σ:St}{H:Hp}{Q:VK}(hc:X.calm=true)(S:bR X.env.scope X.N N' k fr scope)(hi:PI X tg iter wi)
 (hg:∀fp C s H,PG (bW X scope N' fp C s H) tg g)(hf:∀fp C s H,l6 (bW X scope N' fp C s H) ifs tc)(he:∀fp C s H,PE (bW X scope N' fp C s H) elt te)
 (I:ag X Ys σ H s)(h:pj wi g tc te k fr σ H Q)
 (hQ:∀D C s' H',C≠X.env.locals->ag X Ys σ H' s'->(∀h',Ss C s'.heap h'->ag X Ys σ H' {s' with heap:=h'})->Q (.ref D) H'->(∃m,s'.heap.Ns C m)->X.env.locals < C->H' C=none/\(∀x c,X.env.cells.lookup x=some c->c≠C)/\(∀p∈X.pn++Ys,p.1≠C)->compPost (WE X.prog X.w) X.A X.xe use Q' (.ref D) C (.ok .next) s'):
 WD (WE X.prog X.w) X.A (eval iter X.env) (λx s₁=>WD (WE X.prog X.w) X.A (pyIter x) (λit s₂=>WD (WE X.prog X.w) X.A (newList []) (λacc s₃=>
  WD (WE X.prog X.w) X.A (newFunctionEnv scope X.env.globals (mf X.env scope.names []) [] X.env.qual none .none (some X.env)) (λcenv s₄=>
   Xt (WE X.prog X.w) X.A (.compStart (.ListComp elt [⟨tg,iter,ifs,0⟩] scope pos) 0 it acc {cenv with scope:=relabel scope X.env}) (compPost (WE X.prog X.w) X.A X.xe use Q' acc cenv.locals) s₄) X.xe s₃) X.xe s₂) X.xe s₁) X.xe s:=by
 refine aC (hi Ys s σ H _ I h) λv s1 h1=>aC h1 λitv s2 h2=>?_;obtain⟨it,fp,tn,J,H2,e,I2,T,st2,f2,wW⟩:=h2;subst e;refine WV ?_;have hD0:H2 s2.heap.objs.size=none:=I2.hok.fresh (PQ _);obtain⟨W,⟨m0,w0⟩,turn⟩:=wW _ hD0;generalize hD:s2.heap.objs.size=D at*;have I3:ag X Ys σ (ao H2 D (.lst [])) {s2 with heap:=s2.heap.push {cls:= .type "list",dict:=none,data:= .seq ([]:List Wx).toArray}}:=by
  have:=I2.lnew (ys:=[]) (its:=[]) (t':=s2.toks) .nil (Rv _);rw [hD] at this;exact this
 generalize hs3:({s2 with heap:=s2.heap.push {cls:= .type "list",dict:=none,data:= .seq ([]:List Wx).toArray}}:WB)=s3 at*;have up23:∀b o,s2.heap.get? b=some o->s3.heap.get? b=some o:=λb o e=>by rw [<-hs3];exact PB _ e
 have fpD:∀b∈fp,b≠D:=λb hb z=>by
  obtain⟨o,ho,_⟩:=T.obj _ _ st2 b hb;have:=PX ho;rw [hD,z] at this;exact RR _ this
 have f3:∀b∈fp,mQ X Ys (ao H2 D (.lst [])) b:=λb hb=>⟨by rw [ay (fpD b hb)];exact(f2 b hb).1,(f2 b hb).2⟩;have st3:tn 0 s3.heap:=T.keep _ _ _ st2 λb hb o e=>up23 b o e;have lt3:∀b∈fp,b < s3.heap.objs.size:=λb hb=>by obtain⟨o,ho,_⟩:=T.obj _ _ st3 b hb;exact PX ho
 refine IE λh₁ e₁ hns₁ up34=>?_;have I4:=IB S I3 f3 lt3 e₁ hns₁ up34;have st4:tn 0 h₁:=T.keep _ _ _ st3 λb hb o e=>up34 b o e;generalize hX':bW X scope N' fp s3.heap.objs.size s3 (ao H2 D (.lst []))=X' at*;have hg':PG X' tg g:=by rw [<-hX'];exact hg _ _ _ _
 have hf':l6 X' ifs tc:=by rw [<-hX'];exact hf _ _ _ _
 have he':PE X' elt te:=by rw [<-hX'];exact he _ _ _ _
 have eP:X'.prog=X.prog:=by rw [<-hX'];rfl
 have eW:X'.w=X.w:=by rw [<-hX'];rfl
 have eK:X'.K=X.K:=by rw [<-hX'];rfl
 have eA:X'.A=X.A:=by rw [<-hX'];rfl
 have eC:X'.calm=true:=by rw [<-hX'];exact hc
 have eE:X'.xe=λ_ _=>False:=by rw [<-hX'];rfl
 have eEnv:X'.env=compEnvC scope (uG X scope s3.heap.objs.size) s3.heap.objs.size X.env:=by rw [<-hX'];rfl
 have fpx:∀{H':Hp},(∀b∈fp,H' b=none)->∀b∈fp,mQ X' [] H' b:=λ{H'} hn b hb=>by
  refine⟨hn b hb,?_,?_,.inl ?_,?_,?_⟩
  ·rw [eEnv];exact QN (lt3 b hb)
  ·have:=I4.ok.exfs b (by rw [<-hX'];exact hb);exact this
  ·rw [<-hX'];exact hb
  ·have:=I4.ok.exf b (by rw [<-hX'];exact hb);exact this.2
  ·intro p hp;rw [<-hX'] at hp;simp [bW] at hp
 have fin:∀(s':WB)(H':Hp)(σ':St),ag X' [] σ' H' s'->Q (.ref D) H'->compPost (WE X.prog X.w) X.A X.xe use Q' (.ref D) s3.heap.objs.size (.ok .next) s':=λs' H' σ' J q=>by
  have un:Un (cY X.stack) fp (ao H2 D (.lst [])) H' s3.heap s'.heap:=by have:=J.base;rw [<-hX'] at this;exact this
  have jos:s'.os=s3.os:=by have:=J.os;rw [<-hX'] at this;exact this
  have hC:H' s3.heap.objs.size=none:=by have:=J.free;rw [eEnv] at this;exact this
  have hok':bV X.prog X.w H' s'.heap:=by have:=J.hok;rw [eP,eW] at this;exact this
  have nO:∀h',Ss s3.heap.objs.size s'.heap h'->ag X Ys σ H' {s' with heap:=h'}:=λh' hs'=>by
   have un':Un (cY X.stack) fp (ao H2 D (.lst [])) H' s3.heap h':=
    ⟨λb o e n h1 h2=>hs'.extBut b o (QN (PX e)) (un.keep b o e n h1 h2),λb o e n h1 h2=>by
     obtain⟨sl,z⟩:=un.slot b o e n h1 h2;exact⟨sl,hs'.extBut b _ (QN (PX e)) z⟩,un.free,λb o e h2=>by
     obtain⟨o',z⟩:=un.there b o e h2;exact⟨o',hs'.extBut b o' (QN (PX e)) z⟩,un.tups,un.frzs,un.tbls⟩
   exact ag.call' (s':={s' with heap:=h'}) I3 jos un' (hok'.but hC hs'.extBut) J.bare λb hb=>⟨(f3 b hb).2.2.2.1,(f3 b hb).2.1,(f3 b hb).2.2.2.2.1,(f3 b hb).2.2.2.2.2⟩
  have nsC:∃m,s'.heap.Ns s3.heap.objs.size m:=by
   obtain⟨m,hn,_⟩:=J.loc;rw [eEnv] at hn;exact⟨m,hn⟩
  exact hQ D s3.heap.objs.size s' H' (Su I3.lt) (nO s'.heap (.refl ..)) nO q nsC I3.lt
   ⟨hC,λx c e=>by obtain⟨v,o,ho,_⟩:=I3.cell x c e;exact QN (PX ho),λp hp=>QN (PX (I3.pin p hp).1)⟩
 have loop:∀s4:WB,s4=({s3 with heap:=h₁}:WB)->
  Xt (WE X.prog X.w) X.A (.compLoop (.ListComp elt [⟨tg,iter,ifs,0⟩] scope pos) 0 (.ref it) (.ref D) X'.env) (compPost (WE X.prog X.w) X.A X.xe use Q' (.ref D) s3.heap.objs.size) s4:=by
  rintro s4 rfl;refine IC (λn s'=>∃i H',ag X' [] (bF k fr σ) H' s'/\tn i s'.heap/\(∀b∈fp,H' b=none)/\W i n H') ?_ m0 ⟨0,_,I4,st4,λb hb=>(f3 b hb).1,w0⟩;rintro n s5 ⟨i,H5,I5,st5,fr5,w5⟩;rcases turn i n H5 w5 with⟨stop,qn⟩ | ⟨go,step⟩
  ·have:=T.done X' eP eW eK eC i [] s5 _ H5 (λ_ _=>False) I5 (fpx fr5) st5 stop;rw [eA] at this;refine aC this λr s6 ⟨hr,I6⟩=>?_;subst hr;exact fin s6 H5 _ I6 qn
  ·have:=T.item X' eP eW eK eC i [] s5 _ H5 (λ_ _=>False) I5 (fpx fr5) st5 go;rw [eA] at this;refine aC this λr s6 ⟨u,hr,h6⟩=>?_;subst hr;refine aC h6 λ_ s7 ⟨x,H7,I7,r7,y7,st7,fr7⟩=>?_;have I7':=I7.pinned (fpx fr7) (T.obj _ _ st7);have h8:=hg' _ s7 _ H7 x u _ I7' r7 (step x H7 y7);rw [eP,eW,eA,eE] at h8;refine aC h8 λ_ s8 ⟨σ8,H8,I8,kp,q8⟩=>?_;have h9:=hf' _ s8 σ8 H8 _ I8 q8;rw [eP,eW,eA,eE] at h9;have again:∀{s9:WB}{H9:Hp}{n':Nat},ag X' ([]++sL fp s7.heap) σ8 H9 s9->n' < n->W (i+1) n' H9->∃m,m < n/\∃i H',ag X' [] (bF k fr σ) H' s9/\tn i s9.heap/\(∀b∈fp,H' b=none)/\W i m H':=λ{s9 H9 n'} I9 hn' w9=>by
    refine⟨n',hn',i+1,H9,I9.unpinned.weak kp.1 kp.2,T.keep _ _ _ st7 λb hb o e=>(I9.pin (b,o) (Ru _ (Ru _ (ur hb e)))).1,λb hb=>?_,w9⟩;obtain⟨o,e,d⟩:=T.obj _ _ st7 b hb;exact(I9.pin (b,o) (Ru _ (Ru _ (ur hb e)))).2.1
   refine aC h9 λok s9 ⟨H9,I9,q9⟩=>?_;cases ok with
   | false=>
    rw [Ws Qx] at q9;obtain⟨m',hm',w9⟩:=q9;rw [Ws Qx];exact again I9 hm' w9
   | true=>
    rw [Wt rfl] at q9;rw [Wt rfl];have h10:=he' _ s9 σ8 H9 _ I9 q9;rw [eP,eW,eA,eE] at h10;refine aC h10 λy s10 ⟨yv,H10,I10,r10,ys,hys,hz,m',hm',w10⟩=>?_;have h11:=CB (X:=X') _ s10 σ8 H10 (.ref D) [yv] (.ref D) [y] (λ_ H'=>W (i+1) m' H') I10 rfl (.cons r10 .nil) ⟨D,ys,yv,rfl,rfl,hys,hz,w10⟩;rw [eP,eW,eA,eE] at h11;exact aC h11 λ_ s11 uu68=>by obtain⟨_,H11,I11,_,q11⟩:=uu68;exact again I11 hm' q11
 have hE:({newEnv scope s3.heap.objs.size X.env.globals (uG X scope s3.heap.objs.size) X.env.qual none .none (some X.env) builtinsNs with scope:=relabel scope X.env}:Env)=X'.env:=by
  rw [eEnv];rfl
 have goal:=codeAny_compStart_list (elt:=elt) (target:=tg) (iter:=iter) (ifs:=ifs) (rest:=[]) (scope:=scope) (pos:=pos) (loop _ rfl) (T.self X.A 0 _ _ _ st4 (loop _ rfl));rw [<-hE] at goal;exact goal
theorem qg(hc:X.calm=true)(S:bR X.env.scope X.N N' k fr scope)(hi:PI X tg iter wi)
 (hg:∀fp C s H,PG (bW X scope N' fp C s H) tg g)(hf:∀fp C s H,l6 (bW X scope N' fp C s H) ifs tc)(he:∀fp C s H,PE (bW X scope N' fp C s H) elt te)
 (hs:∀x,WT iter X.env x=pure x:=by intro _;rfl):PE X (.ListComp elt [⟨tg,iter,ifs,0⟩] scope pos) (pj wi g tc te k fr):=by
 intro Ys s σ H Q I h;have hcell:∀y∈scope.names,y.2= .free->∃c,X.env.cells.lookup y.1=some c:=λy hy e=>I.ok.has y.1 (S.outer y hy e);rw [eval_ListComp];refine Yq (use:=none) rfl hs (CG hcell) S.kind S.names (CK hc S hi hg hf he I h ?_);intro D C s' H' hC J nO q ns hlt _;obtain⟨m,hn⟩:=ns;exact⟨m,hn,λh' hs'=>⟨.ref D,H',nO h' hs',rfl,q⟩⟩
theorem IF{i:Nat}{x:Str}{pos' spos:Pos}(hN:X.N.Nodup)(hxi:X.N[i]?=some x)(hx:nI X.env.scope x)(hc:X.calm=true)(S:bR X.env.scope X.N N' k fr scope)(hi:PI X tg iter wi)
 (hg:∀fp C s H,PG (bW X scope N' fp C s H) tg g)(hf:∀fp C s H,l6 (bW X scope N' fp C s H) ifs tc)(he:∀fp C s H,PE (bW X scope N' fp C s H) elt te)
 (hsw:W7 (.ListComp elt [⟨tg,iter,ifs,0⟩] scope pos) (some (.Name x pos')) spos.line X.env=pure true)
 (hs:∀x,WT iter X.env x=pure x:=by intro _;rfl)(hfn:X.fn x=true\/X.env.scope.names.lookup x=some .local:=by first | exact .inl rfl | exact .inr rfl | assumption):
 PS X (.Assign [.Name x pos'] (.ListComp elt [⟨tg,iter,ifs,0⟩] scope pos) spos) (qP (pj wi g tc te k fr) (ni i)):=by
 intro Ys s σ H D I h;have hcell:∀y∈scope.names,y.2= .free->∃c,X.env.cells.lookup y.1=some c:=λy hy e=>I.ok.has y.1 (S.outer y hy e);rw [exec_Assign_Name_used _ _ _ _ hsw];refine Wy (Xz (Wy ?_));show WD _ X.A (do let _<-comprehension (.ListComp elt [⟨tg,iter,ifs,0⟩] scope pos) scope X.env _ (newList []) false (eval iter X.env) (some (assign (.Name x pos') X.env))) _ _ s;refine Wy (WW (Yq (use:=some (assign (.Name x pos') X.env)) (Q:=λ_ s'=>∃σ' H',ag X Ys σ' H' s'/\D.nx σ' H') rfl hs (CG hcell) S.kind S.names (CK hc S hi hg hf he I h ?_)) (λ_ s' hq=>WC (WC hq)) λ_ _ e=>e);intro D' C s' H' hC J nO q ns hlt ⟨c1,c2,c3⟩;obtain⟨m,hn⟩:=ns;show WD _ X.A (assign (.Name x pos') X.env (.ref D')) _ _ _;refine wpAny_assign_Name (BX J hN hxi hx (v:= .ref D') rfl (λs2 J2 sb=>?_) hfn);obtain⟨a,sb,ha⟩:=sb;have hCa:C≠a:=by
  rcases ha with z | z
  ·rw [z];exact hC
  ·exact Ne.symm (c2 _ _ z)
 refine⟨m,hn.sameBut sb hCa,λh3 hs3=>⟨_,H',?_,q⟩⟩;exact J2.turned (t':=s2.toks) hs3.extBut c1 hC (.inr (Qz J.ok.above (S0 hlt))) c2 c3
end
section
variable {X:Cx}
theorem IG:bD X (Xc .Mult) (rI IntMulOk λi j=>.int (i*j)):=sN λ_ _ _ _ _ _ _ hc q=>mul_int q hc
theorem y4(hc:X.calm=true):kB X (.builtin "sum") (λxs H Q=>∃(a:WA)(ns:List Int),xs=[.ref a]/\bg X.K H a (ns.map V.int)/\Q (.int ns.sum) H):=by
 intro Ys s σ H xs us Q I r h;obtain⟨a,ns,rfl,hl,q⟩:=h;obtain⟨u,rfl,rx⟩:=lj r;cases rx;obtain⟨its,rv,p,hz⟩:=I.list hl;have hi:IntsAre its ns:=HN rv;have hall:AllInts its.toArray:=hi.allInts;obtain⟨ys,hys⟩:=hall.items;have hn:numsOf its.toArray.toList=ns:=by rw [show its.toArray.toList=its from rfl,hi.numsOf]
 rw [hys,nums_intItems] at hn;have hl':=p.isList;rw [hys] at hl';refine sum_intListG (I.ok.hd hc) hl' λh' tk t' hk=>?_;refine⟨.int ns.sum,H,I.kept hk,⟨t',?_⟩,q⟩;rw [preSum_eq,RJ Wv,hn]
theorem IH:kB X (.builtin "isinstance") (λxs H Q=>∃x T t b,xs=[x,.ty T]/\mB X.K H x t/\SH X.K t (.type T)=some b/\Q (.bl b) H):=by
 intro Ys s σ H xs us Q I r h;obtain⟨x,T,t,b,rfl,ty,e,q⟩:=h;obtain⟨u,w',rfl,rx,rt⟩:=p7 r;cases rt;exact HC I rx ty e λtk=>⟨.bl b,H,I.tok tk,rfl,q⟩
end
end L2
namespace Att
open PySem PySem.W PySem.Calls PyProof.Rows
theorem II{ns:List Int}(h:VE [Uo (ns.map SQ)]=true):∀n∈ns,Rn n<=1048576:=by
 have h1:(Uo (ns.map SQ)).layable=true:=by simpa [VE] using h
 have h2:(Uo (ns.map SQ)).weight<=1048576:=(PySem.W.layableW_iff.mp h1).2.2;have key:∀l:List Int,∀n∈l,Rn n<=Tf (l.map SQ):=by
  intro l
  induction l with
  | nil=>intro n hn;simp at hn
  | cons x r ih=>
   intro n hn;have e:Tf ((x::r).map SQ)=Rn x+1+Tf (r.map SQ):=by
    rw [Py,Tf,V8];rfl
   rw [e];rcases PH.mp hn with z | z
   ·subst z;omega
   ·have:=ih n z;omega
 intro n hn;have e:(Uo (ns.map SQ)).weight=Tf (ns.map SQ):=by rw [V8]
 rw [e] at h2;exact Qz (key ns n hn) h2
theorem attach_callB{l:OpenLaw}{n:Nat}{q:WM}{loose:List Str}{XP:(Str->Option Wx)->WL->Prop}{YP:WO->WL->Prop}{d:DefRec}
 (hn:l.most=some n)(hdf:d.params.defaults=[])
 (call:∀(w:WO) (s₀ s₁:WB) (mg mb:Str->Option Wx) (fa:WA) (o:Obj) (pm cd doc:Wx) (a:WA) (vs:List Wx) (ns:List Int),
  Ground q loose [] XP w s₀ mg mb s₁.heap->YP w s₁.heap->
  s₁.heap.get? fa=some o->o.data= .func (docDef d.name d.params d.body d.scope pm cd doc)->s₁.heap.CodeRec cd d.name->mg d.name=some (.ref fa)->
  s₁.heap.get? a=some {cls:= .type "list",data:= .seq vs.toArray}->IntsAre vs ns->ns.length<=n->(∀z∈ns,Rn z<=1048576)->s₁.gens=#[]->
  Xt (WE l.prog w) callerA (.call (.ref fa) ⟨[.ref a],[]⟩) (λr s'=>r= .ok (.ret (.bool true))/\OldK s₁.heap s'.heap/\s'.os=s₁.os/\XR s'.gens) s₁):
 WalkO q loose XP YP l.row.toRowW d [] (λf vs=>VL f vs):=by
 intro w s₀ s₁ mg mb G Y fa o pm cd doc dV kV ho hd hcd hD hmg hg args vals as hpre hlay hrd hwl hlo;obtain rfl:dV= .none:=Dflts.none hD hdf;obtain rfl:kV= .none:=Dflts.noKw hD;obtain⟨a,vs,ns,rfl,rfl,hobj,hints,hlen⟩:=Ir hn hpre hwl;have hb:∀z∈ns,Rn z<=1048576:=II hlay;refine enter_call (Xj (call w s₀ s₁ mg mb fa o pm cd doc a vs ns G Y ho (fd_plain hd) hcd hmg hobj hints hlen hb hg) λr s' hq=>?_);obtain⟨rfl,h2,h3,h4⟩:=hq;exact⟨.inl ⟨.bool true,.bool true,[],rfl,λ_=>rfl,.bool true,Iu l _,λ_=>⟨List.Pairwise.nil,λ_ hm=>(nomatch hm)⟩⟩,h2,h3,h4⟩
end Att
namespace L2
open PySem PySem.Spec PyProof.Rows
theorem IJ{l:VM}{n k:Nat}{q:WM}{loose:List Str}{XP:(Str->Option Wx)->WL->Prop}{YP:WO->WL->Prop}{d:DefRec}{K:Params->Pt}{CX:WO->kT}{sp:WO->Sp}{x:Str}
 (hn:l.most=some n)(hn2:n<=WG)(hdf:d.params.defaults=[])(hr:bQ k callerA)
 (hY:∀(w:WO) (h:WL),YP w h->(K w.params).In h)
 (F:∀(w:WO) (mg:Str->Option Wx) (fa:WA) (h:WL),(K w.params).In h->h.Ns WK mg->mg d.name=some (.ref fa)->
  ∃fd:WJ,(∀(s:WB) (u:Wx),BindsTo s fd ⟨[u],[]⟩ [(x,u)])/\
   ∀base:WL,(K w.params).In base->base.Ns WK mg->aF l.prog w (K w.params) mg base (CX w) k fa fd [x] (sp w))
 (hsp:∀(w:WO) (H:Hp) (a:WA) (ns:List Int),ns.length<=n->(∀z∈ns,Rn z<=1048576)->uE H->bg (K w.params) H a (ns.map V.int)->sp w [.ref a] H (λv _=>v= .bl true) λ_ _ _=>False)
 (hCX:∀(w:WO) (H:Hp) (s:WB) (e:Wx) (s':WB),CX w [] H s (λ_ _ _=>False) e s'->False):
 V2 q loose XP YP l.row.toRowW d [] (λf vs=>VL f vs):=by
 refine Att.attach_callB hn hdf λw s₀ s₁ mg mb fa o pm cd doc a vs ns G Y ho hd hcd hmg hobj hints hlen hb hg=>?_;have KX:=hY w _ Y;obtain⟨fd,hbi,hF⟩:=F w mg fa _ KX G.T.g hmg;exact Iw KX G.T.g G.T.b G.T.builtins G.T.nolimit hg hobj hints (Qz hlen hn2) hr hF hbi (λH hO hS=>hsp w H a ns hlen hb hO hS) λH e s'=>hCX w H s₁ e s'
theorem walk_ofBK{l:VM}{n k:Nat}{q:WM}{loose:List Str}{XP:(Str->Option Wx)->WL->Prop}{YP:WO->WL->Prop}{d:DefRec}{K:Params->Pt}{CX:kT}{sp:Pt->Sp}{x:Str}
 (hn:l.most=some n)(hn2:n<=WG)(hdf:d.params.defaults=[])(hr:bQ k callerA)
 (hY:∀(w:WO) (h:WL),YP w h->(K w.params).In h)
 (F:∀(w:WO) (mg:Str->Option Wx) (fa:WA) (h:WL),(K w.params).In h->h.Ns WK mg->mg d.name=some (.ref fa)->
  ∃fd:WJ,(∀(s:WB) (u:Wx),BindsTo s fd ⟨[u],[]⟩ [(x,u)])/\
   ∀base:WL,(K w.params).In base->base.Ns WK mg->aF l.prog w (K w.params) mg base CX k fa fd [x] (sp (K w.params)))
 (hsp:∀(K:Pt) (H:Hp) (a:WA) (ns:List Int),ns.length<=n->(∀z∈ns,Rn z<=1048576)->uE H->bg K H a (ns.map V.int)->sp K [.ref a] H (λv _=>v= .bl true) λ_ _ _=>False)
 (hCX:∀(H:Hp) (s:WB) (e:Wx) (s':WB),CX [] H s (λ_ _ _=>False) e s'->False):
 V2 q loose XP YP l.row.toRowW d [] (λf vs=>VL f vs):=
 IJ (K:=K) (CX:=λ_=>CX) (sp:=λw=>sp (K w.params)) hn hn2 hdf hr hY F (λw H a ns h1 hb h2 h3=>hsp (K w.params) H a ns h1 hb h2 h3) λ_ H s e s'=>hCX H s e s'
def nN(p:WA)(H H':Hp):Prop:=∀b o,H b=some o->b≠p->H' b=some o
theorem aq.new{H:Hp}{p:WA}{o:HO}(h:H p=none):aq H (ao H p o):=λb u e=>by rw [ay (kz e h)];exact e
def FR(J:It)(g:TG)(tb:TS)(D:nJ)(σ:St)(H1:Hp):Prop:=∃W:Nat->Nat->St->Hp->Prop,(∃m,W 0 m σ H1)/\∀i m σ H,W i m σ H->
 (J.stop i H/\D.nx σ H)\/(J.go i H/\∃N:St->Hp->Prop,(∀σ' H',N σ' H'->∃m',m' < m/\W (i+1) m' σ' H')/\∀x H',J.yld i H x H'->g x σ H' λσ2 H2=>tb {D with nx:=N,ct:=N,bk:=D.nx} σ2 H2)
theorem CL{ta:TA}{g:TG}{tb:TS}:sJ (wU ta) g tb=λD σ H=>ta σ H λvs H1=>∃j:Int,vs=[.int j]/\-(2 ^ 62)<=j/\j < 2 ^ 62/\FR (nK 0 j.toNat) g tb D σ H1:=rfl
theorem CM{ta:TA}{g:TG}{tb:TS}:sJ (wV ta) g tb=λD σ H=>ta σ H λvs H1=>∃i j:Int,vs=[.int i,.int j]/\(-(2 ^ 62)<=i/\i < 2 ^ 62/\-(2 ^ 62)<=j/\j < 2 ^ 62)/\FR (nK i (j - i).toNat) g tb D σ H1:=rfl
theorem CN{K:Pt}{tl:TE}{g:TG}{tb:TS}:sJ (wQ K tl) g tb=λD σ H=>tl σ H λx H1=>∃a,x= .ref a/\(∃xs,bg K H1 a xs)/\FR (sH K a) g tb D σ H1:=rfl
theorem CO{K:Pt}{tl:TE}{g:TG}{tb:TS}:sJ (wR K tl) g tb=λD σ H=>tl σ H λx H1=>∃a,x= .ref a/\(∃xs,aZ K H1 a xs)/\FR (sI K a) g tb D σ H1:=rfl
def pk(J:It)(g:TG)(tc:TT)(te:TE)(k:Nat)(fr:List Nat)(σ:St)(H1:Hp)(Q:VK):Prop:=∀D,H1 D=none->∃W:Nat->Nat->Hp->Prop,(∃m,W 0 m (ao H1 D (.lst [])))/\∀i m H,W i m H->
 (J.stop i H/\Q (.ref D) H)\/(J.go i H/\∀x H',J.yld i H x H'->g x (bF k fr σ) H' λσ2 H2=>ph (bF k fr σ) σ2/\tc σ2 H2 λok H3=>
  if ok=true then te σ2 H3 λy H4=>∃ys,H4 D=some (.lst ys)/\ys.length < WG/\∃m',m' < m/\W (i+1) m' (ao H4 D (.lst (ys++[y])))
  else ∃m',m' < m/\W (i+1) m' H3)
theorem CP{ta:TA}{g:TG}{tc:TT}{te:TE}{k:Nat}{fr:List Nat}:pj (wU ta) g tc te k fr=λσ H Q=>ta σ H λvs H1=>∃j:Int,vs=[.int j]/\-(2 ^ 62)<=j/\j < 2 ^ 62/\pk (nK 0 j.toNat) g tc te k fr σ H1 Q:=rfl
theorem CQ{ta:TA}{g:TG}{tc:TT}{te:TE}{k:Nat}{fr:List Nat}:pj (wV ta) g tc te k fr=λσ H Q=>ta σ H λvs H1=>∃i j:Int,vs=[.int i,.int j]/\(-(2 ^ 62)<=i/\i < 2 ^ 62/\-(2 ^ 62)<=j/\j < 2 ^ 62)/\pk (nK i (j - i).toNat) g tc te k fr σ H1 Q:=rfl
theorem CS{K:Pt}{tl:TE}{g:TG}{tc:TT}{te:TE}{k:Nat}{fr:List Nat}:pj (wQ K tl) g tc te k fr=λσ H Q=>tl σ H λx H1=>∃a,x= .ref a/\(∃xs,bg K H1 a xs)/\pk (sH K a) g tc te k fr σ H1 Q:=rfl
theorem CT{K:Pt}{tl:TE}{g:TG}{tc:TT}{te:TE}{k:Nat}{fr:List Nat}:pj (wR K tl) g tc te k fr=λσ H Q=>tl σ H λx H1=>∃a,x= .ref a/\(∃xs,aZ K H1 a xs)/\pk (sI K a) g tc te k fr σ H1 Q:=rfl
theorem CU{fr:List Nat}{σ:St}{v:Option V}:ph (bF 1 fr σ) ((bF 1 fr σ).set 0 v):=by
 refine⟨Wv,λi w h=>?_⟩;cases i with
 | zero=>simp [bF,PK] at h
 | succ i=>simpa [bF,PK] using h
theorem IK{lo:Int}{n:Nat}{te:TE}{fr:List Nat}{σ:St}{H:Hp}{Q:VK}(f:Nat->V)(hn:n<=1000000)
 (ht:∀(i:Nat) (H':Hp) (R:VK),i < n->aq H H'->(∀H'',aq H' H''->R (f i) H'')->te ((bF 1 fr σ).set 0 (some (.int (lo+i)))) H' R)
 (hq:∀D H',H D=none->aq H H'->H' D=some (.lst ((Rz n).map f))->Q (.ref D) H'):pk (nK lo n) (ni 0) CI te 1 fr σ H Q:=by
 intro D hD;refine⟨λi m H'=>m=n - i/\i<=n/\aq H H'/\H' D=some (.lst ((Rz i).map f)),⟨n,Wv,Rv _,aq.new hD,by rw [bx];rfl⟩,?_⟩;rintro i m H1 ⟨rfl,hi,s1,e1⟩;by_cases hlt:i < n
 ·refine .inr ⟨hlt,λx H' y=>?_⟩;obtain⟨e,y⟩:=y;subst e y;refine⟨CU,?_⟩;show te _ _ _;refine ht i H' _ hlt s1 λH2 s2=>?_;refine⟨_,s2 D _ e1,?_,n - (i+1),Ce,rfl,hlt,?_,?_⟩
  ·rw [PD,SY,WN];omega
  ·exact λb o h=>by rw [ay (kz h hD)];exact s2 b o (s1 b o h)
  ·rw [bx,SS,RG];rfl
 ·have e:i=n:=Ce
  subst e;exact .inl ⟨PQ _,hq D H1 hD s1 e1⟩
theorem cxK{CX:kT}{P:WM}{w:WO}{K:Pt}{mg:Str->Option Wx}{base:WL}{N:List Str}{qual:Str}{scope:W5}{f:WA}{cd:Wx}{A:WR}{outer:List Env}{s:WB}{H:Hp}{E:XK}:(kc CX P w K mg base N qual scope f cd A outer s H E).K=K:=rfl
theorem cmK{X:Cx}{scope:W5}{N':List Str}{fp:List WA}{C:WA}{s:WB}{H:Hp}:(bW X scope N' fp C s H).K=X.K:=rfl
theorem CV{K:Pt}{p:WA}{xs:List V}{i:Int}{v:V}{H:Hp}{Q:VK}(h:bg K H p xs)(hv:atI xs i=some v)(q:Q v H):xV K (.ref p) (.int i) H Q:=⟨p,xs,i,v,rfl,rfl,h,hv,q⟩
theorem uH{K:Pt}{p:WA}{xs:List V}{i:Int}{v:V}{H:Hp}{Q:VK}(h:aZ K H p xs)(hv:atI xs i=some v)(q:Q v H):uD K (.ref p) (.int i) H Q:=⟨p,xs,i,v,rfl,rfl,h,hv,q⟩
theorem CW{α:Type}{xs:List α}{i:Int}(h0:0<=i)(h1:i < xs.length):∃v,atI xs i=some v/\v∈xs:=by
 obtain⟨j,rfl⟩:=Q2 h0;have hj:j < xs.length:=Ce
 exact⟨xs[j],nL (by simp [hj]),Sb hj⟩
theorem IL:WU "divmod"=some (.builtin "divmod"):=td
theorem lF:WU "isinstance"=some (.builtin "isinstance"):=td
theorem nj:WU "int"=some (.type "int"):=td
theorem sV:WU "bool"=some (.type "bool"):=td
theorem mS:WU "str"=some (.type "str"):=td
theorem k7:WU "tuple"=some (.type "tuple"):=td
theorem qh:WU "list"=some (.type "list"):=td
open PySem PySem.Spec PyProof.Rows PySem.W
theorem bV.hide{P:WM}{w:WO}{H:Hp}{h:WL}{as:List WA}(x:bV P w H h)(hn:∀b∈as,H b=none):bV P w H (hideAll h as):=λa o e=>by
 refine(x a o e).stay (λb u hb q=>Ye _ q λhm=>?_) (λ_ q=>q) (λ_ _ q=>q) λ_ _ q=>q;have z:=hn b hm;rcases hb with r | r
 ·rw [r] at z;rw [z] at e;cases e
 ·rw [z] at r;cases r
theorem IM{K:Pt}{h:WL}{mg:Str->Option Wx}{x:Str}{C:WA}{bmB:List Wx}{newId:String}(X:K.In h)(hm:mg x=some (.ref C))(q:TN K C bmB newId=true):OwnCls x C bmB newId mg h:=by
 refine⟨hm,?_⟩;unfold TN at q;split at q
 ·rename_i dd cd sl ho;split at q
  ·rename_i C' bm k0 k1 k2 k3 n k5 hm hs;simp only [Qh,beq_iff_eq,P4] at q;obtain⟨⟨⟨⟨⟨rfl,rfl⟩,hdel⟩,ht⟩,hok⟩,hni⟩:=q;obtain⟨nm,bs,mro,ns,qn,hd,sn,sub,ab,col,del⟩:=cd;dsimp only at hm hdel hok hni;subst hm hdel;have hsl:sl=#[k0,k1,k2,k3,some (.builtin n),k5]:=by
    obtain⟨l⟩:=sl;simp only at hs;rw [hs]
   subst hsl;exact⟨bm,ns,nm,qn,bs,hd,sn,sub,ab,col,dd,k0,k1,k2,k3,k5,_,X _ _ ho,.of_isNs (isNs_of_in X hok),nsMap_none_of_in X hok hni,tail_of_in X ht⟩
  ·cases q
 ·cases q
section
variable {M:XS} {A:WR} {E:Wx->WB->Prop}
variable {nm q:Str} {C N:WA} {bs bm:List Wx} {hdct:Bool} {sn:List Str} {sub:List Wx} {ab:Bool} {col:Option Bool} {dd:Option WA} {k0 k1 k2 k3 k5:Option Wx} {newId:String}
variable {nm' q':Str} {C' N':WA} {bs' bm':List Wx} {hdct':Bool} {sn':List Str} {sub':List Wx} {ab':Bool} {col':Option Bool} {dd':Option WA} {k0' k1' k2' k3' k5':Option Wx} {newId':String}
theorem CY{h:WL}{g:Array XZ}{d:Drawn}{t:Nat}{os:OsState}{e:WA}{oe:Obj}{Q:Bool->WB->Prop}
 (hC:h.get? C=some (Xa nm q C N bs bm hdct sn sub ab col dd k0 k1 k2 k3 k5 newId))(hC':h.get? C'=some (Xa nm' q' C' N' bs' bm' hdct' sn' sub' ab' col' dd' k0' k1' k2' k3' k5' newId'))
 (he:h.get? e=some oe)(hcls:oe.cls= .ref C)(hbase:bm'.contains (.type "BaseException")=true)(hin:(QJ C::bm).contains (.ref C')=true)
 (hq:Q true ⟨h,g,d,t,os⟩):WD M A (excMatches (.ref e) (.ref C')) Q E ⟨h,g,d,t,os⟩:=by
 have hcB:(QJ C'::bm').contains (.type "BaseException")=true:=by rw [T3,hbase,Uu]
 have f:=tc_notTuple;unfold excMatches
 repeat (first | (with_reducible refine W2 he ?_;rw [hcls]) | with_reducible refine W2 hC' ?_ | (with_reducible refine Xx hC' ?_;rw [hcB]) | (with_reducible refine Xx hC ?_;rw [hin]) | wp_step)
 exact hq
end
section
variable {X:Cx} {Ys:List (WA×Obj)} {σ:St} {H:Hp} {s:WB}
theorem IP{M:XS}{A:WR}{E:Wx->WB->Prop}{i:Nat}{x:Str}{pos:Pos}{Q:Unit->WB->Prop}(I:ag X Ys σ H s)(hN:X.N.Nodup)(hi:X.N[i]?=some x)(hx:X.env.scope.names.lookup x=some .local)
 (h:∀s',ag X Ys (σ.set i none) H s'->Q () s'):WD M A (do bindName X.env x .none;unbindBehindTheSuite X.env x pos) Q E s:=by
 have hcls:(X.env.scope.kind== .class || (X.env.scope.kind== .module && X.env.locals !=X.env.globals))=false:=by rw [I.ok.kind];rfl
 have hiσ:i < σ.length:=by rw [I.len];exact(Qu.mp hi).1
 refine Wy (wpAny_bindName (pV I hN hi (.inl hx) (v:= .non) rfl (λs1 I1=>?_) (.inr hx)));obtain⟨m,hn,hl⟩:=id I1.loc;obtain⟨u0,r0,lk⟩:=hl i x .non hi (by rw [Ri hiσ]) (.inl hx);have hv:∃v,m x=some v:=by
  rcases lk with⟨_,z⟩ | ⟨z,_⟩
  ·exact⟨_,z⟩
  ·rcases z with z | z
   ·exact absurd (z.symm.trans hx) Wv
   ·exact absurd (z.symm.trans hx) Wv
 obtain⟨v,hv⟩:=hv;unfold unbindBehindTheSuite;refine Yn (WW (wpAny_unbindName_local (E:=λ_ _=>False) hx hn hv hcls λh' u hn' hs=>?_) (λ_ _ z=>z) λ_ _ z=>z.elim);obtain⟨oL,_,_,hoL,_⟩:=id hn;have cne:=I1.cne;have tracked:bV X.prog X.w H h':=λb ob e=>by
  refine(I1.hok b ob e).stay (λc w' hc q=>(hs.2 c ?_).trans q) (λ_ q=>q) (λ_ _ q=>q) λ_ _ q=>q;rintro rfl;rcases hc with z | hc
  ·rw [<-z,I1.free] at e;cases e
  ·rw [I1.free] at hc;cases hc
 refine h _ ⟨I1.ok,I1.os,I1.bare,⟨λb o e n hb hx'=>?_,λb o e n hb hx'=>?_,I1.base.free,λb o e hx'=>?_,I1.base.tups,I1.base.frzs,I1.base.tbls⟩,⟨_,hn',λj y v' e1 e2 e3=>?_⟩,λy c e=>?_,I1.free,I1.freeC,λp hp=>?_,tracked,by simpa using I.len⟩
 ·exact(hs.2 b (QN (Q0 (PX e) I.ok.above))).trans (I1.base.keep b o e n hb hx')
 ·obtain⟨sl,e1⟩:=I1.base.slot b o e n hb hx';exact⟨sl,(hs.2 b (QN (Q0 (PX e) I.ok.above))).trans e1⟩
 ·obtain⟨o',e1⟩:=I1.base.there b o e hx';exact⟨o',(hs.2 b (QN (Q0 (PX e) I.ok.above))).trans e1⟩
 ·by_cases hj:j=i
  ·subst hj;rw [Ri hiσ] at e2;cases e2
  ·rw [Q5 (Ne.symm hj)] at e2;obtain⟨u',r',q⟩:=hl j y v' e1 (by rw [Q5 (Ne.symm hj)];exact e2) e3;refine⟨u',r',?_⟩;rcases q with⟨k,e⟩ | ⟨k,c,e,z⟩
   ·refine .inl ⟨k,?_⟩;have:y≠x:=λe=>hj (wm hN e1 (e▸hi));simp [this,e]
   ·exact .inr ⟨k,c,e,z.sameBut hs (cne y c e)⟩
 ·obtain⟨w',z⟩:=I1.cell y c e;exact⟨w',z.sameBut hs (cne y c e)⟩
 ·obtain⟨e,n,ne,nf,d⟩:=I1.pin p hp;exact⟨(hs.2 p.1 ne).trans e,n,ne,nf,d⟩
end
def kU(e:WA)(C:Wx)(h:WL):Prop:=∃o,h.get? e=some o/\o.cls=C
theorem bL.there{P:WM}{w:WO}{H:Hp}{h:WL}{a:WA}{o:HO}(x:bL P w H h a o):∃ob,h.get? a=some ob:=by
 cases o with
 | lst xs=>obtain⟨_,_,_,_,e⟩:=x;exact⟨_,e⟩
 | tup xs=>obtain⟨_,_,_,ob,e,_⟩:=x;exact⟨_,e⟩
 | dK kvs=>obtain⟨_,_,_,_,o,_,_,e,_⟩:=x;exact⟨_,e⟩
 | dT kvs=>obtain⟨_,_,_,_,o,_,_,e,_⟩:=x;exact⟨_,e⟩
 | set S n=>obtain⟨o,_,_,_,e,_⟩:=x;exact⟨_,e⟩
 | ins C dx fs=>obtain⟨_,_,_,e,_⟩:=x;exact⟨_,e⟩
 | own y=>exact x
 | xd fs=>obtain⟨_,⟨_,_,_,e,_⟩,_⟩:=x;exact⟨_,e⟩
 | rng lo hi=>obtain⟨_,_,_,e⟩:=x;exact⟨_,e⟩
 | frz ob u=>obtain⟨e,_⟩:=x;exact⟨_,e⟩
 | tbl ps=>obtain⟨_,_,_,_,e,_⟩:=x;exact⟨_,e⟩
 | cod q=>obtain⟨_,_,_,e,_⟩:=x;exact⟨_,e⟩
 | met f y=>exact⟨_,(show h.get? a=some _ from x)⟩
 | ext φ=>exact x.2.1
theorem uI{X:Cx}{outer:List Env}{H H':Hp}{h h1 h2 B:WL}{e:WA}{cls a0:Wx}(un:Un (cY outer) [] H H' h h1)(fl:SJ B outer e cls a0 h1)(st:B.StaysIn h2)(sm:h1.UpToSlots h2)
 (kb:∀b o,h.get? b=some o->H b=none->b ∉ cY outer->B.get? b=some o)(th:∀b o,h.get? b=some o->b ∉ cY outer->∃o',B.get? b=some o'):Un (cY outer) [] H H' h h2:=by
 have up:∀b∈cY outer,∀o,h1.get? b=some o->∃sl,h2.get? b=some {o with slots:=sl}:=λb hb o eo=>by
  obtain⟨_,o',ho',hd⟩:=fl.2.2.1.mem hb;rw [eo] at ho';cases ho';exact sm b o eo hd
 refine⟨λb o eb n hb _=>st b o (kb b o eb n hb),λb o eb n hb hx=>?_,un.free,λb o eb hx=>?_,un.tups,un.frzs,un.tbls⟩
 ·obtain⟨sl,es⟩:=un.slot b o eb n hb hx;obtain⟨sl',es'⟩:=up b hb _ es;exact⟨sl',es'⟩
 ·by_cases hb:b∈cY outer
  ·obtain⟨o',eo'⟩:=un.there b o eb hx;obtain⟨sl',es'⟩:=up b hb _ eo';exact⟨_,es'⟩
  ·obtain⟨o',eo'⟩:=th b o eb hb;exact⟨o',st b o' eo'⟩
abbrev Cx.inEx(X:Cx)(e:WA):Cx:={X with A:=X.A.mark (some (.ref e)),calm:=false,xe:=λ_ _=>False}
theorem Cx.Ok.inEx{X:Cx}(ok:X.Ok)(e:WA):(X.inEx e).Ok:=
 ⟨ok.mod,ok.kind,ok.glob,ok.blt,ok.above,ok.inj,ok.has,ok.cab,λz=>absurd z Wv,ok.frames,ok.stk,ok.exf,ok.bs,ok.bsz,ok.noex,ok.exfs,ok.funs,ok.frf⟩
theorem Cx.Ok.outEx{X:Cx}{e:WA}(ok:(X.inEx e).Ok)(hd:X.calm=true->X.A.handled=none):X.Ok:=
 ⟨ok.mod,ok.kind,ok.glob,ok.blt,ok.above,ok.inj,ok.has,ok.cab,hd,ok.frames,ok.stk,ok.exf,ok.bs,ok.bsz,ok.noex,ok.exfs,ok.funs,ok.frf⟩
section
variable {X:Cx} {Ys:List (WA×Obj)} {σ:St} {H:Hp} {s:WB}
theorem ag.inEx(I:ag X Ys σ H s)(e:WA):ag (X.inEx e) Ys σ H s:=⟨I.ok.inEx e,I.os,I.bare,I.base,I.loc,I.cell,I.free,I.freeC,I.pin,I.hok,I.len⟩
theorem ag.outEx{e:WA}(I:ag (X.inEx e) Ys σ H s)(hd:X.calm=true->X.A.handled=none):ag X Ys σ H s:=⟨I.ok.outEx hd,I.os,I.bare,I.base,I.loc,I.cell,I.free,I.freeC,I.pin,I.hok,I.len⟩
end
theorem CZ{K:Pt}{h:WL}{C C':WA}{nm qn:Str}{N:WA}{bs bm:List Wx}{hdct:Bool}{sn:List Str}{sub:List Wx}{ab:Bool}{col:Option Bool}{dd:Option WA}{k0 k1 k2 k3 k5:Option Wx}{newId:String}(X:K.In h)(e:RS K C (.ref C')=some true)
 (hC:h.get? C=some (Xa nm qn C N bs bm hdct sn sub ab col dd k0 k1 k2 k3 k5 newId)):(QJ C::bm).contains (.ref C')=true:=by
 obtain⟨cd,a,b⟩:=Option.bind_eq_some_iff.mp e;unfold PySem.W.clsIn at a;split at a
 ·rename_i ho;cases a;have z:=(X _ _ ho).symm.trans hC;have z1:cd.mro=QJ C::bm:=by unfold Xa at z;cases z;rfl
  split at b
  ·cases b
  ·rw [z1] at b;exact Rk b
 ·cases a
section
variable {X:Cx}
theorem C0{bs:List Bool}{its:List Wx}(r:aM (bs.map V.bl) its):its=bs.map Sr:=by
 induction bs generalizing its with
 | nil=>cases r;rfl
 | cons b bs ih=>
  rw [Py] at r;cases r with
  | cons r1 r2=>
   rw [Py,<-ih r2];exact congrArg (·::_) r1
theorem IQ(bs:List Bool)(f:Nat->Bool)(h:∀i,i < bs.length->f i=bs.getD i true):(Rz bs.length).all f=bs.all id:=by
 rw [RO,Rj,Rj];constructor
 ·intro z b hb;obtain⟨i,hi,e⟩:=Va hb;have:=z i (Sd.mpr hi);rw [h i hi,RT,Q1 hi] at this;rw [<-e];exact this
 ·intro z i hi;have hi:=Sd.mp hi;rw [h i hi,RT,Q1 hi];exact z _ (Sb hi)
theorem IS(bs:List Bool)(f:Nat->Bool)(h:∀i,i < bs.length->f i=bs.getD i true):(Rz bs.length).any f=bs.any id:=by
 rw [RO,Tb,Tb];constructor
 ·rintro⟨i,hi,z⟩;have hi:=Sd.mp hi;rw [h i hi,RT,Q1 hi] at z;exact⟨_,Sb hi,z⟩
 ·rintro⟨b,hb,z⟩;obtain⟨i,hi,e⟩:=Va hb;refine⟨i,Sd.mpr hi,?_⟩;rw [h i hi,RT,Q1 hi];show bs[i]=true;rw [e];exact z
theorem C1{bs:List Bool}{i:Nat}{v:Wx}(h:(bs.map Sr).toArray[i]?=some v):v= .bool (bs.getD i true):=by
 have h':(bs.map Sr)[i]?=some v:=by simpa using h
 rw [Rx] at h';cases e:bs[i]? with
 | none=>rw [e] at h';cases h'
 | some b=>
  rw [e] at h';rw [RT,e];exact(Rk h').symm
theorem C2{prog:WM}{w:WO}{A:WR}{E:Wx->WB->Prop}{s:WB}{l:WA}{items:Array Wx}{Q:Wx->WB->Prop}(hl:s.heap.IsList l items)
 (h:∀s₂:WB,s₂={s with heap:=s.heap.push {cls:= .type "list_iterator",data:= .fields #[.ref l,.int 0 0]}}->
  (s₂.heap.IsListIter s.heap.objs.size l 0/\s₂.heap.IsList l items)->l≠s.heap.objs.size->Q (.ref s.heap.objs.size) s₂):WD (WE prog w) A (pyIter (.ref l)) Q E s:=by
 have hlt:l < s.heap.objs.size:=by obtain⟨_,e,_⟩:=hl;exact PX e
 exact Yo hl (h _ rfl ⟨⟨_,Qi _ rfl,rfl,rfl⟩,hl.push _⟩ (QN hlt))
theorem pq(hc:X.calm=true):kB X (.builtin "all") (λxs H Q=>∃(a:WA)(bs:List Bool),xs=[.ref a]/\bg X.K H a (bs.map V.bl)/\Q (.bl (bs.all id)) H):=by
 intro Ys s σ H xs us Q I r h;obtain⟨a,bs,rfl,hl,q⟩:=h;obtain⟨u,rfl,rx⟩:=lj r;cases rx;obtain⟨its,rv,p,hz⟩:=I.list hl;have hi:=C0 rv;subst hi;refine call_all_walk (C2 p.isList λs₂ e st hlI=>?_);subst e;refine⟨_,_,_,_,_,_,λi=>bs.getD i true,rfl,VN (A:=X.A.in1) (I.ok.hd hc) _ a hlI _,st,λi v s' Q' E' hP hq=>by rw [C1 hP];exact WY hq,λh' tk hk=>?_⟩;have e:=IQ bs (λi=>bs.getD i true) λ_ _=>rfl;have e2:(QY Sr bs).toArray.size=bs.length:=Wv
 rw [e2,e];exact⟨.bl (bs.all id),H,I.kept (old_kept hk),rfl,q⟩
theorem y6(hc:X.calm=true):kB X (.builtin "any") (λxs H Q=>∃(a:WA)(bs:List Bool),xs=[.ref a]/\bg X.K H a (bs.map V.bl)/\Q (.bl (bs.any id)) H):=by
 intro Ys s σ H xs us Q I r h;obtain⟨a,bs,rfl,hl,q⟩:=h;obtain⟨u,rfl,rx⟩:=lj r;cases rx;obtain⟨its,rv,p,hz⟩:=I.list hl;have hi:=C0 rv;subst hi;refine call_any_walk (C2 p.isList λs₂ e st hlI=>?_);subst e;refine⟨_,_,_,_,_,_,λi=>bs.getD i true,rfl,VN (A:=X.A.in1) (I.ok.hd hc) _ a hlI _,st,λi v s' Q' E' hP hq=>by rw [C1 hP];exact WY hq,λh' tk hk=>?_⟩;have e:=IS bs (λi=>bs.getD i true) λ_ _=>rfl;have e2:(QY Sr bs).toArray.size=bs.length:=Wv
 rw [e2,e];exact⟨.bl (bs.any id),H,I.kept (old_kept hk),rfl,q⟩
end
open PySem PySem.Spec PyProof.Rows PySem.W PySem.Calls PySem.Builtin.ObjectAttr PySem.Builtin PySem.Builtin.Getset_descriptor
section
variable {prog:WM} {w:WO} {A:WR} {E:Wx->WB->Prop} {s:WB} {K:Pt} {x C:WA}
theorem kU.type{M:XS}{h:WL}(p:kU x (.ref C) h):Looks M h (typeOf (.ref x)) (.ref C):=by
 obtain⟨o,h1,h2⟩:=p;exact h2▸(Looks.ld h1).andThen .now
theorem IT{tp:Wx}{R:Yh->WB->Prop}(X:K.In s.heap)(p:kU x (.ref C) s.heap)(hm:mroIn K C (.type "object")=some true)(hq:R (.ok (.ret (.ref C))) s):
 Xt (WE prog w) A (.call (.builtin "getset_descriptor.__get__") ⟨[.builtin "object.__class__",.ref x,tp],[]⟩) R s:=by
 obtain⟨hh,gg,dr,tt,os⟩:=s;have LT:=kU.type (M:=WE prog w) p;have LM:=looks_mroIn (M:=WE prog w) X hm;refine Xg KF.slot_gs.plain KF.entry_gs (KF.slot_gs.check _ _ _ _ _ _ _ _ KF.type_class (KF.args_gs _ _ _) ?_);unfold Builtin.«getset_descriptor.__get__» descrGet;rw [dga_obj];refine Wy (WC ?_);unfold descrGetter descrCheckInstance descrNameAndClass isInstance;simp only [KF.owner_class]
 repeat lk
 refine⟨To _ td,Xm KF.entry_class ?_⟩;unfold Builtin.«object.__class__» shownTypeOf;(repeat lk);exact hq
structure lR (K:Pt) (C:WA):Prop where
 ga:X7 K (.ref C) "__getattribute__"=some (some (.builtin "BaseException.__getattribute__"))
 hk:X7 K (.ref C) "__getattr__"=some none
 cl:X7 K (.ref C) "__class__"=some (some (.builtin "object.__class__"))
 gt:specialIn K (.builtin "object.__class__") "__get__"=some (some (.builtin "getset_descriptor.__get__"))
 tk:takesIn K (.builtin "object.__class__")=some true
 ob:mroIn K C (.type "object")=some true
 be:mroIn K C (.type "BaseException")=some true
 cd:(clsIn K C).isSome=true
theorem C3{nameV:Wx}{Q:Unit->WB->Prop}(Z:lR K C)(X:K.In s.heap)(p:kU x (.ref C) s.heap)(hq:Q () s):
 WD (WE prog w) A (XG "BaseException.__getattribute__" ⟨[.ref x,nameV],[]⟩) Q E s:=by
 have hk:builtinKind "BaseException.__getattribute__"=some .slot:=td
 have hsp:splitId "BaseException.__getattribute__"=some ("BaseException","__getattribute__"):=td
 have ha:=F.args_bexc_ga (.ref x) nameV;have LI:Looks (WE prog w) s.heap (isInstance (.ref x) (.type "BaseException")) true:=(kU.type p).andThen (looks_mroIn X Z.be);simp only [XG,hk,hsp];refine Wy (LI.at ?_)
 repeat (first | wp_step)
 exact hq
theorem IU{tk:Tok}{Q:Fin->WB->Prop}(Z:lR K C)(X:K.In s.heap)(p:kU x (.ref C) s.heap)(hq:Q (.done (.ret (.ref C))) s):
 WD (WE prog w) A (Builtin.«object.__getattribute__» ⟨[.ref x,.str "__class__" tk],[]⟩) Q E s:=by
 obtain⟨hh,gg,dr,tt,os⟩:=s;have L0:=kU.type (M:=WE prog w) p;have L1:=Xu (M:=WE prog w) X Z.cl;have L2:=looks_specialIn (M:=WE prog w) X Z.gt;have L3:=looks_takesIn (M:=WE prog w) X Z.tk;have LF:Looks (WE prog w) hh (PySem.Builtin.ObjectAttr.find (.ref x) (.ref C) "__class__") (.bind (.builtin "getset_descriptor.__get__") (.builtin "object.__class__")):=
  L1.andThen (L2.andThen ((show Looks (WE prog w) hh (dataDescriptor? (some (.builtin "object.__class__")) (some (.builtin "getset_descriptor.__get__"))) (some (.builtin "getset_descriptor.__get__",.builtin "object.__class__")) from L3.andThen .now).andThen (Looks.tag .now)))
 unfold Builtin.«object.__getattribute__»
 repeat (first | with_reducible refine Wy (L0.at ?_) | with_reducible refine Wy (LF.at ?_) | wp_step)
 refine IT X p Z.ob ?_
 repeat (first | wp_step)
 exact hq
theorem IV{tk:Tok}{R:Yh->WB->Prop}(Z:lR K C)(X:K.In s.heap)(p:kU x (.ref C) s.heap)(hq:R (.ok (.ret (.ref C))) s):
 Xt (WE prog w) A (.call (.builtin "BaseException.__getattribute__") ⟨[.ref x,.str "__class__" tk],[]⟩) R s:=
 Xg F.excAttr_ValueError.ga.plain F.entry_bexc_ga (C3 Z X p (IU Z X p hq))
theorem IW{tk:Tok}{Q:Wx->WB->Prop}(Z:lR K C)(X:K.In s.heap)(p:kU x (.ref C) s.heap)(hq:Q (.ref C) s):
 WD (WE prog w) A (getAttrBy (.ref x) (.str "__class__" tk) false) Q E s:=by
 obtain⟨hh,gg,dr,tt,os⟩:=s;have L0:=kU.type (M:=WE prog w) p;have L1:=Xu (M:=WE prog w) X Z.ga;have L2:=Xu (M:=WE prog w) X Z.hk;have f3:=F.excAttr_ValueError.ga.bind (.ref x);have hx0:(false && onTheHeap (R9 "BaseException.__getattribute__"))=false:=rfl;have hx2:(R9 "BaseException.__getattribute__"==R9 "object.__getattribute__")=false:=td
 have hx1:(onTheHeap (QJ C) && R9 "BaseException.__getattribute__"==R9 "object.__getattribute__")=false:=by rw [hx2];rfl
 repeat (first | with_reducible refine Wy (L0.at ?_) | with_reducible refine Wy (L1.at ?_) | with_reducible refine L2.at ?_ | wp_step)
 refine IV (s:=⟨hh,gg,dr,tt,os⟩) Z X p ?_
 repeat (first | wp_step)
 exact hq
theorem IX{Q:Option Wx->WB->Prop}(Z:lR K C)(X:K.In s.heap)(p:kU x (.ref C) s.heap)(hq:Q (some (.ref C)) {s with toks:=s.toks+1}):
 WD (WE prog w) A (getAttr? (.ref x) "__class__") Q E s:=by
 obtain⟨hh,gg,dr,tt,os⟩:=s;unfold getAttr? getAttrBy?
 repeat (any_goals (first | assumption | with_reducible apply IW (s:=⟨hh,gg,dr,tt+1,os⟩) Z X p | wp_step))
theorem C4(Z:lR K C):KitX K (.ref x) (.ref C) (kU x (.ref C)) where
 ty:=λM h _ p=>kU.type p
 it:=λM h X _=>by
  obtain⟨cdD,hcD⟩:=Sj.mp Z.cd;unfold clsIn at hcD;split at hcD
  ·rename_i ho;intro A' Q' E' s' k q;unfold isType loadHead;exact Wy (wpAny_loadPart (k _ _ (X _ _ ho)) (WC q))
  ·cases hcD
 ne:=λh tp dd its n sl X htp=>by
  obtain⟨cdD,hcD⟩:=Sj.mp Z.cd;refine Vs.mpr λq=>?_;have e:=QJ.inj (beq_iff_eq.mp q);subst e;unfold clsIn at hcD;split at hcD
  ·rename_i ho;have z:=(X _ _ ho).symm.trans htp;cases z
  ·cases hcD
 ca:=λX p k=>IX Z X p k
end
section
variable {X:Cx}
abbrev aS(d:Ww):Prop:=PM d=true
theorem IY{cs:List WA}{its:List Wx}(r:aM (cs.map V.ref) its):its=cs.map QJ:=by
 induction cs generalizing its with
 | nil=>cases r;rfl
 | cons b bs ih=>
  rw [Py] at r;cases r with
  | cons r1 r2=>
   rw [Py,<-ih r2];exact congrArg (·::_) r1
end
theorem pw:WU "all"=some (.builtin "all"):=td
theorem y8:WU "any"=some (.builtin "any"):=td
theorem IZ:WU "ValueError"=some (.type "ValueError"):=td
def I0(p:WA)(h:WL):Prop:=∃(n:Int)(t:Tok)(k:Nat),h.get? p=some {cls:= .type "list",data:= .seq #[.int n t] k}
abbrev oA(p:WA):HO:= .ext (I0 p)
abbrev mh:Ww:= .dict [(.none,.none)]
def Ja(p:WA)(h:WL):Prop:=∃(a b c:Int)(t u v:Tok)(k:Nat),h.get? p=some {cls:= .type "list",data:= .seq #[.int a t,.int b u,.int c v] k}
abbrev Jb(p:WA):HO:= .ext (Ja p)
abbrev Jc:Ww:= .dict [(.none,.bool true)]
abbrev mD(ds:List Ww):Ww:= .dict [(.none,.list ds)]
abbrev C5(C:WA)(kp ds:List Ww):Ww:= .dict [(.none,.tuple [.int (C:Int),.list kp,.list ds])]
abbrev C6(kp ds:List Ww):Ww:= .dict [(.bool true,.tuple [.list kp,.list ds])]
abbrev Ex:=WA->Prop
abbrev sW:Hp:=λ_=>none
mutual
inductive Dt (K:Pt) (H:Hp) (O:Ex):V->Ww->Prop
 | non:Dt K H O .non .none
 | bl (b:Bool):Dt K H O (.bl b) (.bool b)
 | int (i:Int):Dt K H O (.int i) (.int i)
 | str (x:Str):Dt K H O (.str x) (.str x)
 | tup {a:WA} {xs:List V} {ds:List Ww}:Rd H a (.tup xs)->¬O a->au K H O xs ds->Dt K H O (.ref a) (.tuple ds)
 | tupK {a:WA} {xs:List V} {ds:List Ww}:aZ K sW a xs->au K H O xs ds->Dt K H O (.ref a) (.tuple ds)
 | lst {a:WA} {xs:List V} {ds:List Ww}:Rd H a (.lst xs)->¬O a->au K H O xs ds->Dt K H O (.ref a) (.list ds)
 | pack {p:WA}:H p=some (oA p)->¬O p->Dt K H O (.ref p) mh
 | purse {p:WA}:H p=some (Jb p)->¬O p->Dt K H O (.ref p) Jc
 | dct0 {a:WA}:H a=some (.dK [])->¬O a->Dt K H O (.ref a) (.dict [])
 | obj {a C dx:WA} {fs:List (Str×V)} {kp ds:List Ww}:H a=some (.ins C dx fs)->kp=fs.map (λp=>Pu p.1)->¬O a->au K H O (fs.map (·.2)) ds->Dt K H O (.ref a) (C5 C kp ds)
 | dic {a:WA} {ob:Obj} {kv:List (br×V)} {ks:List Str} {kp ds:List Ww}:H a=some (.frz ob (.dK kv))->kv.map (·.1)=ks.map Tr->kp=ks.map Pu->¬O a->au K H O (kv.map (·.2)) ds->Dt K H O (.ref a) (C6 kp ds)
 | scr {a:WA} {xs:List V} {ds:List Ww}:(Rd H a (.lst xs)/\¬O a)\/bg K sW a xs->au K H O xs ds->Dt K H O (.ref a) (mD ds)
inductive au (K:Pt) (H:Hp) (O:Ex):List V->List Ww->Prop
 | nil:au K H O [] []
 | cons {v:V} {d:Ww} {vs:List V} {ds:List Ww}:Dt K H O v d->au K H O vs ds->au K H O (v::vs) (d::ds)
end
theorem Rd.same{H H':Hp}{a:WA}{u:HO}(s:∀o,H a=some o->H' a=some o)(h:Rd H a u):Rd H' a u:=by
 rcases h with h | ⟨o,h⟩
 ·exact .inl (s _ h)
 ·exact .inr ⟨o,s _ h⟩
theorem Rd.trk{H:Hp}{a:WA}{u:HO}(h:Rd H a u):H a≠none:=by
 rcases h with h | ⟨o,h⟩ <;> rw [h] <;> exact λz=>nomatch z
section
variable {K:Pt}
structure aX (H H':Hp) (O O':Ex):Prop where
 keep:∀b o,H b=some o->¬O b->H' b=some o
 out:∀b,H b≠none->¬O b->¬O' b
mutual
theorem Dt.step{H H':Hp}{O O':Ex}(S:aX H H' O O'):∀{v:V}{d:Ww},Dt K H O v d->Dt K H' O' v d
 | _,_,.non=>.non
 | _,_,.bl b=>.bl b
 | _,_,.int i=>.int i
 | _,_,.str x=>.str x
 | _,_,.tup h n r=>.tup (h.same λo e=>S.keep _ o e n) (S.out _ h.trk n) (au.step S r)
 | _,_,.tupK h r=>.tupK h (au.step S r)
 | _,_,.lst h n r=>.lst (h.same λo e=>S.keep _ o e n) (S.out _ h.trk n) (au.step S r)
 | _,_,.pack h n=>.pack (S.keep _ _ h n) (S.out _ (by rw [h];exact λz=>nomatch z) n)
 | _,_,.purse h n=>.purse (S.keep _ _ h n) (S.out _ (by rw [h];exact λz=>nomatch z) n)
 | _,_,.dct0 h n=>.dct0 (S.keep _ _ h n) (S.out _ (by rw [h];exact λz=>nomatch z) n)
 | _,_,.obj h e n r=>.obj (S.keep _ _ h n) e (S.out _ (by rw [h];exact λz=>nomatch z) n) (au.step S r)
 | _,_,.dic h e1 e2 n r=>.dic (S.keep _ _ h n) e1 e2 (S.out _ (by rw [h];exact λz=>nomatch z) n) (au.step S r)
 | _,_,.scr h r=>.scr (h.imp (λh=>⟨h.1.same λo e=>S.keep _ o e h.2,S.out _ h.1.trk h.2⟩) id) (au.step S r)
theorem au.step{H H':Hp}{O O':Ex}(S:aX H H' O O'):∀{vs:List V}{ds:List Ww},au K H O vs ds->au K H' O' vs ds
 | _,_,.nil=>.nil
 | _,_,.cons h r=>.cons (Dt.step S h) (au.step S r)
end
theorem aX.same{H H':Hp}{O:Ex}(s:aq H H'):aX H H' O O:=⟨λb o e _=>s b o e,λ_ _ n=>n⟩
theorem Dt.mono{H H':Hp}{O:Ex}{v:V}{d:Ww}(s:aq H H')(h:Dt K H O v d):Dt K H' O v d:=h.step (.same s)
theorem au.mono{H H':Hp}{O:Ex}{v:List V}{d:List Ww}(s:aq H H')(h:au K H O v d):au K H' O v d:=h.step (.same s)
theorem au.length{H:Hp}{O:Ex}:∀{vs:List V}{ds:List Ww},au K H O vs ds->vs.length=ds.length
 | _,_,.nil=>rfl
 | _,_,.cons _ r=>by rw [Px,Px,au.length r]
theorem au.get{H:Hp}{O:Ex}:∀{vs:List V}{ds:List Ww}{i:Nat}{v:V},au K H O vs ds->vs[i]?=some v->∃d,ds[i]?=some d/\Dt K H O v d
 | _,_,_,_,.nil,e=>by simp at e
 | _,_,0,_,.cons h _,e=>by simp at e;subst e;exact⟨_,rfl,h⟩
 | _,_,i+1,_,.cons _ r,e=>by simpa using au.get (i:=i) r (by simpa using e)
theorem au.getD{H:Hp}{O:Ex}:∀{vs:List V}{ds:List Ww}{i:Nat}{d:Ww},au K H O vs ds->ds[i]?=some d->∃v,vs[i]?=some v/\Dt K H O v d
 | _,_,_,_,.nil,e=>by simp at e
 | _,_,0,_,.cons h _,e=>by simp at e;subst e;exact⟨_,rfl,h⟩
 | _,_,i+1,_,.cons _ r,e=>by simpa using au.getD (i:=i) r (by simpa using e)
theorem au.append{H:Hp}{O:Ex}:∀{vs ws:List V}{ds es:List Ww},au K H O vs ds->au K H O ws es->au K H O (vs++ws) (ds++es)
 | _,_,_,_,.nil,s=>s
 | _,_,_,_,.cons h r,s=>.cons h (au.append r s)
theorem au.take{H:Hp}{O:Ex}:∀{vs:List V}{ds:List Ww}(n:Nat),au K H O vs ds->au K H O (vs.take n) (ds.take n)
 | _,_,0,_=>.nil
 | _,_,_+1,.nil=>.nil
 | _,_,n+1,.cons h r=>.cons h (au.take n r)
theorem au.drop{H:Hp}{O:Ex}:∀{vs:List V}{ds:List Ww}(n:Nat),au K H O vs ds->au K H O (vs.drop n) (ds.drop n)
 | _,_,0,r=>r
 | _,_,_+1,.nil=>.nil
 | _,_,n+1,.cons _ r=>au.drop n r
theorem au.ints{H:Hp}{O:Ex}:∀(ns:List Int),au K H O (ns.map V.int) (ns.map PV)
 | []=>.nil
 | n::r=>.cons (.int n) (au.ints r)
inductive Sh (K:Pt) (H:Hp) (O:Ex):V->Ww->Prop
 | dt {v:V} {d:Ww}:Dt K H O v d->Sh K H O v d
 | own {l:WA} {vs:List V} {ds:List Ww}:H l=some (.lst vs)->au K H O vs ds->Sh K H O (.ref l) (.list ds)
theorem Sh.mono{H H':Hp}{O:Ex}{v:V}{d:Ww}(s:aq H H'):Sh K H O v d->Sh K H' O v d
 | .dt h=>.dt (h.mono s)
 | .own h r=>.own (s _ _ h) (r.mono s)
theorem Dt.all{H:Hp}{O:Ex}{v:V}{d:Ww}(h:Dt K H O v d):Dt K H (λ_=>False) v d:=h.step ⟨λ_ _ e _=>e,λ_ _ _ z=>z⟩
theorem au.all{H:Hp}{O:Ex}{v:List V}{d:List Ww}(h:au K H O v d):au K H (λ_=>False) v d:=h.step ⟨λ_ _ e _=>e,λ_ _ _ z=>z⟩
theorem Sh.all{H:Hp}{O:Ex}{v:V}{d:Ww}:Sh K H O v d->Dt K H (λ_=>False) v d
 | .dt h=>h.all
 | .own h r=>.lst (.inl h) (λz=>z) r.all
theorem aZ.of0{H:Hp}{a:WA}{xs:List V}(h:aZ K sW a xs):aZ K H a xs:=by
 rcases h with(h | ⟨o,h⟩) | h
 ·cases h
 ·cases h
 ·exact .inr h
theorem bg.of0{H:Hp}{a:WA}{xs:List V}(h:bg K sW a xs):bg K H a xs:=by
 rcases h with(h | ⟨o,h⟩) | h
 ·cases h
 ·cases h
 ·exact .inr h
theorem Sh.tup{H:Hp}{O:Ex}{v:V}{ds:List Ww}(h:Sh K H O v (.tuple ds)):∃a xs,v= .ref a/\aZ K H a xs/\au K H O xs ds:=by
 cases h with
 | dt h=>
  cases h with
  | tup h _ r=>exact⟨_,_,rfl,.inl h,r⟩
  | tupK h r=>exact⟨_,_,rfl,h.of0,r⟩
theorem Sh.lstR{H:Hp}{O:Ex}{v:V}{ds:List Ww}(h:Sh K H O v (.list ds)):∃a xs,v= .ref a/\Rd H a (.lst xs)/\au K H O xs ds:=by
 cases h with
 | dt h=>
  cases h with
  | lst h _ r=>exact⟨_,_,rfl,h,r⟩
 | own h r=>exact⟨_,_,rfl,.inl h,r⟩
theorem Sh.lst{H:Hp}{O:Ex}{v:V}{ds:List Ww}(h:Sh K H O v (.list ds)):∃a xs,v= .ref a/\bg K H a xs/\au K H O xs ds:=by
 obtain⟨a,xs,e,h,r⟩:=h.lstR;exact⟨a,xs,e,.inl h,r⟩
theorem Sh.scr{H:Hp}{O:Ex}{v:V}{ds:List Ww}(h:Sh K H O v (mD ds)):∃a xs,v= .ref a/\bg K H a xs/\au K H O xs ds:=by
 cases h with
 | dt h=>
  cases h with
  | scr h r=>
   rcases h with h | h
   ·exact⟨_,_,rfl,.inl h.1,r⟩
   ·exact⟨_,_,rfl,h.of0,r⟩
theorem Sh.int{H:Hp}{O:Ex}{v:V}{i:Int}(h:Sh K H O v (.int i)):v= .int i:=by cases h with | dt h=>cases h;rfl
theorem Sh.bl{H:Hp}{O:Ex}{v:V}{i:Bool}(h:Sh K H O v (.bool i)):v= .bl i:=by cases h with | dt h=>cases h;rfl
theorem Sh.str{H:Hp}{O:Ex}{v:V}{i:Str}(h:Sh K H O v (.str i)):v= .str i:=by cases h with | dt h=>cases h;rfl
theorem Sh.non{H:Hp}{O:Ex}{v:V}(h:Sh K H O v .none):v= .non:=by cases h with | dt h=>cases h;rfl
def cx:Ww->Bool
 | .none | .bool _ | .int _ | .str _=>true
 | _=>false
end
section
variable {X:Cx} {Ys:List (WA×Obj)} {σ:St} {H:Hp} {s:WB}
mutual
theorem nk(I:ag X Ys σ H s){O:Ex}:∀{v:V}{d:Ww}{u:Wx},Dt X.K H O v d->d.canLay0=true->aJ v u->∃as,Reads s.heap u d as
 | _,_,_,.non,_,r=>by cases r;exact⟨_,Reads.none⟩
 | _,_,_,.bl b,_,r=>by cases r;exact⟨_,Reads.bool b⟩
 | _,_,_,.int i,_,r=>by obtain⟨t,rfl⟩:=r;exact⟨_,Reads.int i t⟩
 | _,_,_,.str x,_,r=>by obtain⟨t,rfl⟩:=r;exact⟨_,Reads.str x t⟩
 | _,_,_,.tup h _ hs,c,r=>by
  cases r;obtain⟨its,rv,⟨o,e,c',n,dd⟩,_⟩:=I.tuple (.inl h);obtain⟨as,q⟩:=uJ I hs (by simpa [QZ] using c) rv;exact⟨as,reads_tuple_at e c' dd (by simpa using q)⟩
 | _,_,_,.tupK h hs,c,r=>by
  cases r;obtain⟨its,rv,⟨o,e,c',n,dd⟩,_⟩:=I.tuple h.of0;obtain⟨as,q⟩:=uJ I hs (by simpa [QZ] using c) rv;exact⟨as,reads_tuple_at e c' dd (by simpa using q)⟩
 | _,_,_,.lst h _ hs,c,r=>by
  cases r;obtain⟨its,rv,⟨o,n,e,c',_,dd⟩,_⟩:=I.list (.inl h);obtain⟨as,q⟩:=uJ I hs (by simpa [QZ] using c) rv;exact⟨_,reads_list_at e c' dd (by simpa using q)⟩
 | _,_,_,.pack _ _,c,_=>by simp [QZ] at c
 | _,_,_,.purse _ _,c,_=>by simp [QZ] at c
 | _,_,_,.dct0 _ _,c,_=>by simp [QZ] at c
 | _,_,_,.obj _ _ _ _,c,_=>by simp [QZ] at c
 | _,_,_,.dic _ _ _ _ _,c,_=>by simp [QZ] at c
 | _,_,_,.scr _ _,c,_=>by simp [QZ] at c
theorem uJ(I:ag X Ys σ H s){O:Ex}:∀{vs:List V}{ds:List Ww}{us:List Wx},au X.K H O vs ds->Q6 ds=true->aM vs us->∃as,ReadsAll s.heap us ds as
 | _,_,_,.nil,_,r=>by cases r;exact⟨_,ReadsAll.nil⟩
 | _,_,_,.cons h hs,c,r=>by
  rw [Q6,Qh] at c;cases r with
  | cons r1 r2=>
   obtain⟨as,q⟩:=nk I h c.1 r1;obtain⟨bs,p⟩:=uJ I hs c.2 r2;exact⟨_,ReadsAll.cons q p⟩
end
end
inductive Sl where
 | v (d:Ww)
 | o (ds:List Ww)
 | k (kd:List (br×Ww))
 | i (l C:WA) (fd:List (Str×Ww))
 | r (l C g u:WA) (fd:List (Str×Ww)) (gd ud:List (br×Ww))
 | b (ds:List Ww)
 | f (kd:List (br×Ww))
abbrev Dl:=List (Option Sl)
inductive l7 (K:Pt) (H:Hp) (O:Ex):List (br×V)->List (br×Ww)->Prop
 | nil:l7 K H O [] []
 | cons {k:br} {v:V} {d:Ww} {r:List (br×V)} {s:List (br×Ww)}:Dt K H O v d->l7 K H O r s->l7 K H O ((k,v)::r) ((k,d)::s)
theorem l7.step{K:Pt}{H H':Hp}{O O':Ex}(S:aX H H' O O'){r:List (br×V)}{s:List (br×Ww)}(h:l7 K H O r s):l7 K H' O' r s:=by
 induction h with
 | nil=>exact .nil
 | cons a _ ih=>exact .cons (a.step S) ih
theorem l7.mono{K:Pt}{H H':Hp}{O:Ex}(S:aq H H'){r:List (br×V)}{s:List (br×Ww)}(h:l7 K H O r s):l7 K H' O r s:=h.step (.same S)
def y9(K:Pt)(H:Hp)(O:Ex)(fs:List (Str×V))(fd:List (Str×Ww)):Prop:=fs.map (·.1)=fd.map (·.1)/\au K H O (fs.map (·.2)) (fd.map (·.2))
def Sl.own:Sl->Prop
 | .v _=>False
 | .b _=>False
 | .f _=>False
 | _=>True
abbrev Jd:Str:=Pr "gone"
abbrev Je:Str:=Pr "used"
def Jf(K:Pt)(H:Hp)(O0 O:Ex)(l C g u:WA)(fd:List (Str×Ww))(gd ud:List (br×Ww)):Prop:=∃dx fs og ou gv uv,H l=some (.ins C dx (fs++[(Jd,.ref g),(Je,.ref u)]))/\y9 K H O fs fd/\g≠u/\
 (O g/\¬O0 g/\H g=some (.frz og (.dK gv))/\l7 K H O gv gd)/\(O u/\¬O0 u/\H u=some (.frz ou (.dK uv))/\l7 K H O uv ud)
def oB(K:Pt)(H:Hp)(O0 O:Ex)(x:Option V):Option Sl->Prop
 | none=>True
 | some (.v d)=>∃v,x=some v/\Dt K H O v d
 | some (.o ds)=>∃l vs,x=some (.ref l)/\O l/\¬O0 l/\H l=some (.lst vs)/\au K H O vs ds
 | some (.k kd)=>∃l kv,x=some (.ref l)/\O l/\¬O0 l/\H l=some (.dK kv)/\l7 K H O kv kd
 | some (.i l C fd)=>∃dx fs,x=some (.ref l)/\O l/\¬O0 l/\H l=some (.ins C dx fs)/\y9 K H O fs fd
 | some (.r l C g u fd gd ud)=>x=some (.ref l)/\O l/\¬O0 l/\Jf K H O0 O l C g u fd gd ud
 | some (.b ds)=>∃l vs,x=some (.ref l)/\O0 l/\H l=some (.lst vs)/\au K H O vs ds
 | some (.f kd)=>∃l o kv,x=some (.ref l)/\¬O l/\H l=some (.frz o (.dK kv))/\l7 K H O kv kd
structure Wd (K:Pt) (H0:Hp) (O0:Ex) (H:Hp) (O:Ex) (σ:St) (δ:Dl):Prop where
 same:aq H0 H
 sub:∀l,O0 l->O l
 new:∀l,O l->O0 l\/H0 l=none
 trk:∀l,O l->H l≠none
 len:σ.length=δ.length
 sl:∀(i:Nat) y,δ[i]?=some y->oB K H O0 O ((σ[i]?).join) y
 dis:∀(i j:Nat) y z l,δ[i]?=some (some y)->y.own->δ[j]?=some (some z)->z.own->σ[i]?=some (some (.ref l))->σ[j]?=some (some (.ref l))->i=j
section
variable {K:Pt} {H0 H H':Hp} {O0 O:Ex} {σ:St} {δ:Dl}
theorem oB.mono{x:Option V}{y:Option Sl}(s:aq H H')(h:oB K H O0 O x y):oB K H' O0 O x y:=by
 cases y with
 | none=>exact RM
 | some y=>
  cases y with
  | v d=>
   obtain⟨v,e,r⟩:=h;exact⟨v,e,r.mono s⟩
  | o ds=>
   obtain⟨l,vs,e,a,b,c,r⟩:=h;exact⟨l,vs,e,a,b,s _ _ c,r.mono s⟩
  | k ds=>
   obtain⟨l,vs,e,a,b,c,r⟩:=h;exact⟨l,vs,e,a,b,s _ _ c,r.mono s⟩
  | i l C ds=>
   obtain⟨dx,vs,e,a,b,c,r1,r2⟩:=h;exact⟨dx,vs,e,a,b,s _ _ c,r1,r2.mono s⟩
  | r l C g u fd gd ud=>
   obtain⟨e,a,b,dx,fs,og,ou,gv,uv,c,⟨r1,r2⟩,ne,⟨g1,g2,g3,g4⟩,u1,u2,u3,u4⟩:=h;exact⟨e,a,b,dx,fs,og,ou,gv,uv,s _ _ c,⟨r1,r2.mono s⟩,ne,⟨g1,g2,s _ _ g3,g4.mono s⟩,u1,u2,s _ _ u3,u4.mono s⟩
  | b ds=>
   obtain⟨l,vs,e,a,c,r⟩:=h;exact⟨l,vs,e,a,s _ _ c,r.mono s⟩
  | f kd=>
   obtain⟨l,o,kv,e,a,c,r⟩:=h;exact⟨l,o,kv,e,a,s _ _ c,r.mono s⟩
theorem oB.go{O':Ex}{x:Option V}{y:Option Sl}(h:oB K H O0 O x y)(S:aX H H' O O')(kp:∀l o,y.any (λz=>match z with | .v _=>false | .b _=>false | .f _=>false | _=>true)=true->x=some (.ref l)->O l->¬O0 l->H l=some o->O' l/\H' l=some o)
 (kp2:∀a o u,O a->¬O0 a->H a=some (.frz o u)->O' a/\H' a=some (.frz o u))(kp3:∀a o,O0 a->H a=some o->H' a=some o):oB K H' O0 O' x y:=by
 cases y with
 | none=>exact RM
 | some y=>
  cases y with
  | v d=>
   obtain⟨v,e,r⟩:=h;exact⟨v,e,r.step S⟩
  | o ds=>
   obtain⟨l,vs,e,a,b,c,r⟩:=h;exact⟨l,vs,e,(kp l _ rfl e a b c).1,b,(kp l _ rfl e a b c).2,r.step S⟩
  | k ds=>
   obtain⟨l,vs,e,a,b,c,r⟩:=h;exact⟨l,vs,e,(kp l _ rfl e a b c).1,b,(kp l _ rfl e a b c).2,r.step S⟩
  | i l C ds=>
   obtain⟨dx,vs,e,a,b,c,r1,r2⟩:=h;exact⟨dx,vs,e,(kp l _ rfl e a b c).1,b,(kp l _ rfl e a b c).2,r1,r2.step S⟩
  | r l C g u fd gd ud=>
   obtain⟨e,a,b,dx,fs,og,ou,gv,uv,c,⟨r1,r2⟩,ne,⟨g1,g2,g3,g4⟩,u1,u2,u3,u4⟩:=h;exact⟨e,(kp l _ rfl e a b c).1,b,dx,fs,og,ou,gv,uv,(kp l _ rfl e a b c).2,⟨r1,r2.step S⟩,ne,⟨(kp2 _ _ _ g1 g2 g3).1,g2,(kp2 _ _ _ g1 g2 g3).2,g4.step S⟩,(kp2 _ _ _ u1 u2 u3).1,u2,(kp2 _ _ _ u1 u2 u3).2,u4.step S⟩
  | b ds=>
   obtain⟨l,vs,e,a,c,r⟩:=h;exact⟨l,vs,e,a,kp3 _ _ a c,r.step S⟩
  | f kd=>
   obtain⟨l,o,kv,e,a,c,r⟩:=h;exact⟨l,o,kv,e,S.out _ (by rw [c];exact λz=>nomatch z) a,S.keep _ _ c a,r.step S⟩
theorem Wd.mono(s:aq H H')(w:Wd K H0 O0 H O σ δ):Wd K H0 O0 H' O σ δ:=
 ⟨w.same.trans s,w.sub,w.new,λl h z=>(by
  cases e:H l with
  | none=>exact w.trk l h e
  | some o=>rw [s _ _ e] at z;cases z),w.len,λi y e=>(w.sl i y e).mono s,w.dis⟩
theorem qi{i:Nat}{v:V}(h:(σ[i]?).join=some v):σ[i]?=some (some v):=by
 cases q:σ[i]? with
 | none=>rw [q] at h;cases h
 | some o=>rw [q] at h;rw [show o=some v from h]
theorem Wd.val(w:Wd K H0 O0 H O σ δ){i:Nat}{d:Ww}(e:δ[i]?=some (some (.v d))):∃v,σ[i]?=some (some v)/\Dt K H O v d:=by
 obtain⟨v,h,r⟩:=w.sl i _ e;exact⟨v,qi h,r⟩
theorem Wd.own(w:Wd K H0 O0 H O σ δ){i:Nat}{ds:List Ww}(e:δ[i]?=some (some (.o ds))):∃l vs,σ[i]?=some (some (.ref l))/\O l/\¬O0 l/\H l=some (.lst vs)/\au K H O vs ds:=by
 obtain⟨l,vs,h,r⟩:=w.sl i _ e;exact⟨l,vs,qi h,r⟩
theorem Wd.ownK(w:Wd K H0 O0 H O σ δ){i:Nat}{kd:List (br×Ww)}(e:δ[i]?=some (some (.k kd))):∃l kv,σ[i]?=some (some (.ref l))/\O l/\¬O0 l/\H l=some (.dK kv)/\l7 K H O kv kd:=by
 obtain⟨l,vs,h,r⟩:=w.sl i _ e;exact⟨l,vs,qi h,r⟩
theorem Wd.ownI(w:Wd K H0 O0 H O σ δ){i:Nat}{l C:WA}{fd:List (Str×Ww)}(e:δ[i]?=some (some (.i l C fd))):∃dx fs,σ[i]?=some (some (.ref l))/\O l/\¬O0 l/\H l=some (.ins C dx fs)/\y9 K H O fs fd:=by
 obtain⟨dx,vs,h,r⟩:=w.sl i _ e;exact⟨dx,vs,qi h,r⟩
theorem Wd.adr(w:Wd K H0 O0 H O σ δ){i:Nat}{y:Sl}(e:δ[i]?=some (some y))(h:y.own):∃l,σ[i]?=some (some (.ref l))/\O l/\¬O0 l:=by
 match y,h,e with
 | .o ds,_,e=>obtain⟨l,vs,a,b,c,_⟩:=w.own e;exact⟨l,a,b,c⟩
 | .k ds,_,e=>obtain⟨l,vs,a,b,c,_⟩:=w.ownK e;exact⟨l,a,b,c⟩
 | .i l C ds,_,e=>obtain⟨dx,vs,a,b,c,_⟩:=w.ownI e;exact⟨l,a,b,c⟩
 | .r l C g u fd gd ud,_,e=>obtain⟨a,b,c,_⟩:=w.sl i _ e;exact⟨l,qi a,b,c⟩
theorem Wd.nofrz(w:Wd K H0 O0 H O σ δ){i:Nat}{y:Sl}{l:WA}(e:δ[i]?=some (some y))(h:y.own)(hl:σ[i]?=some (some (.ref l)))(o:Obj)(u:HO):H l≠some (.frz o u):=by
 match y,h,e with
 | .o ds,_,e=>obtain⟨l',vs,a,b,c,d,_⟩:=w.own e;rw [hl] at a;cases a;rw [d];exact λz=>nomatch z
 | .k ds,_,e=>obtain⟨l',vs,a,b,c,d,_⟩:=w.ownK e;rw [hl] at a;cases a;rw [d];exact λz=>nomatch z
 | .i l C ds,_,e=>obtain⟨dx,vs,a,b,c,d,_⟩:=w.ownI e;rw [hl] at a;cases a;rw [d];exact λz=>nomatch z
 | .r l C g u fd gd ud,_,e=>obtain⟨a,b,c,_,_,_,_,_,_,d,_⟩:=w.sl i _ e;have a:=qi a;rw [hl] at a;cases a;rw [d];exact λz=>nomatch z
theorem Wd.set(w:Wd K H0 O0 H O σ δ){i:Nat}{v:V}{d:Ww}(h:Dt K H O v d):Wd K H0 O0 H O (σ.set i (some v)) (δ.set i (some (.v d))):=by
 refine⟨w.same,w.sub,w.new,w.trk,by simp [w.len],λj y e=>?_,λj k y z l e1 y1 e2 z2 e3 e4=>?_⟩
 ·by_cases hj:j=i
  ·subst hj;have hl:j < δ.length:=by
    have:=(Qu.mp e).1;simpa using this
   rw [Ri hl] at e;cases e;rw [Ri (by rw [w.len];exact hl)];exact⟨v,rfl,h⟩
  ·rw [Q5 (Ne.symm hj)] at e⊢;exact w.sl j y e
 ·have ne:∀{j:Nat}{y:Sl},(δ.set i (some (.v d)))[j]?=some (some y)->y.own->j≠i:=λ{j y} e ho z=>by
   subst z;by_cases hl:j < δ.length
   ·rw [Ri hl] at e;cases e;exact ho
   ·rw [Sf (by simpa using hl)] at e;cases e
  have n1:=ne e1 y1;have n2:=ne e2 z2;rw [Q5 (Ne.symm n1)] at e1 e3;rw [Q5 (Ne.symm n2)] at e2 e4;exact w.dis j k y z l e1 y1 e2 z2 e3 e4
theorem Wd.setY(w:Wd K H0 O0 H O σ δ){i:Nat}{p:WA}{ho:HO}{y0:Sl}(hy:y0.own)(hp:H p=none)(h:∀O',aX H (ao H p ho) O O'->O' p->¬O0 p->oB K (ao H p ho) O0 O' (some (.ref p)) (some y0)):
 Wd K H0 O0 (ao H p ho) (λl=>O l\/l=p) (σ.set i (some (.ref p))) (δ.set i (some y0)):=by
 have sm:aq H (ao H p ho):=aq.new hp;have np:∀l,O l->l≠p:=λl hl z=>w.trk l hl (by rw [z];exact hp);have p0:H0 p=none:=by
  cases e:H0 p with
  | none=>rfl
  | some o=>rw [w.same _ _ e] at hp;cases hp
 have S:aX H (ao H p ho) O (λl=>O l\/l=p):=⟨λb o e _=>sm b o e,λb hb hn z=>z.elim hn λq=>hb (by rw [q];exact hp)⟩;have n0:¬O0 p:=λz=>np p (w.sub p z) rfl;refine⟨w.same.trans sm,λl z=>.inl (w.sub l z),λl z=>z.elim (w.new l) λq=>.inr (by rw [q];exact p0),λl z=>?_,by simp [w.len],λj y e=>?_,λj k y z l e1 y1 e2 z2 e3 e4=>?_⟩
 ·by_cases q:l=p
  ·rw [q,bx];exact λz=>nomatch z
  ·rw [ay q];exact w.trk l (z.resolve_right q)
 ·by_cases hj:j=i
  ·subst hj;have hl:j < δ.length:=by
    have:=(Qu.mp e).1;simpa using this
   rw [Ri hl] at e;cases e;rw [Ri (by rw [w.len];exact hl)];exact h _ S (.inr rfl) n0
  ·rw [Q5 (Ne.symm hj)] at e⊢;exact(w.sl j y e).go S (λl o _ _ a _ c=>⟨.inl a,sm _ _ c⟩) (λa o u a1 _ a3=>⟨.inl a1,sm _ _ a3⟩) λa o _ a3=>sm _ _ a3
 ·by_cases hj:j=i
  ·by_cases hk:k=i
   ·rw [hj,hk]
   ·exfalso;rw [hj] at e1 e3;have hl:i < σ.length:=by
     have:=(Qu.mp e3).1;simpa using this
    rw [Ri hl] at e3;cases e3;rw [Q5 (Ne.symm hk)] at e2 e4;obtain⟨l',x1,x2,_⟩:=w.adr e2 z2;rw [e4] at x1;cases x1;exact np _ x2 rfl
  ·by_cases hk:k=i
   ·exfalso;rw [hk] at e2 e4;have hl:i < σ.length:=by
     have:=(Qu.mp e4).1;simpa using this
    rw [Ri hl] at e4;cases e4;rw [Q5 (Ne.symm hj)] at e1 e3;obtain⟨l',x1,x2,_⟩:=w.adr e1 y1;rw [e3] at x1;cases x1;exact np _ x2 rfl
   ·rw [Q5 (Ne.symm hj)] at e1 e3;rw [Q5 (Ne.symm hk)] at e2 e4;exact w.dis j k _ _ l e1 y1 e2 z2 e3 e4
theorem Wd.setO(w:Wd K H0 O0 H O σ δ){i:Nat}{p:WA}{vs:List V}{ds:List Ww}(hp:H p=none)(h:au K H O vs ds):
 Wd K H0 O0 (ao H p (.lst vs)) (λl=>O l\/l=p) (σ.set i (some (.ref p))) (δ.set i (some (.o ds))):=
 w.setY trivial hp λO' S a b=>⟨p,vs,rfl,a,b,bx,h.step S⟩
theorem Wd.putY(w:Wd K H0 O0 H O σ δ){i:Nat}{l:WA}{ho:HO}{y0 y1:Sl}(h0:y0.own)(h1:y1.own)(e:δ[i]?=some (some y0))(hl:σ[i]?=some (some (.ref l)))(h:aX H (ao H l ho) O O->O l->¬O0 l->oB K (ao H l ho) O0 O (some (.ref l)) (some y1)):
 Wd K H0 O0 (ao H l ho) O σ (δ.set i (some y1)):=by
 obtain⟨l',x1,x2,x3⟩:=w.adr e h0;rw [hl] at x1;cases x1;have l0:H0 l=none:=(w.new l x2).resolve_left x3;have S:aX H (ao H l ho) O O:=⟨λb o q n=>by rw [ay (λz=>n (by rw [z];exact x2))];exact q,λ_ _ n=>n⟩;have li:i < δ.length:=(Qu.mp e).1;refine⟨λb o q=>by rw [ay (λz=>by rw [z,l0] at q;cases q)];exact w.same b o q,w.sub,w.new,λb z=>?_,by simp [w.len],λj y q=>?_,λj k y z b e1 y1' e2 z2 e3 e4=>?_⟩
 ·by_cases q:b=l
  ·rw [q,bx];exact λz=>nomatch z
  ·rw [ay q];exact w.trk b z
 ·by_cases hj:j=i
  ·subst hj;rw [Ri li] at q;cases q;rw [hl];exact h S x2 x3
  ·rw [Q5 (Ne.symm hj)] at q;refine(w.sl j y q).go S (λb o ho' e' a1 a2 a3=>⟨a1,?_⟩) (λb o u a1 a2 a3=>⟨a1,by rw [ay (λz=>w.nofrz e h0 hl o u (by rw [<-z];exact a3))];exact a3⟩) λb o a1 a3=>by rw [ay (λz=>x3 (by rw [<-z];exact a1))];exact a3
   have nb:b≠l:=λz=>by
    subst z
    match y,ho',q with
    | some z,ho',q=>exact hj (w.dis j i z y0 b q (by cases z <;> first | trivial | cases ho') e h0 (qi e') hl)
   rw [ay nb];exact a3
 ·have nO:∀{j:Nat}{y:Sl},(δ.set i (some y1))[j]?=some (some y)->y.own->∃y',δ[j]?=some (some y')/\y'.own:=λ{j y} q hq=>by
   by_cases hj:j=i
   ·subst hj;exact⟨_,e,h0⟩
   ·rw [Q5 (Ne.symm hj)] at q;exact⟨_,q,hq⟩
  obtain⟨_,q1,r1⟩:=nO e1 y1';obtain⟨_,q2,r2⟩:=nO e2 z2;exact w.dis j k _ _ b q1 r1 q2 r2 e3 e4
theorem Wd.putO(w:Wd K H0 O0 H O σ δ){i:Nat}{l:WA}{vs us:List V}{ds es:List Ww}(e:δ[i]?=some (some (.o ds)))(hl:σ[i]?=some (some (.ref l)))(h:au K H O us es):
 Wd K H0 O0 (ao H l (.lst us)) O σ (δ.set i (some (.o es))):=
 w.putY (y0:= .o ds) (y1:= .o es) trivial trivial e hl λS a b=>⟨l,us,rfl,a,b,bx,h.step S⟩
end
abbrev DT:=Dl->(Ww->Prop)->Prop
abbrev DA:=Dl->(List Ww->Prop)->Prop
abbrev DB:=Dl->(Bool->Prop)->Prop
structure pz where
 nx:Dl->Prop
 rt:Ww->Prop
 bk:Dl->Prop:=λ_=>False
 ct:Dl->Prop:=λ_=>False
abbrev DS:=pz->Dl->Prop
section
variable (K:Pt) (H0:Hp) (O0:Ex)
inductive up (t:DT) (σ:St) (H:Hp) (R:VK):Prop
 | mk (O:Ex) (δ:Dl) (Qd:Ww->Prop):Wd K H0 O0 H O σ δ->t δ Qd->(∀d v H',Qd d->aq H H'->Dt K H' O v d->R v H')->up t σ H R
inductive qj (t:DT) (σ:St) (H:Hp) (R:VK):Prop
 | mk (O:Ex) (δ:Dl) (Qd:Ww->Prop):Wd K H0 O0 H O σ δ->t δ Qd->(∀d v H',Qd d->aq H H'->Sh K H' O v d->R v H')->qj t σ H R
inductive mE (t:DA) (σ:St) (H:Hp) (R:List V->Hp->Prop):Prop
 | mk (O:Ex) (δ:Dl) (Qd:List Ww->Prop):Wd K H0 O0 H O σ δ->t δ Qd->(∀ds vs H',Qd ds->aq H H'->au K H' O vs ds->R vs H')->mE t σ H R
inductive j6 (t:DB) (σ:St) (H:Hp) (R:Bool->Hp->Prop):Prop
 | mk (O:Ex) (δ:Dl) (Qd:Bool->Prop):Wd K H0 O0 H O σ δ->t δ Qd->(∀b H',Qd b->aq H H'->R b H')->j6 t σ H R
inductive cF (t:DS) (D:nJ) (σ:St) (H:Hp):Prop
 | mk (O:Ex) (δ:Dl) (E:pz):Wd K H0 O0 H O σ δ->t E δ->(∀O' δ' σ' H',E.nx δ'->Wd K H0 O0 H' O' σ' δ'->aX H H' O O'->D.nx σ' H')->(∀d v H',E.rt d->aq H0 H'->Dt K H' O0 v d->D.rt v H')->
 (∀O' δ' σ' H',E.bk δ'->Wd K H0 O0 H' O' σ' δ'->aX H H' O O'->D.bk σ' H')->(∀O' δ' σ' H',E.ct δ'->Wd K H0 O0 H' O' σ' δ'->aX H H' O O'->D.ct σ' H')->cF t D σ H
end
theorem PE.imp{X:Cx}{e:WI}{t u:TE}(h:PE X e t)(i:∀σ H Q,u σ H Q->t σ H Q):PE X e u:=λYs s σ H Q I z=>h Ys s σ H Q I (i σ H Q z)
theorem PT.imp{X:Cx}{e:WI}{t u:TT}(h:PT X e t)(i:∀σ H Q,u σ H Q->t σ H Q):PT X e u:=λYs s σ H Q I z=>h Ys s σ H Q I (i σ H Q z)
theorem PW.imp{X:Cx}{e:WI}{t u:TT}(h:PW X e t)(i:∀σ H Q,u σ H Q->t σ H Q):PW X e u:=λwh Ys s σ H Q I z=>h wh Ys s σ H Q I (i σ H Q z)
theorem PA.imp{X:Cx}{e:List WI}{t u:TA}(h:PA X e t)(i:∀σ H Q,u σ H Q->t σ H Q):PA X e u:=λpos Ys s σ H Q I z=>h pos Ys s σ H Q I (i σ H Q z)
theorem PS.imp{X:Cx}{e:WQ}{t u:TS}(h:PS X e t)(i:∀D σ H,u D σ H->t D σ H):PS X e u:=λYs s σ H D I z=>h Ys s σ H D I (i D σ H z)
theorem bG.imp{X:Cx}{e:List WQ}{t u:TS}(h:bG X e t)(i:∀D σ H,u D σ H->t D σ H):bG X e u:=λYs s σ H D I z=>h Ys s σ H D I (i D σ H z)
section
variable {X:Cx} {H0:Hp} {O0:Ex}
abbrev DE(X:Cx)(H0:Hp)(O0:Ex)(e:WI)(t:DT):Prop:=PE X e (up X.K H0 O0 t)
abbrev DF(X:Cx)(H0:Hp)(O0:Ex)(e:WI)(t:DT):Prop:=PE X e (qj X.K H0 O0 t)
theorem df{e:WI}{t:DT}(h:DE X H0 O0 e t):DF X H0 O0 e t:=h.imp λσ H Q uu69=>by obtain⟨O,δ,Qd,w,q,k⟩:=uu69;exact⟨O,δ,Qd,w,q,λd v H' a b c=>k d v H' a b (.dt c)⟩
def C7(Q:Ww->Prop):Option (Option Sl)->Prop
 | some (some (.v d))=>Q d
 | _=>False
def kL(i:Nat):DT:=λδ Q=>C7 Q δ[i]?
theorem Jg{Q:Ww->Prop}{o:Option (Option Sl)}:C7 Q o↔∃d,o=some (some (.v d))/\Q d:=by
 constructor
 ·intro h
  match o,h with
  | some (some (.v d)),h=>exact⟨d,rfl,h⟩
 ·rintro⟨d,rfl,h⟩;exact h
theorem Jh{i:Nat}{δ:Dl}{Q:Ww->Prop}(h:kL i δ Q):∃d,δ[i]?=some (some (.v d))/\Q d:=Jg.mp h
def dh(i:Nat):DT:=λδ Q=>∃ds,δ[i]?=some (some (.o ds))/\Q (.list ds)
def dC(d:Ww):DT:=λ_ Q=>Q d
theorem dv(i:Nat){x:Str}{pos:Pos}(hN:X.N[i]?=some x:=by rfl)(hv:so X.env.scope x:=by first | exact Ut rfl | exact TJ (Ut rfl) | exact TJ (TJ rfl))
 (hd:(x==("__debug__":Str))=false:=by decide)(hcd:(x==("__classdict__":Str))=false:=by decide):DE X H0 O0 (.Name x pos) (kL i):=
 (pW hN hv hd hcd).imp λσ H Q uu70=>by
  obtain⟨O,δ,Qd,w,dq,k⟩:=uu70;obtain⟨d,e,q⟩:=Jh dq;obtain⟨v,h,r⟩:=w.val e;exact⟨v,h,k d v H q (aq.refl _) r⟩
theorem dw(i:Nat){x:Str}{pos:Pos}(hN:X.N[i]?=some x:=by rfl)(hv:so X.env.scope x:=by first | exact Ut rfl | exact TJ (Ut rfl) | exact TJ (TJ rfl))
 (hd:(x==("__debug__":Str))=false:=by decide)(hcd:(x==("__classdict__":Str))=false:=by decide):DF X H0 O0 (.Name x pos) (dh i):=
 (pW hN hv hd hcd).imp λσ H Q uu71=>by
  obtain⟨O,δ,Qd,w,⟨ds,e,q⟩,k⟩:=uu71;obtain⟨l,vs,h,_,_,r,rs⟩:=w.own e;exact⟨_,h,k _ _ H q (aq.refl _) (.own r rs)⟩
theorem dc{e:WI}{v:V}{d:Ww}(h:PE X e (tC v))(r:∀H O,Dt X.K H O v d):DE X H0 O0 e (dC d):=h.imp λσ H Q uu72=>by obtain⟨O,δ,Qd,w,q,k⟩:=uu72;exact k d v H q (aq.refl _) (r H O)
theorem ae{i j pos}:DE X H0 O0 (.Constant (.int i) j pos) (dC (.int i)):=dc cZ λ_ _=>.int i
theorem k8{b j pos}:DE X H0 O0 (.Constant (.bool b) j pos) (dC (.bool b)):=dc wq λ_ _=>.bl b
theorem ki{j pos}:DE X H0 O0 (.Constant .none j pos) (dC .none):=dc pX λ_ _=>.non
theorem aw{x j pos}:DE X H0 O0 (.Constant (.str x) j pos) (dC (.str x)):=dc wt λ_ _=>.str x
def cG:DA:=λ_ Q=>Q []
def cy(t:DT)(u:DA):DA:=λδ Q=>t δ λd=>u δ λds=>Q (d::ds)
theorem ah:PA X [] (mE X.K H0 O0 cG):=bM.imp λσ H Q uu73=>by obtain⟨O,δ,Qd,w,q,k⟩:=uu73;exact k [] [] H q (aq.refl _) .nil
theorem aa{e:WI}{es:List WI}{t:DT}{u:DA}(h:DE X H0 O0 e t)(hs:PA X es (mE X.K H0 O0 u))(he:WH (e::es) X.env=(false,eval e X.env)::WH es X.env:=by rfl):PA X (e::es) (mE X.K H0 O0 (cy t u)):=
 (aQ h hs he).imp λσ H Q uu74=>by obtain⟨O,δ,Qd,w,q,k⟩:=uu74;exact⟨O,δ,_,w,q,λd v H1 q1 s1 r1=>⟨O,δ,_,w.mono s1,q1,λds vs H2 q2 s2 r2=>k (d::ds) (v::vs) H2 q2 (s1.trans s2) (.cons (r1.mono s2) r2)⟩⟩
def di(t:DA):DT:=λδ Q=>t δ λds=>ds.length<=WG/\Q (.tuple ds)
def fO(t:DA):DT:=λδ Q=>t δ λds=>ds.length<=WG/\Q (.list ds)
theorem sX{H:Hp}{O:Ex}{σ:St}{δ:Dl}{H1:Hp}{p:WA}{K:Pt}(w:Wd K H0 O0 H O σ δ)(s:aq H H1)(hp:H1 p=none):¬O p:=λz=>(w.mono s).trk p z hp
theorem bE{es:List WI}{t:DA}{x1}{pos:Pos}(h:PA X es (mE X.K H0 O0 t)):DE X H0 O0 (.Tuple es x1 pos) (di t):=
 (uC h).imp λσ H Q uu75=>by obtain⟨O,δ,Qd,w,q,k⟩:=uu75;exact⟨O,δ,_,w,q,λds vs H1 q1 s1 r1=>⟨by rw [r1.length];exact q1.1,λp hp=>k _ _ _ q1.2 (s1.trans (aq.new hp)) (.tup (.inl bx) (sX w s1 hp) (r1.mono (aq.new hp)))⟩⟩
end
theorem aX.refl(H:Hp)(O:Ex):aX H H O O:=⟨λ_ _ e _=>e,λ_ _ n=>n⟩
theorem aX.trans{H H1 H2:Hp}{O O1 O2:Ex}(a:aX H H1 O O1)(b:aX H1 H2 O1 O2):aX H H2 O O2:=by
 refine⟨λc o e n=>?_,λc e n=>?_⟩
 ·have h1:=a.keep c o e n;exact b.keep c o h1 (a.out c (by rw [e];exact λz=>nomatch z) n)
 ·cases q:H c with
  | none=>exact absurd q e
  | some o=>exact b.out c (by rw [a.keep c o q n];exact λz=>nomatch z) (a.out c e n)
section
variable {X:Cx} {H0:Hp} {O0:Ex}
def j7(K:Pt)(r:R2)(rd:Ww->Ww->(Ww->Prop)->Prop):Prop:=
 ∀(H:Hp)(O:Ex)(x y:V)(dx dy:Ww)(Qd:Ww->Prop)(R:VK),(∀l,O l->H l≠none)->Sh K H O x dx->Sh K H O y dy->rd dx dy Qd->(∀d v H',Qd d->aq H H'->Dt K H' O v d->R v H')->r x y H R
def bB(rd:Ww->Ww->(Ww->Prop)->Prop)(ta tb:DT):DT:=λδ Q=>ta δ λx=>tb δ λy=>rd x y Q
theorem uK{K:Pt}{r:R2}{rd:Ww->Ww->(Ww->Prop)->Prop}{ta tb:DT}(hd:j7 K r rd):∀σ H Q,up K H0 O0 (bB rd ta tb) σ H Q->p4 r (qj K H0 O0 ta) (qj K H0 O0 tb) σ H Q:=
 λσ H Q uu76=>by obtain⟨O,δ,Qd,w,q,k⟩:=uu76;exact⟨O,δ,_,w,q,λx v H1 q1 s1 r1=>⟨O,δ,_,w.mono s1,q1,λy u H2 q2 s2 r2=>hd H2 O v u x y Qd _ (w.mono (s1.trans s2)).trk (r1.mono s2) r2 q2 λd z H3 qd s3 r3=>k d z H3 qd (s1.trans (s2.trans s3)) r3⟩⟩
theorem Ji{a b:WI}{ta tb:DT}{op:Operator}{r:R2}{rd:Ww->Ww->(Ww->Prop)->Prop}{pos:Pos}(ho:bD X (Xc op) r)(hd:j7 X.K r rd)(ha:DF X H0 O0 a ta)(hb:DF X H0 O0 b tb):DE X H0 O0 (.BinOp a op b pos) (bB rd ta tb):=(cw ho ha hb).imp (uK hd)
theorem j9{a b:WI}{ta tb:DT}{op:CmpOp}{r:R2}{rd:Ww->Ww->(Ww->Prop)->Prop}{pos:Pos}(ho:bD X (WS op) r)(hd:j7 X.K r rd)(ha:DF X H0 O0 a ta)(hb:DF X H0 O0 b tb)(hm:Xb op b=false):DE X H0 O0 (.Compare a [op] [b] pos) (bB rd ta tb):=(p5 ho ha hb hm).imp (uK hd)
def bI(t:DT):DB:=λδ Q=>t δ λd=>∃b,d= .bool b/\Q b
theorem Jj{a b:WI}{ta tb:DT}{op:CmpOp}{r:R2}{rd:Ww->Ww->(Ww->Prop)->Prop}{pos:Pos}(ho:bD X (WS op) r)(hd:j7 X.K r rd)(ha:DF X H0 O0 a ta)(hb:DF X H0 O0 b tb)(hm:Xb op b=false):PT X (.Compare a [op] [b] pos) (j6 X.K H0 O0 (bI (bB rd ta tb))):=
 (p6 ho ha hb hm).imp λσ H Q uu77=>by obtain⟨O,δ,Qd,w,q,k⟩:=uu77;exact uK hd σ H _ ⟨O,δ,_,w,q,λd v H' uu78 s r=>by obtain⟨b,e,qb⟩:=uu78;subst e;cases r;exact⟨b,rfl,k b H' qb s⟩⟩
theorem cb{e:WI}{t:DT}(h:DE X H0 O0 e t)(he:∀whole,isTrue e X.env whole=(do let v<-whole;standAt e.pos;X4 [v] (truthy v)):=by intro _;rfl):PT X e (j6 X.K H0 O0 (bI t)):=
 (qM h he).imp λσ H Q uu79=>by obtain⟨O,δ,Qd,w,q,k⟩:=uu79;exact⟨O,δ,_,w,q,λd v H' uu80 s r=>by obtain⟨b,e,qb⟩:=uu80;subst e;cases r;exact⟨b,rfl,k b H' qb s⟩⟩
def dj(t u:DB):DB:=λδ Q=>t δ λc=>if c=true then u δ Q else Q false
def dm(t u:DB):DB:=λδ Q=>t δ λc=>if c=true then Q true else u δ Q
def dn(t:DB):DB:=λδ Q=>t δ λc=>Q (!c)
theorem lG{a:WI}{t:DB}{pos:Pos}(h:PT X a (j6 X.K H0 O0 t)):PW X (.BoolOp .And [a] pos) (j6 X.K H0 O0 t):=BY h
theorem kG{a:WI}{t:DB}{pos:Pos}(h:PT X a (j6 X.K H0 O0 t)):PW X (.BoolOp .Or [a] pos) (j6 X.K H0 O0 t):=BZ h
theorem kH{a b:WI}{rest:List WI}{t u:DB}{pos:Pos}(h:PT X a (j6 X.K H0 O0 t))(hb:PW X (.BoolOp .And (b::rest) pos) (j6 X.K H0 O0 u)):PW X (.BoolOp .And (a::b::rest) pos) (j6 X.K H0 O0 (dj t u)):=
 (B0 h hb).imp λσ H Q uu81=>by obtain⟨O,δ,Qd,w,q,k⟩:=uu81;exact⟨O,δ,_,w,q,λc H1 q1 s1=>by
  cases c with
  | true=>exact⟨O,δ,_,w.mono s1,q1,λb H2 q2 s2=>k b H2 q2 (s1.trans s2)⟩
  | false=>exact k false H1 q1 s1⟩
theorem ke{a b:WI}{rest:List WI}{t u:DB}{pos:Pos}(h:PT X a (j6 X.K H0 O0 t))(hb:PW X (.BoolOp .Or (b::rest) pos) (j6 X.K H0 O0 u)):PW X (.BoolOp .Or (a::b::rest) pos) (j6 X.K H0 O0 (dm t u)):=
 (wB h hb).imp λσ H Q uu82=>by obtain⟨O,δ,Qd,w,q,k⟩:=uu82;exact⟨O,δ,_,w,q,λc H1 q1 s1=>by
  cases c with
  | false=>exact⟨O,δ,_,w.mono s1,q1,λb H2 q2 s2=>k b H2 q2 (s1.trans s2)⟩
  | true=>exact k true H1 q1 s1⟩
theorem kj{a:WI}{t:DB}{pos:Pos}(h:PT X a (j6 X.K H0 O0 t)):PT X (.UnaryOp .Not a pos) (j6 X.K H0 O0 (dn t)):=
 (wC h).imp λσ H Q uu83=>by obtain⟨O,δ,Qd,w,q,k⟩:=uu83;exact⟨O,δ,_,w,q,λc H1 q1 s1=>k (!c) H1 q1 s1⟩
def dz(t u:DT):DT:=λδ Q=>t δ λd=>∃c,d= .bool c/\if c=true then u δ Q else Q (.bool false)
def fP(t u:DT):DT:=λδ Q=>t δ λd=>∃c,d= .bool c/\if c=true then Q (.bool true) else u δ Q
def dA(t:DT):DT:=λδ Q=>t δ λd=>∃c,d= .bool c/\Q (.bool (!c))
theorem lL{op}{a:WI}{t:DT}{pos:Pos}(h:DE X H0 O0 a t):DE X H0 O0 (.BoolOp op [a] pos) t:=sr h
theorem kJ{a b:WI}{rest:List WI}{t u:DT}{pos:Pos}(h:DE X H0 O0 a t)(hb:DE X H0 O0 (.BoolOp .And (b::rest) pos) u):DE X H0 O0 (.BoolOp .And (a::b::rest) pos) (dz t u):=
 (sA h hb).imp λσ H Q ⟨O,δ,Qd,w,q,k⟩=>⟨O,δ,_,w,q,λd v H1 uu85 s1 r=>by
  obtain⟨c,e,q1⟩:=uu85;subst e;cases r;refine⟨c,rfl,?_⟩;cases c with
  | true=>exact⟨O,δ,_,w.mono s1,q1,λd v H2 q2 s2 r2=>k d v H2 q2 (s1.trans s2) r2⟩
  | false=>exact k _ _ H1 q1 s1 (.bl false)⟩
theorem Jk{a:WI}{t:DT}{pos:Pos}(h:DE X H0 O0 a t):DE X H0 O0 (.UnaryOp .Not a pos) (dA t):=
 (B1 h).imp λσ H Q uu86=>by obtain⟨O,δ,Qd,w,q,k⟩:=uu86;exact⟨O,δ,_,w,q,λd v H1 uu87 s1 r=>by
  obtain⟨c,e,q1⟩:=uu87;subst e;cases r;exact⟨c,rfl,k _ _ H1 q1 s1 (.bl _)⟩⟩
def dB(c:DB)(t u:DT):DT:=λδ Q=>c δ λb=>if b=true then t δ Q else u δ Q
theorem uL{c a b:WI}{tc:DB}{t u:DT}{pos:Pos}(hc:PT X c (j6 X.K H0 O0 tc))(ha:DE X H0 O0 a t)(hb:DE X H0 O0 b u):DE X H0 O0 (.IfExp c a b pos) (dB tc t u):=
 (G8 hc ha hb).imp λσ H Q uu88=>by obtain⟨O,δ,Qd,w,q,k⟩:=uu88;exact⟨O,δ,_,w,q,λc H1 q1 s1=>by
  cases c with
  | true=>exact⟨O,δ,_,w.mono s1,q1,λd v H2 q2 s2 r2=>k d v H2 q2 (s1.trans s2) r2⟩
  | false=>exact⟨O,δ,_,w.mono s1,q1,λd v H2 q2 s2 r2=>k d v H2 q2 (s1.trans s2) r2⟩⟩
def cH(rd rd':Ww->Ww->(Ww->Prop)->Prop)(ta tb tc:DT):DT:=λδ Q=>ta δ λx=>tb δ λy=>rd x y λz=>∃k,z= .bool k/\if k=true then tc δ λu=>rd' y u Q else Q (.bool false)
theorem C8{K:Pt}{r r':R2}{rd rd':Ww->Ww->(Ww->Prop)->Prop}{ta tb tc:DT}(hd:j7 K r rd)(hd':j7 K r' rd'):∀σ H Q,up K H0 O0 (cH rd rd' ta tb tc) σ H Q->uz r r' (qj K H0 O0 ta) (qj K H0 O0 tb) (qj K H0 O0 tc) σ H Q:=
 λσ H Q ⟨O,δ,Qd,w,q,k⟩=>⟨O,δ,_,w,q,λx v H1 q1 s1 r1=>⟨O,δ,_,w.mono s1,q1,λy u H2 q2 s2 r2=>hd H2 O v u x y _ _ (w.mono (s1.trans s2)).trk (r1.mono s2) r2 q2 λd z H3 uu90 s3 r3=>by
  obtain⟨c,e,q3⟩:=uu90;subst e;cases r3;refine⟨c,rfl,?_⟩;cases c with
  | true=>exact⟨O,δ,_,w.mono (s1.trans (s2.trans s3)),q3,λu' p H4 q4 s4 r4=>hd' H4 O u p y u' Qd _ (w.mono (s1.trans (s2.trans (s3.trans s4)))).trk (r2.mono (s3.trans s4)) r4 q4 λd z H5 qd s5 r5=>k d z H5 qd (s1.trans (s2.trans (s3.trans (s4.trans s5)))) r5⟩
  | false=>exact k _ _ H3 q3 (s1.trans (s2.trans s3)) (.bl false)⟩⟩
theorem uM{a b c:WI}{ta tb tc:DT}{op op':CmpOp}{r r':R2}{rd rd':Ww->Ww->(Ww->Prop)->Prop}{pos:Pos}(ho:bD X (WS op) r)(ho':bD X (WS op') r')(hd:j7 X.K r rd)(hd':j7 X.K r' rd')(ha:DF X H0 O0 a ta)(hb:DF X H0 O0 b tb)(hc:DF X H0 O0 c tc)
 (hm:lastMarks [op,op'] [b,c]=false:=by with_unfolding_all rfl):DE X H0 O0 (.Compare a [op,op'] [b,c] pos) (cH rd rd' ta tb tc):=(Hr ho ho' ha hb hc hm).imp (C8 hd hd')
theorem pA{a b c:WI}{ta tb tc:DT}{op op':CmpOp}{r r':R2}{rd rd':Ww->Ww->(Ww->Prop)->Prop}{pos:Pos}(ho:bD X (WS op) r)(ho':bD X (WS op') r')(hd:j7 X.K r rd)(hd':j7 X.K r' rd')(ha:DF X H0 O0 a ta)(hb:DF X H0 O0 b tb)(hc:DF X H0 O0 c tc)
 (hm:lastMarks [op,op'] [b,c]=false:=by with_unfolding_all rfl):PT X (.Compare a [op,op'] [b,c] pos) (j6 X.K H0 O0 (bI (cH rd rd' ta tb tc))):=
 (Hs ho ho' ha hb hc hm).imp λσ H Q uu91=>by obtain⟨O,δ,Qd,w,q,k⟩:=uu91;exact C8 hd hd' σ H _ ⟨O,δ,_,w,q,λd v H' uu92 s r=>by obtain⟨b,e,qb⟩:=uu92;subst e;cases r;exact⟨b,rfl,k b H' qb s⟩⟩
inductive bh (K:Pt) (F:List Ww->(Ww->Prop)->Prop) (vs:List V) (H:Hp) (Q:VK) (E:XK):Prop
 | mk (O:Ex) (ds:List Ww) (Qd:Ww->Prop):(∀l,O l->H l≠none)->au K H O vs ds->F ds Qd->(∀d v H',Qd d->aq H H'->Dt K H' O v d->Q v H')->bh K F vs H Q E
def cz(F:List Ww->(Ww->Prop)->Prop)(t:DA):DT:=λδ Q=>t δ λds=>F ds Q
theorem C9{K:Pt}{F:List Ww->(Ww->Prop)->Prop}{t:DA}{E:XK}:∀σ H Q,up K H0 O0 (cz F t) σ H Q->sQ (bh K F) [] E (mE K H0 O0 t) σ H Q:=
 λσ H Q uu93=>by obtain⟨O,δ,Qd,w,q,k⟩:=uu93;exact⟨O,δ,_,w,q,λds vs H1 q1 s1 r1=>⟨O,ds,Qd,(w.mono s1).trk,by rw [PY];exact r1,q1,λd v H2 q2 s2 r2=>k d v H2 q2 (s1.trans s2) r2⟩⟩
inductive sY (K:Pt) (H:Hp) (O:Ex):List V->List Ww->Prop
 | nil:sY K H O [] []
 | cons {v:V} {d:Ww} {vs:List V} {ds:List Ww}:Sh K H O v d->sY K H O vs ds->sY K H O (v::vs) (d::ds)
inductive mF (K:Pt) (H0:Hp) (O0:Ex) (t:DA) (σ:St) (H:Hp) (R:List V->Hp->Prop):Prop
 | mk (O:Ex) (δ:Dl) (Qd:List Ww->Prop):Wd K H0 O0 H O σ δ->t δ Qd->(∀ds vs H',Qd ds->aq H H'->sY K H' O vs ds->R vs H')->mF K H0 O0 t σ H R
theorem aB:PA X [] (mF X.K H0 O0 cG):=bM.imp λσ H Q uu94=>by obtain⟨O,δ,Qd,w,q,k⟩:=uu94;exact k [] [] H q (aq.refl _) .nil
theorem qV{e:WI}{es:List WI}{t:DT}{u:DA}(h:DF X H0 O0 e t)(hs:PA X es (mF X.K H0 O0 u))(he:WH (e::es) X.env=(false,eval e X.env)::WH es X.env:=by rfl):PA X (e::es) (mF X.K H0 O0 (cy t u)):=
 (aQ h hs he).imp λσ H Q uu95=>by obtain⟨O,δ,Qd,w,q,k⟩:=uu95;exact⟨O,δ,_,w,q,λd v H1 q1 s1 r1=>⟨O,δ,_,w.mono s1,q1,λds vs H2 q2 s2 r2=>k (d::ds) (v::vs) H2 q2 (s1.trans s2) (.cons (r1.mono s2) r2)⟩⟩
def fQ(F:List Ww->(Ww->Prop)->Prop)(t:DA):DT:=λδ Q=>t δ λds=>F ds λd=>cx d=true/\Q d
def nr(K:Pt)(r:List V->Hp->VK->Prop)(rd:List Ww->(Ww->Prop)->Prop):Prop:=
 ∀(H:Hp)(O:Ex)(xs:List V)(ds:List Ww)(Qd:Ww->Prop)(R:VK),(∀l,O l->H l≠none)->sY K H O xs ds->rd ds Qd->(∀d v H',Qd d->aq H H'->Dt K H' O v d->R v H')->r xs H R
theorem aE{K:Pt}{r:List V->Hp->VK->Prop}{rd:List Ww->(Ww->Prop)->Prop}{t:DA}(hd:nr K r rd):∀σ H Q,up K H0 O0 (cz rd t) σ H Q->sR r (mF K H0 O0 t) σ H Q:=
 λσ H Q uu96=>by obtain⟨O,δ,Qd,w,q,k⟩:=uu96;exact⟨O,δ,_,w,q,λds vs H1 q1 s1 r1=>hd H1 O vs ds Qd _ (w.mono s1).trk r1 q1 λd v H2 q2 s2 r2=>k d v H2 q2 (s1.trans s2) r2⟩
def cf(t u:DS):DS:=λE δ=>t {E with nx:=u E} δ
theorem ai{st:WQ}{rest:List WQ}{t u:DS}(h:PS X st (cF X.K H0 O0 t))(h2:bG X rest (cF X.K H0 O0 u)):bG X (st::rest) (cF X.K H0 O0 (cf t u)):=
 (kR h h2).imp λD σ H uu0=>by obtain⟨O,δ,E,w,q,k1,k2,k3,k4⟩:=uu0;exact⟨O,δ,_,w,q,λO' δ' σ' H' z w' S=>⟨O',δ',E,w',z,λO2 δ2 σ2 H2 z2 w2 S2=>k1 O2 δ2 σ2 H2 z2 w2 (S.trans S2),k2,λO2 δ2 σ2 H2 z2 w2 S2=>k3 O2 δ2 σ2 H2 z2 w2 (S.trans S2),λO2 δ2 σ2 H2 z2 w2 S2=>k4 O2 δ2 σ2 H2 z2 w2 (S.trans S2)⟩,k2,k3,k4⟩
def cN:DS:=λE δ=>E.nx δ
theorem aG:bG X [] (cF X.K H0 O0 cN):=oY.imp λD σ H uu1=>by obtain⟨O,δ,E,w,q,k1,k2,k3,k4⟩:=uu1;exact k1 O δ σ H q w (aX.refl _ _)
theorem ak{st:WQ}{t:DS}(h:PS X st (cF X.K H0 O0 t)):bG X [st] (cF X.K H0 O0 t):=kA h
def cO(i:Nat)(t:DT):DS:=λE δ=>t δ λd=>E.nx (δ.set i (some (.v d)))
theorem aY{i:Nat}{x:Str}{e:WI}{t:DT}{pos pos':Pos}(hN:X.N.Nodup)(hi:X.N[i]?=some x)(hx:nI X.env.scope x)(he:DE X H0 O0 e t)(hs:W7 e (some (.Name x pos')) pos.line X.env=pure false:=by rfl)(hf:X.fn x=true\/X.env.scope.names.lookup x=some .local:=by first | exact .inl rfl | exact .inr rfl | assumption):
 PS X (.Assign [.Name x pos'] e pos) (cF X.K H0 O0 (cO i t)):=
 (mz hN hi hx he hs hf).imp λD σ H uu2=>by obtain⟨O,δ,E,w,q,k1,k2,k3,k4⟩:=uu2;exact⟨O,δ,_,w,q,λd v H1 q1 s1 r1=>k1 O _ _ H1 q1 ((w.mono s1).set r1) (.same s1)⟩
def dD(t:DT):DS:=λE δ=>t δ E.rt
theorem nO{K:Pt}{H:Hp}{O:Ex}{σ:St}{δ:Dl}(w:Wd K H0 O0 H O σ δ):aX H H O O0:=⟨λ_ _ e _=>e,λb _ n z=>n (w.sub b z)⟩
theorem ax{e:WI}{t:DT}{pos:Pos}(he:DE X H0 O0 e t):PS X (.Return (some e) pos) (cF X.K H0 O0 (dD t)):=
 (kS he).imp λD σ H uu3=>by obtain⟨O,δ,E,w,q,k1,k2,k3,k4⟩:=uu3;exact⟨O,δ,_,w,q,λd v H1 q1 s1 r1=>k2 d v H1 q1 (w.same.trans s1) (r1.step (nO (w.mono s1)))⟩
def fR(i:Nat):DS:=λE δ=>∃ds,δ[i]?=some (some (.o ds))/\E.rt (.list ds)
def cg(c:DB)(t u:DS):DS:=λE δ=>c δ λb=>if b=true then t E δ else u E δ
theorem aH{c:WI}{a b:List WQ}{tc:DB}{t u:DS}{pos:Pos}(hc:PT X c (j6 X.K H0 O0 tc))(ha:bG X a (cF X.K H0 O0 t))(hb:bG X b (cF X.K H0 O0 u)):PS X (.If c a b pos) (cF X.K H0 O0 (cg tc t u)):=
 (oZ hc ha hb).imp λD σ H uu4=>by obtain⟨O,δ,E,w,q,k1,k2,k3,k4⟩:=uu4;exact⟨O,δ,_,w,q,λc H1 q1 s1=>by
  have g:∀{t':DS},t' E δ->cF X.K H0 O0 t' D σ H1:=λz=>⟨O,δ,E,w.mono s1,z,λO2 δ2 σ2 H2 z2 w2 S2=>k1 O2 δ2 σ2 H2 z2 w2 (aX.trans (.same s1) S2),k2,λO2 δ2 σ2 H2 z2 w2 S2=>k3 O2 δ2 σ2 H2 z2 w2 (aX.trans (.same s1) S2),λO2 δ2 σ2 H2 z2 w2 S2=>k4 O2 δ2 σ2 H2 z2 w2 (aX.trans (.same s1) S2)⟩;cases c with
  | true=>exact g q1
  | false=>exact g q1⟩
def fS(t:DT):DS:=λE δ=>t δ λ_=>E.nx δ
inductive uN (K:Pt) (H0:Hp) (O0:Ex) (t:DA) (σ:St) (H:Hp) (R:VK):Prop
 | mk (O:Ex) (δ:Dl) (Qd:List Ww->Prop):Wd K H0 O0 H O σ δ->t δ Qd->(∀ds vs p H',Qd ds->aq H H'->H' p=none->au K H' O vs ds->R (.ref p) (ao H' p (.lst vs)))->uN K H0 O0 t σ H R
abbrev FE(X:Cx)(H0:Hp)(O0:Ex)(e:WI)(t:DA):Prop:=PE X e (uN X.K H0 O0 t)
def dL(t:DA):DT:=λδ Q=>t δ λds=>Q (.list ds)
theorem fe{e:WI}{t:DA}(h:FE X H0 O0 e t):DE X H0 O0 e (dL t):=
 h.imp λσ H Q uu5=>by obtain⟨O,δ,Qd,w,q,k⟩:=uu5;exact⟨O,δ,_,w,q,λds vs p H1 q1 s1 hp r1=>k _ _ _ q1 (s1.trans (aq.new hp)) (.lst (.inl bx) (sX w s1 hp) (r1.mono (aq.new hp)))⟩
def cP(t:DA):DA:=λδ Q=>t δ λds=>ds.length<=WG/\Q ds
theorem bz{es:List WI}{t:DA}{pos:Pos}(h:PA X es (mE X.K H0 O0 t)):FE X H0 O0 (.List es pos) (cP t):=
 (xR h).imp λσ H Q uu6=>by obtain⟨O,δ,Qd,w,q,k⟩:=uu6;exact⟨O,δ,_,w,q,λds vs H1 q1 s1 r1=>⟨by rw [r1.length];exact q1.1,λp hp=>k _ _ _ _ q1.2 s1 hp r1⟩⟩
def dE(i:Nat)(t:DA):DS:=λE δ=>t δ λds=>E.nx (δ.set i (some (.o ds)))
theorem nP{i:Nat}{x:Str}{e:WI}{t:DA}{pos pos':Pos}(hN:X.N.Nodup)(hi:X.N[i]?=some x)(hx:nI X.env.scope x)(he:FE X H0 O0 e t)(hs:W7 e (some (.Name x pos')) pos.line X.env=pure false:=by rfl)(hf:X.fn x=true\/X.env.scope.names.lookup x=some .local:=by first | exact .inl rfl | exact .inr rfl | assumption):
 PS X (.Assign [.Name x pos'] e pos) (cF X.K H0 O0 (dE i t)):=
 (mz hN hi hx he hs hf).imp λD σ H ⟨O,δ,E,w,q,k1,k2,k3,k4⟩=>⟨O,δ,_,w,q,λds vs p H1 q1 s1 hp r1=>k1 _ _ _ _ q1 ((w.mono s1).setO hp r1)
  ⟨λb o e _=>(s1.trans (aq.new hp)) b o e,λb e n z=>z.elim n λy=>by
   cases q:H b with
   | none=>exact e q
   | some o=>have:=s1 _ _ q;rw [y,hp] at this;cases this⟩⟩
def dF(i:Nat)(t:DT):DS:=λE δ=>∃ds,δ[i]?=some (some (.o ds))/\t δ λd=>ds.length < WG/\E.nx (δ.set i (some (.o (ds++[d]))))
theorem sZ{i:Nat}{o e:WI}{t:DT}{apos cpos pos:Pos}(ho:PE X o (oh i))(he:DE X H0 O0 e t)(hbase:Xn o "append" X.env (eval o X.env)=eval o X.env:=by rfl)
 (hfew:((WZ cpos (WH [e] X.env)).all (λx=>!x.1) && (Yb cpos (XM [] X.env)).all (λx=>x.1.isSome) && decide ([e].length+([]:List XA).length+(if ([]:List XA).isEmpty then 0 else 1) < 30))=true:=by rfl)
 (hline:(apos.endLine==cpos.line)=true:=by rfl)(hst:WH [e] X.env=(false,eval e X.env)::WH [] X.env:=by rfl)(hplain:(WZ cpos (WH [] X.env)).any (·.1)=false:=by rfl)
 (hs:W7 (.Call (.Attribute o "append" apos) [e] [] cpos) none pos.line X.env=pure false:=by rfl):PS X (.Expr (.Call (.Attribute o "append" apos) [e] [] cpos) pos) (cF X.K H0 O0 (dF i t)):=
 (Ha (sU PySem.F.plainAttrs_list PySem.F.slot_list_append PySem.F.type_list_append CB ho (aQ he bM hst) hbase hfew hline hst hplain) hs).imp λD σ H uu8=>by
  obtain⟨O,δ,E,w,⟨ds,e,q⟩,k1,k2,k3,k4⟩:=uu8;obtain⟨l,vs,h,a,b,c,r⟩:=w.own e;refine⟨_,h,.inl ⟨rfl,_,bg.of c⟩,O,δ,_,w,q,λd v H1 q1 s1 r1=>?_⟩;refine⟨l,vs,v,rfl,rfl,s1 _ _ c,by rw [r.length];exact q1.1,?_⟩;exact k1 _ _ _ _ q1.2 ((w.mono s1).putO (vs:=vs) e h ((r.mono s1).append (.cons r1 .nil))) ⟨λb' o' z n=>by rw [ay (λy=>n (by rw [y];exact a))];exact s1 _ _ z,λ_ _ n=>n⟩
end
structure kM (J:It) (P:Hp->Prop) (vs:List V):Prop where
 go:∀i H',P H'->i < vs.length->J.go i H'
 yl:∀i H' x H'',P H'->i < vs.length->J.yld i H' x H''->H''=H'/\vs[i]?=some x
 st:∀i H',P H'->vs.length<=i->J.stop i H'
def uO(H1:Hp)(a:WA)(H':Hp):Prop:=∀o,H1 a=some o->H' a=some o
theorem bg.keep{K:Pt}{H H':Hp}{a:WA}{xs:List V}(s:uO H a H')(h:bg K H a xs):bg K H' a xs:=by
 rcases h with(h | ⟨o,h⟩) | h
 ·exact .inl (.inl (s _ h))
 ·exact .inl (.inr ⟨o,s _ h⟩)
 ·exact .inr h
theorem aZ.keep{K:Pt}{H H':Hp}{a:WA}{xs:List V}(s:uO H a H')(h:aZ K H a xs):aZ K H' a xs:=by
 rcases h with(h | ⟨o,h⟩) | h
 ·exact .inl (.inl (s _ h))
 ·exact .inl (.inr ⟨o,s _ h⟩)
 ·exact .inr h
theorem kM.list{K:Pt}{H:Hp}{a:WA}{vs:List V}(h:bg K H a vs):kM (sH K a) (uO H a) vs:=
 ⟨λi H' s hi=>⟨vs,vs[i],h.keep s,by simp [hi]⟩,λi H' x H'' s _ y=>⟨y.1,y.2 vs (h.keep s)⟩,λi H' s hi=>⟨vs,h.keep s,hi⟩⟩
theorem kM.tup{K:Pt}{H:Hp}{a:WA}{vs:List V}(h:aZ K H a vs):kM (sI K a) (uO H a) vs:=
 ⟨λi H' s hi=>⟨vs,vs[i],h.keep s,by simp [hi]⟩,λi H' x H'' s _ y=>⟨y.1,y.2 vs (h.keep s)⟩,λi H' s hi=>⟨vs,h.keep s,hi⟩⟩
def lq(lo:Int)(n:Nat):List Ww:=(Rz n).map λ(k:Nat)=>.int (lo+k)
theorem kM.rng{lo:Int}{n:Nat}:kM (nK lo n) (λ_=>True) ((Rz n).map λ(k:Nat)=>V.int (lo+k)):=by
 refine⟨λi H' s hi=>(by simpa using hi:i < n),λi H' x H'' s hi y=>⟨y.1,?_⟩,λi H' s hi=>(by simpa using hi:n<=i)⟩;obtain⟨_,rfl⟩:=y;have hn:i < n:=by simpa using hi
 simp [hn]
theorem au.rng{K:Pt}{H:Hp}{O:Ex}{lo:Int}:∀(l:List Nat),au K H O (l.map λ(k:Nat)=>V.int (lo+k)) (l.map λ(k:Nat)=>PV (lo+k))
 | []=>.nil
 | n::r=>.cons (.int _) (au.rng r)
abbrev DG:=Ww->Dl->(Dl->Prop)->Prop
def GD(K:Pt)(g:TG)(dg:DG):Prop:=∀(H0:Hp)(O0:Ex)(H:Hp)(O:Ex)(σ:St)(δ:Dl)(v:V)(x:Ww)(R:St->Hp->Prop)(Qd:Dl->Prop),Wd K H0 O0 H O σ δ->Dt K H O v x->dg x δ Qd->(∀δ' σ',Qd δ'->Wd K H0 O0 H O σ' δ'->R σ' H)->g v σ H R
def cQ(i:Nat):DG:=λx δ Q=>Q (δ.set i (some (.v x)))
theorem cj{K:Pt}{i:Nat}:GD K (ni i) (cQ i):=λH0 O0 H O σ δ v x R Qd w r q k=>k _ _ q (w.set r)
abbrev oC:=List Ww->Dl->(Dl->Prop)->Prop
def tf(K:Pt)(g:mx)(dg:oC):Prop:=∀(H0:Hp)(O0:Ex)(H:Hp)(O:Ex)(σ:St)(δ:Dl)(vs:List V)(xs:List Ww)(R:St->Hp->Prop)(Qd:Dl->Prop),Wd K H0 O0 H O σ δ->au K H O vs xs->dg xs δ Qd->(∀δ' σ',Qd δ'->Wd K H0 O0 H O σ' δ'->R σ' H)->g vs σ H R
def dG:oC:=λxs δ Q=>xs=[]/\Q δ
def dH(t:DG)(u:oC):oC:=λxs δ Q=>∃x r,xs=x::r/\t x δ λδ'=>u r δ' Q
theorem tj{K:Pt}:tf K sE dG:=λH0 O0 H O σ δ vs xs R Qd w r uu9 k=>by obtain⟨e,q⟩:=uu9;subst e;cases r;exact⟨rfl,k _ _ q w⟩
theorem nu{K:Pt}{t:TG}{u:mx}{dt:DG}{du:oC}(h:GD K t dt)(h2:tf K u du):tf K (qN t u) (dH dt du):=λH0 O0 H O σ δ vs xs R Qd w r uu10 k=>by
 obtain⟨x,rr,e,q⟩:=uu10;subst e;cases r with
 | cons r1 r2=>exact⟨_,_,rfl,h H0 O0 H O σ δ _ _ _ _ w r1 q λδ' σ' q' w'=>h2 H0 O0 H O σ' δ' _ _ R Qd w' r2 q' k⟩
def dJ(n:Nat)(t:oC):DG:=λx δ Q=>∃xs,x= .tuple xs/\xs.length=n/\t xs δ Q
theorem uP{K:Pt}{n:Nat}{t:mx}{dt:oC}(h:tf K t dt):GD K (sF K n t) (dJ n dt):=λH0 O0 H O σ δ v x R Qd w r uu11 k=>by
 obtain⟨xs,e,hl,q⟩:=uu11;subst e;obtain⟨a,vs,rfl,hs,rr⟩:=(Sh.dt r).tup;exact⟨a,vs,rfl,hs,by rw [rr.length];exact hl,h H0 O0 H O σ δ _ _ R Qd w rr q k⟩
section
variable {X:Cx} {H0:Hp} {O0:Ex}
def dM(t:DT)(g:DG):DS:=λE δ=>t δ λd=>g d δ E.nx
theorem Dc{tg e:WI}{t:DT}{g:TG}{dg:DG}{pos:Pos}(he:DE X H0 O0 e t)(hg:PG X tg g)(gd:GD X.K g dg)(hs:Yl [tg] e pos.line X.env=pure false:=by rfl)(hw:Ym [tg] e X.env=pure none:=by rfl)
 (h1:(Xq [tg] X.env).map (·.2)=[assign tg X.env]:=by rfl):PS X (.Assign [tg] e pos) (cF X.K H0 O0 (dM t dg)):=
 (B3 he hg hs hw h1).imp λD σ H uu12=>by obtain⟨O,δ,E,w,q,k1,k2,k3,k4⟩:=uu12;exact⟨O,δ,_,w,q,λd v H1 q1 s1 r1=>gd H0 O0 H1 O σ δ v d _ _ (w.mono s1) r1 q1 λδ' σ' q' w'=>k1 O δ' σ' H1 q' w' (.same s1)⟩
def dN(i j:Nat)(t:DA):DS:=λE δ=>t δ λds=>∃x y,ds=[x,y]/\E.nx ((δ.set i (some (.v x))).set j (some (.v y)))
theorem Jl{i j:Nat}{x y:Str}{a b:WI}{ta:DA}{px py pt pos:Pos}{kt k2 pt2}(hc:X.calm=true)(hN:X.N.Nodup)(hi:X.N[i]?=some x)(hj:X.N[j]?=some y)(hij:i≠j)
 (hx:X.env.scope.names.lookup x=some .local)(hy:X.env.scope.names.lookup y=some .local)(ha:PA X [a,b] (mE X.K H0 O0 ta))
 (hw:Ym [.Tuple [.Name x px,.Name y py] kt pt] (.Tuple [a,b] k2 pt2) X.env=pure (some [x,y]))
 (hs:Yl [.Tuple [.Name x px,.Name y py] kt pt] (.Tuple [a,b] k2 pt2) pos.line X.env=pure false:=by rfl):
 PS X (.Assign [.Tuple [.Name x px,.Name y py] kt pt] (.Tuple [a,b] k2 pt2) pos) (cF X.K H0 O0 (dN i j ta)):=
 (Hc hc hN hi hj hij hx hy ha hw hs).imp λD σ H uu13=>by obtain⟨O,δ,E,w,q,k1,k2,k3,k4⟩:=uu13;exact⟨O,δ,_,w,q,λds vs H1 uu14 s1 r1=>by
  obtain⟨d1,d2,e,q1⟩:=uu14;subst e;cases r1 with
  | cons r1 r2=>
   cases r2 with
   | cons r2 r3=>
    cases r3;exact⟨_,_,rfl,k1 _ _ _ _ q1 (((w.mono s1).set r1).set r2) (.same s1)⟩⟩
def bJ(g:DG)(tb:DS)(E:pz):List Ww->Dl->Prop
 | [],δ=>E.nx δ
 | x::xs,δ=>g x δ λδ2=>tb {E with nx:=bJ g tb E xs,ct:=bJ g tb E xs,bk:=E.nx} δ2
theorem z9{K:Pt}{J:It}{P:Hp->Prop}{vs:List V}{xs:List Ww}{g:TG}{dg:DG}{tb:DS}{D:nJ}{E:pz}{σ:St}{H:Hp}{O:Ex}{δ:Dl}(S:kM J P vs)(gd:GD K g dg)
 (hP:∀H' O',aX H H' O O'->P H')(r:au K H O vs xs)(w:Wd K H0 O0 H O σ δ)(q:bJ dg tb E xs δ)
 (k1:∀O' δ' σ' H',E.nx δ'->Wd K H0 O0 H' O' σ' δ'->aX H H' O O'->D.nx σ' H')(k2:∀d v H',E.rt d->aq H0 H'->Dt K H' O0 v d->D.rt v H'):FR J g (cF K H0 O0 tb) D σ H:=by
 refine⟨λi m σ' H'=>∃O' δ',m=vs.length - i/\i<=vs.length/\Wd K H0 O0 H' O' σ' δ'/\aX H H' O O'/\bJ dg tb E (xs.drop i) δ',⟨vs.length,O,δ,Wv,Rv _,w,aX.refl _ _,by simpa using q⟩,?_⟩;rintro i m σ1 H1 ⟨O1,δ1,rfl,hi,w1,S1,q1⟩;by_cases hlt:i < vs.length
 ·refine .inr ⟨S.go i H1 (hP _ _ S1) hlt,λσ' H'=>∃O' δ',Wd K H0 O0 H' O' σ' δ'/\aX H H' O O'/\bJ dg tb E (xs.drop (i+1)) δ',λσ' H' uu15=>by obtain⟨O',δ',w',S',q'⟩:=uu15;exact⟨vs.length - (i+1),Ce,O',δ',rfl,hlt,w',S',q'⟩,λx H' y=>?_⟩;have yy:=S.yl i H1 x H' (hP _ _ S1) hlt y;clear y;obtain⟨e,y⟩:=yy;subst e;obtain⟨d,ed,rd⟩:=r.get y;have hd:xs.drop i=d::xs.drop (i+1):=by
   rw [SD (h:=(Qu.mp ed).1),(Qu.mp ed).2]
  rw [hd] at q1;refine gd H0 O0 _ O1 σ1 δ1 x d _ _ w1 (rd.step S1) q1 λδ2 σ2 q2 w2=>?_;refine⟨O1,δ2,_,w2,q2,λO' δ' σ' H' z w' S'=>⟨O',δ',w',S1.trans S',z⟩,k2,λO' δ' σ' H' z w' S'=>k1 O' δ' σ' H' z w' (S1.trans S'),λO' δ' σ' H' z w' S'=>⟨O',δ',w',S1.trans S',z⟩⟩
 ·have e:i=vs.length:=Ce
  subst e;refine .inl ⟨S.st _ H1 (hP _ _ S1) (PQ _),?_⟩;rw [r.length,RK (PQ _)] at q1;exact k1 O1 δ1 σ1 H1 q1 w1 S1
def pB(g:DG)(tb:DS)(E:pz)(xs:List Ww)(δ:Dl):Prop:=∃I:Nat->Dl->Prop,I 0 δ/\(∀i x δ,xs[i]?=some x->I i δ->g x δ λδ2=>tb {E with nx:=I (i+1),ct:=I (i+1),bk:=E.nx} δ2)/\∀δ,I xs.length δ->E.nx δ
theorem Dd{K:Pt}{J:It}{P:Hp->Prop}{vs:List V}{xs:List Ww}{g:TG}{dg:DG}{tb:DS}{D:nJ}{E:pz}{σ:St}{H:Hp}{O:Ex}{δ:Dl}(S:kM J P vs)(gd:GD K g dg)
 (hP:∀H' O',aX H H' O O'->P H')(r:au K H O vs xs)(w:Wd K H0 O0 H O σ δ)(q:pB dg tb E xs δ)
 (k1:∀O' δ' σ' H',E.nx δ'->Wd K H0 O0 H' O' σ' δ'->aX H H' O O'->D.nx σ' H')(k2:∀d v H',E.rt d->aq H0 H'->Dt K H' O0 v d->D.rt v H'):FR J g (cF K H0 O0 tb) D σ H:=by
 obtain⟨Iv,q0,qs,qe⟩:=q;refine⟨λi m σ' H'=>∃O' δ',m=vs.length - i/\i<=vs.length/\Wd K H0 O0 H' O' σ' δ'/\aX H H' O O'/\Iv i δ',⟨vs.length,O,δ,Wv,Rv _,w,aX.refl _ _,q0⟩,?_⟩;rintro i m σ1 H1 ⟨O1,δ1,rfl,hi,w1,S1,q1⟩;by_cases hlt:i < vs.length
 ·refine .inr ⟨S.go i H1 (hP _ _ S1) hlt,λσ' H'=>∃O' δ',Wd K H0 O0 H' O' σ' δ'/\aX H H' O O'/\Iv (i+1) δ',λσ' H' uu16=>by obtain⟨O',δ',w',S',q'⟩:=uu16;exact⟨vs.length - (i+1),Ce,O',δ',rfl,hlt,w',S',q'⟩,λx H' y=>?_⟩;have yy:=S.yl i H1 x H' (hP _ _ S1) hlt y;clear y;obtain⟨e,y⟩:=yy;subst e;obtain⟨d,ed,rd⟩:=r.get y;refine gd H0 O0 _ O1 σ1 δ1 x d _ _ w1 (rd.step S1) (qs i d δ1 ed q1) λδ2 σ2 q2 w2=>?_;refine⟨O1,δ2,_,w2,q2,λO' δ' σ' H' z w' S'=>⟨O',δ',w',S1.trans S',z⟩,k2,λO' δ' σ' H' z w' S'=>k1 O' δ' σ' H' z w' (S1.trans S'),λO' δ' σ' H' z w' S'=>⟨O',δ',w',S1.trans S',z⟩⟩
 ·have e:i=vs.length:=Ce
  subst e;refine .inl ⟨S.st _ H1 (hP _ _ S1) (PQ _),?_⟩;rw [r.length] at q1;exact k1 O1 δ1 σ1 H1 (qe δ1 q1) w1 S1
def dO(t:DT)(g:DG)(tb:DS):DS:=λE δ=>t δ λd=>∃xs,d= .list xs/\bJ g tb E xs δ
def dP(t:DT)(g:DG)(tb:DS):DS:=λE δ=>t δ λd=>∃xs,d= .tuple xs/\bJ g tb E xs δ
def fT(t:DA)(g:DG)(tb:DS):DS:=λE δ=>t δ λds=>∃j:Int,ds=[.int j]/\-(2 ^ 62)<=j/\j < 2 ^ 62/\bJ g tb E (lq 0 j.toNat) δ
def fU(t:DA)(g:DG)(tb:DS):DS:=λE δ=>t δ λds=>∃i j:Int,ds=[.int i,.int j]/\(-(2 ^ 62)<=i/\i < 2 ^ 62/\-(2 ^ 62)<=j/\j < 2 ^ 62)/\bJ g tb E (lq i (j - i).toNat) δ
section
variable {tg iter:WI} {body:List WQ} {t:DT} {ta:DA} {g:TG} {dg:DG} {tb:DS} {pos p ps:Pos}
theorem Jm(hp:XO (WE X.prog X.w) X.A X.env X.xe)(hc:X.calm=true)(hi:DE X H0 O0 iter t)(hg:PG X tg g)(gd:GD X.K g dg)(hb:bG X body (cF X.K H0 O0 tb))(hs:∀x,WT iter X.env x=pure x:=by intro _;rfl):
 PS X (.For tg iter body [] pos) (cF X.K H0 O0 (dO t dg tb)):=
 (sM hp hc (uq hi) hg hb hs).imp λD σ H uu17=>by obtain⟨O,δ,E,w,q,k1,k2,k3,k4⟩:=uu17;exact⟨O,δ,_,w,q,λd v H1 uu18 s1 r1=>by
  obtain⟨xs,e,q1⟩:=uu18;subst e;cases r1 with
  | lst h n r=>
   refine⟨_,rfl,⟨_,.inl h⟩,z9 (kM.list (.inl h)) gd (λH' O' S o e=>S.keep _ _ e n) r (w.mono s1) q1 (λO' δ' σ' H' z w' S=>k1 O' δ' σ' H' z w' (aX.trans (.same s1) S)) k2⟩⟩
theorem De(hp:XO (WE X.prog X.w) X.A X.env X.xe)(hc:X.calm=true)(hi:DE X H0 O0 iter t)(hg:PG X tg g)(gd:GD X.K g dg)(hb:bG X body (cF X.K H0 O0 tb))(hs:∀x,WT iter X.env x=pure x:=by intro _;rfl):
 PS X (.For tg iter body [] pos) (cF X.K H0 O0 (dP t dg tb)):=
 (sM hp hc (B6 hi) hg hb hs).imp λD σ H uu19=>by obtain⟨O,δ,E,w,q,k1,k2,k3,k4⟩:=uu19;exact⟨O,δ,_,w,q,λd v H1 uu20 s1 r1=>by
  obtain⟨xs,e,q1⟩:=uu20;subst e;cases r1 with
  | tup h n r=>
   refine⟨_,rfl,⟨_,.inl h⟩,z9 (kM.tup (.inl h)) gd (λH' O' S o e=>S.keep _ _ e n) r (w.mono s1) q1 (λO' δ' σ' H' z w' S=>k1 O' δ' σ' H' z w' (aX.trans (.same s1) S)) k2⟩
  | tupK h r=>
   refine⟨_,rfl,⟨_,h.of0⟩,z9 (P:=λ_=>True) ⟨λi H' _ hi=>⟨_,_,h.of0,by simp [hi];rfl⟩,λi H' x H'' _ _ y=>⟨y.1,y.2 _ h.of0⟩,λi H' _ hi=>⟨_,h.of0,hi⟩⟩ gd (λ_ _ _=>trivial) r (w.mono s1) q1 (λO' δ' σ' H' z w' S=>k1 O' δ' σ' H' z w' (aX.trans (.same s1) S)) k2⟩⟩
end
def dQ(t:DT)(g:DG)(tb:DS):DS:=λE δ=>t δ λd=>∃xs,d= .list xs/\pB g tb E xs δ
def fV(t:DT)(g:DG)(tb:DS):DS:=λE δ=>t δ λd=>∃xs,d= .tuple xs/\pB g tb E xs δ
def dR(t:DA)(g:DG)(tb:DS):DS:=λE δ=>t δ λds=>∃j:Int,ds=[.int j]/\-(2 ^ 62)<=j/\j < 2 ^ 62/\pB g tb E (lq 0 j.toNat) δ
def fW(t:DA)(g:DG)(tb:DS):DS:=λE δ=>t δ λds=>∃i j:Int,ds=[.int i,.int j]/\(-(2 ^ 62)<=i/\i < 2 ^ 62/\-(2 ^ 62)<=j/\j < 2 ^ 62)/\pB g tb E (lq i (j - i).toNat) δ
section
variable {tg iter:WI} {body:List WQ} {t:DT} {ta:DA} {g:TG} {dg:DG} {tb:DS} {pos p ps:Pos}
theorem Jn(hp:XO (WE X.prog X.w) X.A X.env X.xe)(hc:X.calm=true)(hi:DE X H0 O0 iter t)(hg:PG X tg g)(gd:GD X.K g dg)(hb:bG X body (cF X.K H0 O0 tb))(hs:∀x,WT iter X.env x=pure x:=by intro _;rfl):
 PS X (.For tg iter body [] pos) (cF X.K H0 O0 (dQ t dg tb)):=
 (sM hp hc (uq hi) hg hb hs).imp λD σ H uu21=>by obtain⟨O,δ,E,w,q,k1,k2,k3,k4⟩:=uu21;exact⟨O,δ,_,w,q,λd v H1 uu22 s1 r1=>by
  obtain⟨xs,e,q1⟩:=uu22;subst e;cases r1 with
  | lst h n r=>
   refine⟨_,rfl,⟨_,.inl h⟩,Dd (kM.list (.inl h)) gd (λH' O' S o e=>S.keep _ _ e n) r (w.mono s1) q1 (λO' δ' σ' H' z w' S=>k1 O' δ' σ' H' z w' (aX.trans (.same s1) S)) k2⟩⟩
theorem Df(hp:XO (WE X.prog X.w) X.A X.env X.xe)(hc:X.calm=true){a:WI}(hgl:Gl X "range")(hm:X.mg "range"=none)(ha:PA X [a] (mE X.K H0 O0 ta))(hg:PG X tg g)(gd:GD X.K g dg)(hb:bG X body (cF X.K H0 O0 tb))
 (hst:WH [a] X.env=[(false,eval a X.env)]:=by rfl)(hs:∀x,WT (.Call (.Name "range" p) [a] [] ps) X.env x=pure x:=by intro _;rfl):
 PS X (.For tg (.Call (.Name "range" p) [a] [] ps) body [] pos) (cF X.K H0 O0 (dR ta dg tb)):=
 (sM hp hc (B8 hgl hm ha hst) hg hb hs).imp λD σ H uu23=>by obtain⟨O,δ,E,w,q,k1,k2,k3,k4⟩:=uu23;exact⟨O,δ,_,w,q,λds vs H1 uu24 s1 r1=>by
  obtain⟨j,e,b1,b2,q1⟩:=uu24;subst e;cases r1 with
  | cons r1 r2=>
   cases r2;cases r1;exact⟨j,rfl,b1,b2,Dd kM.rng gd (λ_ _ _=>trivial) (au.rng _) (w.mono s1) q1 (λO' δ' σ' H' z w' S=>k1 O' δ' σ' H' z w' (aX.trans (.same s1) S)) k2⟩⟩
end
def fX(i:Nat)(t:DS):DS:=λE δ=>∃ds,δ[i]?=some (some (.o ds))/\t E (δ.set i (some (.v (.list ds))))
def bp(k:Nat)(fr:List Nat)(δ:Dl):Dl:=PK k none++fr.map λj=>(δ[j]?).join
def qk(g:DG)(tc:DB)(te:DT)(δ0:Dl):List Ww->List Ww->(List Ww->Prop)->Prop
 | [],acc,Q=>Q acc
 | x::xs,acc,Q=>g x δ0 λδ2=>tc δ2 λok=>if ok=true then te δ2 λy=>qk g tc te δ0 xs (acc++[y]) Q else qk g tc te δ0 xs acc Q
theorem Wd.comp{K:Pt}{H:Hp}{O:Ex}{σ:St}{δ:Dl}(w:Wd K H0 O0 H O σ δ){k:Nat}{fr:List Nat}(hf:fr.Nodup):Wd K H0 O0 H O (bF k fr σ) (bp k fr δ):=by
 have at1:∀{α:Type}(l:List (Option α))(i:Nat),(PK k none++fr.map λj=>(l[j]?).join)[i]?=if i < k then some none else(fr[i - k]?).map λj=>(l[j]?).join:=by
  intro α l i;by_cases h:i < k
  ·rw [Wt h,Sg (by simpa using h),SO,Wt h]
  ·rw [Ws h,Sz (by simpa using Us h),Rx];simp
 have un:∀{α:Type}(l:List (Option α))(i:Nat)(x:α),(PK k none++fr.map λj=>(l[j]?).join)[i]?=some (some x)->∃j,fr[i - k]?=some j/\k<=i/\l[j]?=some (some x):=by
  intro α l i x h;rw [at1] at h;split at h
  ·cases h
  ·cases e:fr[i - k]? with
   | none=>rw [e] at h;cases h
   | some j=>
    rw [e] at h;refine⟨j,rfl,Ce,?_⟩;have h':(l[j]?).join=some x:=Rk h;cases q:l[j]? with
    | none=>rw [q] at h';cases h'
    | some o=>rw [q] at h';rw [show o=some x from h']
 refine⟨w.same,w.sub,w.new,w.trk,by simp [bF,bp],λi y e=>?_,λi j y z l e1 y1 e2 z2 e3 e4=>?_⟩
 ·match y,e with
  | none,_=>exact RM
  | some x,e=>
   obtain⟨j,hj,hk,ej⟩:=un δ i x e;have q:=w.sl j _ ej;have e2:((bF k fr σ)[i]?).join=(σ[j]?).join:=by
    unfold bF;rw [at1,Ws Ce,hj];rfl
   rw [e2];exact q
 ·obtain⟨a,ha,ka,ea⟩:=un δ i _ e1;obtain⟨b,hb,kb,eb⟩:=un δ j _ e2;obtain⟨a',ha',_,ea'⟩:=un σ i _ e3;obtain⟨b',hb',_,eb'⟩:=un σ j _ e4;rw [ha] at ha';cases ha';rw [hb] at hb';cases hb';have:=w.dis a b y z l ea y1 eb z2 ea' eb';subst this;have e5:=(Vt (l:=fr) (i:=i - k) (j:=j - k) (Qu.mp ha).1 hf).mp (by rw [ha,hb]);omega
theorem Pq{K:Pt}{J:It}{P:Hp->Prop}{vs:List V}{xs:List Ww}{g:TG}{dg:DG}{tc:TT}{dc:DB}{te:TE}{de:DT}{k:Nat}{fr:List Nat}{σ:St}{H:Hp}{O:Ex}{δ:Dl}{Qd:List Ww->Prop}{Q:VK}(S:kM J P vs)(gd:GD K g dg)(hf:fr.Nodup)
 (hk:∀v:V,∀σ':St,∀H':Hp,∀R:St->Hp->Prop,g v (bF k fr σ) H' R->g v (bF k fr σ) H' λσ2 H2=>ph (bF k fr σ) σ2/\R σ2 H2)
 (hc:∀σ H Q,j6 K H0 O0 dc σ H Q->tc σ H Q)(he:∀σ H Q,up K H0 O0 de σ H Q->te σ H Q)
 (hP:∀D H',H D=none->nN D H H'->P H')(r:au K H O vs xs)(w:Wd K H0 O0 H O σ δ)(hz:vs.length<=WG)(q:qk dg dc de (bp k fr δ) xs [] Qd)
 (k1:∀ds us p H',Qd ds->aq H H'->H' p=none->au K H' O us ds->Q (.ref p) (ao H' p (.lst us))):pk J g tc te k fr σ H Q:=by
 intro D hD;have w0:Wd K H0 O0 H O (bF k fr σ) (bp k fr δ):=w.comp hf;have nD:¬O D:=λz=>w.trk D z hD;have D0:H0 D=none:=by
  cases e:H0 D with
  | none=>rfl
  | some o=>rw [w.same _ _ e] at hD;cases hD
 have ex:∀H',nN D H H'->H' D≠none->Wd K H0 O0 H' (λa=>O a\/a=D) (bF k fr σ) (bp k fr δ):=λH' s' hd=>by
  have S':aX H H' O (λa=>O a\/a=D):=⟨λb o e _=>s' b o e (kz e hD),λb hb hn z=>z.elim hn λq=>hb (by rw [q];exact hD)⟩;refine⟨λb o e=>s' b o (w.same b o e) (λz=>by rw [z,D0] at e;cases e),λl z=>.inl (w.sub l z),λl z=>z.elim (w.new l) λq=>.inr (by rw [q];exact D0),λl z=>?_,w0.len,λj y e=>?_,w0.dis⟩
  ·by_cases ql:l=D
   ·rw [ql];exact hd
   ·have hl:=w.trk l (z.resolve_right ql);cases e:H l with
    | none=>exact absurd e hl
    | some o=>rw [s' l o e ql];exact λz=>nomatch z
  ·exact(w0.sl j y e).go S' (λl o _ _ a1 _ a3=>⟨.inl a1,s' _ _ a3 (λz=>nD (by rw [<-z];exact a1))⟩) (λa o u a1 _ a3=>⟨.inl a1,s' _ _ a3 (λz=>nD (by rw [<-z];exact a1))⟩) λa o a1 a3=>s' _ _ a3 (λz=>nD (by rw [<-z];exact w.sub _ a1))
 refine⟨λi m H'=>∃acc ys,m=vs.length - i/\i<=vs.length/\nN D H H'/\H' D=some (.lst ys)/\ys.length<=i/\au K H' (λa=>O a\/a=D) ys acc/\qk dg dc de (bp k fr δ) (xs.drop i) acc Qd,⟨vs.length,[],[],Wv,Rv _,λb o e n=>by rw [ay n];exact e,bx,Rv _,.nil,by simpa using q⟩,?_⟩;rintro i m H1 ⟨acc,ys,rfl,hi,s1,e1,hy,ra,q1⟩;by_cases hlt:i < vs.length
 ·refine .inr ⟨S.go i H1 (hP D H1 hD s1) hlt,λx H' y=>?_⟩;have yy:=S.yl i H1 x H' (hP D H1 hD s1) hlt y;clear y;obtain⟨e,y⟩:=yy;subst e;obtain⟨d,ed,rd⟩:=r.get y;have hd:xs.drop i=d::xs.drop (i+1):=by
   rw [SD (h:=(Qu.mp ed).1),(Qu.mp ed).2]
  rw [hd] at q1;have w1:=ex _ s1 (by rw [e1];exact λz=>nomatch z);have S':aX H H' O (λa=>O a\/a=D):=⟨λb o e _=>s1 b o e (kz e hD),λb hb hn z=>z.elim hn λq=>hb (by rw [q];exact hD)⟩;refine hk x σ _ _ (gd H0 O0 _ _ _ _ x d _ _ w1 (rd.step S') q1 λδ2 σ2 q2 w2=>?_);refine hc σ2 _ _ ⟨_,δ2,_,w2,q2,λok H3 q3 s3=>?_⟩;cases ok with
  | true=>
   rw [Wt rfl];refine he σ2 H3 _ ⟨_,δ2,_,w2.mono s3,q3,λd' v H4 q4 s4 r4=>?_⟩;have e4:=s4 _ _ (s3 _ _ e1);have sD:aX H4 (ao H4 D (.lst (ys++[v]))) (λa=>O a\/a=D) (λa=>O a\/a=D):=⟨λb o e n=>by rw [ay (λz=>n (.inr z))];exact e,λ_ _ n=>n⟩;refine⟨ys,e4,Ce,vs.length - (i+1),Ce,acc++[d'],ys++[v],rfl,hlt,λb o e n=>by rw [ay n];exact s4 _ _ (s3 _ _ (s1 b o e n)),bx,by simpa using hy,?_,q4⟩;exact((ra.mono (s3.trans s4)).append (.cons r4 .nil)).step sD
  | false=>
   rw [Ws tx];exact⟨vs.length - (i+1),Ce,acc,ys,rfl,hlt,λb o e n=>s3 _ _ (s1 b o e n),s3 _ _ e1,Ce,ra.mono s3,q3⟩
 ·have e:i=vs.length:=Ce
  subst e;refine .inl ⟨S.st _ H1 (hP D H1 hD s1) (PQ _),?_⟩;rw [r.length,RK (PQ _)] at q1;have hrest:∃H2:Hp,H2 D=none/\aq H H2/\H1=ao H2 D (.lst ys):=by
   refine⟨λb=>if b=D then none else H1 b,Wv,λb o e=>?_,?_⟩
   ·have n:=kz e hD;show(if b=D then none else H1 b)=some o;rw [Ws n];exact s1 b o e n
   ·funext b;by_cases z:b=D
    ·rw [z,bx];exact e1
    ·rw [ay z];show H1 b=if b=D then none else H1 b;rw [Ws z]
  obtain⟨H2,h2,s2,rfl⟩:=hrest;refine k1 acc ys D H2 q1 s2 h2 (ra.step ⟨λb o e n=>?_,λb _ n z=>n (.inl z)⟩);rw [ay (λz=>n (.inr z))] at e;exact e
def mG(g:DG)(tc:DB)(te:DT)(δ0:Dl)(xs:List Ww)(Q:List Ww->Prop):Prop:=∃I:Nat->List Ww->Prop,I 0 []/\(∀i x acc,xs[i]?=some x->I i acc->g x δ0 λδ2=>tc δ2 λok=>if ok=true then te δ2 λy=>I (i+1) (acc++[y]) else I (i+1) acc)/\∀acc,I xs.length acc->Q acc
theorem qW{K:Pt}{J:It}{P:Hp->Prop}{vs:List V}{xs:List Ww}{g:TG}{dg:DG}{tc:TT}{dc:DB}{te:TE}{de:DT}{k:Nat}{fr:List Nat}{σ:St}{H:Hp}{O:Ex}{δ:Dl}{Qd:List Ww->Prop}{Q:VK}(S:kM J P vs)(gd:GD K g dg)(hf:fr.Nodup)
 (hk:∀v:V,∀σ':St,∀H':Hp,∀R:St->Hp->Prop,g v (bF k fr σ) H' R->g v (bF k fr σ) H' λσ2 H2=>ph (bF k fr σ) σ2/\R σ2 H2)
 (hc:∀σ H Q,j6 K H0 O0 dc σ H Q->tc σ H Q)(he:∀σ H Q,up K H0 O0 de σ H Q->te σ H Q)
 (hP:∀D H',H D=none->nN D H H'->P H')(r:au K H O vs xs)(w:Wd K H0 O0 H O σ δ)(hz:vs.length<=WG)(q:mG dg dc de (bp k fr δ) xs Qd)
 (k1:∀ds us p H',Qd ds->aq H H'->H' p=none->au K H' O us ds->Q (.ref p) (ao H' p (.lst us))):pk J g tc te k fr σ H Q:=by
 obtain⟨Iv,q0,qs,qe⟩:=q;intro D hD;have w0:Wd K H0 O0 H O (bF k fr σ) (bp k fr δ):=w.comp hf;have nD:¬O D:=λz=>w.trk D z hD;have D0:H0 D=none:=by
  cases e:H0 D with
  | none=>rfl
  | some o=>rw [w.same _ _ e] at hD;cases hD
 have ex:∀H',nN D H H'->H' D≠none->Wd K H0 O0 H' (λa=>O a\/a=D) (bF k fr σ) (bp k fr δ):=λH' s' hd=>by
  have S':aX H H' O (λa=>O a\/a=D):=⟨λb o e _=>s' b o e (kz e hD),λb hb hn z=>z.elim hn λq=>hb (by rw [q];exact hD)⟩;refine⟨λb o e=>s' b o (w.same b o e) (λz=>by rw [z,D0] at e;cases e),λl z=>.inl (w.sub l z),λl z=>z.elim (w.new l) λq=>.inr (by rw [q];exact D0),λl z=>?_,w0.len,λj y e=>?_,w0.dis⟩
  ·by_cases ql:l=D
   ·rw [ql];exact hd
   ·have hl:=w.trk l (z.resolve_right ql);cases e:H l with
    | none=>exact absurd e hl
    | some o=>rw [s' l o e ql];exact λz=>nomatch z
  ·exact(w0.sl j y e).go S' (λl o _ _ a1 _ a3=>⟨.inl a1,s' _ _ a3 (λz=>nD (by rw [<-z];exact a1))⟩) (λa o u a1 _ a3=>⟨.inl a1,s' _ _ a3 (λz=>nD (by rw [<-z];exact a1))⟩) λa o a1 a3=>s' _ _ a3 (λz=>nD (by rw [<-z];exact w.sub _ a1))
 refine⟨λi m H'=>∃acc ys,m=vs.length - i/\i<=vs.length/\nN D H H'/\H' D=some (.lst ys)/\ys.length<=i/\au K H' (λa=>O a\/a=D) ys acc/\Iv i acc,⟨vs.length,[],[],Wv,Rv _,λb o e n=>by rw [ay n];exact e,bx,Rv _,.nil,q0⟩,?_⟩;rintro i m H1 ⟨acc,ys,rfl,hi,s1,e1,hy,ra,q1⟩;by_cases hlt:i < vs.length
 ·refine .inr ⟨S.go i H1 (hP D H1 hD s1) hlt,λx H' y=>?_⟩;have yy:=S.yl i H1 x H' (hP D H1 hD s1) hlt y;clear y;obtain⟨e,y⟩:=yy;subst e;obtain⟨d,ed,rd⟩:=r.get y;have w1:=ex _ s1 (by rw [e1];exact λz=>nomatch z);have S':aX H H' O (λa=>O a\/a=D):=⟨λb o e _=>s1 b o e (kz e hD),λb hb hn z=>z.elim hn λq=>hb (by rw [q];exact hD)⟩;refine hk x σ _ _ (gd H0 O0 _ _ _ _ x d _ _ w1 (rd.step S') (qs i d acc ed q1) λδ2 σ2 q2 w2=>?_);refine hc σ2 _ _ ⟨_,δ2,_,w2,q2,λok H3 q3 s3=>?_⟩;cases ok with
  | true=>
   rw [Wt rfl];refine he σ2 H3 _ ⟨_,δ2,_,w2.mono s3,q3,λd' v H4 q4 s4 r4=>?_⟩;have e4:=s4 _ _ (s3 _ _ e1);have sD:aX H4 (ao H4 D (.lst (ys++[v]))) (λa=>O a\/a=D) (λa=>O a\/a=D):=⟨λb o e n=>by rw [ay (λz=>n (.inr z))];exact e,λ_ _ n=>n⟩;refine⟨ys,e4,Ce,vs.length - (i+1),Ce,acc++[d'],ys++[v],rfl,hlt,λb o e n=>by rw [ay n];exact s4 _ _ (s3 _ _ (s1 b o e n)),bx,by simpa using hy,?_,q4⟩;exact((ra.mono (s3.trans s4)).append (.cons r4 .nil)).step sD
  | false=>
   rw [Ws tx];exact⟨vs.length - (i+1),Ce,acc,ys,rfl,hlt,λb o e n=>s3 _ _ (s1 b o e n),s3 _ _ e1,Ce,ra.mono s3,q3⟩
 ·have e:i=vs.length:=Ce
  subst e;refine .inl ⟨S.st _ H1 (hP D H1 hD s1) (PQ _),?_⟩;rw [r.length] at q1;have hrest:∃H2:Hp,H2 D=none/\aq H H2/\H1=ao H2 D (.lst ys):=by
   refine⟨λb=>if b=D then none else H1 b,Wv,λb o e=>?_,?_⟩
   ·have n:=kz e hD;show(if b=D then none else H1 b)=some o;rw [Ws n];exact s1 b o e n
   ·funext b;by_cases z:b=D
    ·rw [z,bx];exact e1
    ·rw [ay z];show H1 b=if b=D then none else H1 b;rw [Ws z]
  obtain⟨H2,h2,s2,rfl⟩:=hrest;refine k1 acc ys D H2 (qe acc q1) s2 h2 (ra.step ⟨λb o e n=>?_,λb _ n z=>n (.inl z)⟩);rw [ay (λz=>n (.inr z))] at e;exact e
def fY(t:DT)(g:DG)(tc:DB)(te:DT)(k:Nat)(fr:List Nat):DA:=λδ Q=>t δ λd=>∃xs,d= .list xs/\xs.length<=WG/\qk g tc te (bp k fr δ) xs [] Q
def fZ(t:DT)(g:DG)(tc:DB)(te:DT)(k:Nat)(fr:List Nat):DA:=λδ Q=>t δ λd=>∃xs,d= .tuple xs/\xs.length<=WG/\qk g tc te (bp k fr δ) xs [] Q
def gb(ta:DA)(g:DG)(tc:DB)(te:DT)(k:Nat)(fr:List Nat):DA:=λδ Q=>ta δ λds=>∃j:Int,ds=[.int j]/\-(2 ^ 62)<=j/\j < WG/\qk g tc te (bp k fr δ) (lq 0 j.toNat) [] Q
def bS:DB:=λ_ Q=>Q true
def oE(g:TG)(k:Nat):Prop:=∀(fr:List Nat)(σ:St)(v:V)(H':Hp)(R:St->Hp->Prop),g v (bF k fr σ) H' R->g v (bF k fr σ) H' λσ2 H2=>ph (bF k fr σ) σ2/\R σ2 H2
theorem kW:oE (ni 0) 1:=λfr σ v H' R h=>⟨CU,h⟩
def cI(t:DT)(g:DG)(tc:DB)(te:DT)(k:Nat)(fr:List Nat):DA:=λδ Q=>t δ λd=>∃xs,d= .list xs/\xs.length<=WG/\mG g tc te (bp k fr δ) xs Q
def cR(t:DT)(g:DG)(tc:DB)(te:DT)(k:Nat)(fr:List Nat):DA:=λδ Q=>t δ λd=>∃xs,d= .tuple xs/\xs.length<=WG/\mG g tc te (bp k fr δ) xs Q
def dS(ta:DA)(g:DG)(tc:DB)(te:DT)(k:Nat)(fr:List Nat):DA:=λδ Q=>ta δ λds=>∃j:Int,ds=[.int j]/\-(2 ^ 62)<=j/\j < WG/\mG g tc te (bp k fr δ) (lq 0 j.toNat) Q
section
variable {tg iter elt:WI} {ifs:List WI} {scope:W5} {N':List Str} {k:Nat} {fr:List Nat} {g:TG} {dg:DG} {t:DT} {ta:DA} {tc:DB} {te:DT} {pos p ps:Pos}
theorem oF(hc:X.calm=true)(S:bR X.env.scope X.N N' k fr scope)(hi:DF X H0 O0 iter t)(gd:GD X.K g dg)(hk:oE g k)(hfr:fr.Nodup)
 (hg:∀fp C s H,PG (bW X scope N' fp C s H) tg g)(hf:∀fp C s H,l6 (bW X scope N' fp C s H) ifs (j6 X.K H0 O0 tc))(he:∀fp C s H,PE (bW X scope N' fp C s H) elt (up X.K H0 O0 te))
 (hs:∀x,WT iter X.env x=pure x:=by intro _;rfl):FE X H0 O0 (.ListComp elt [⟨tg,iter,ifs,0⟩] scope pos) (cI t dg tc te k fr):=
 (qg hc S (uq hi) hg hf he hs).imp λσ H Q uu25=>by obtain⟨O,δ,Qd,w,q,kk⟩:=uu25;exact⟨O,δ,_,w,q,λd v H1 uu26 s1 r1=>by
  obtain⟨xs,e,hz,q1⟩:=uu26;subst e;obtain⟨a,vs,rfl,hq,rr⟩:=r1.lst;refine⟨a,rfl,⟨_,hq⟩,λD hD=>qW (kM.list hq) gd hfr (λv _ H' R h=>hk fr σ v H' R h) (λ_ _ _ z=>z) (λ_ _ _ z=>z) (λD H' hD s' o e=>s' _ _ e (kz e hD)) rr (w.mono s1) (by rw [rr.length];exact hz) q1 (λds us p H' z s' hp r'=>kk ds us p H' z (s1.trans s') hp r') D hD⟩⟩
theorem Dg(hc:X.calm=true)(S:bR X.env.scope X.N N' k fr scope)(hi:DF X H0 O0 iter t)(gd:GD X.K g dg)(hk:oE g k)(hfr:fr.Nodup)
 (hg:∀fp C s H,PG (bW X scope N' fp C s H) tg g)(hf:∀fp C s H,l6 (bW X scope N' fp C s H) ifs (j6 X.K H0 O0 tc))(he:∀fp C s H,PE (bW X scope N' fp C s H) elt (up X.K H0 O0 te))
 (hs:∀x,WT iter X.env x=pure x:=by intro _;rfl):FE X H0 O0 (.ListComp elt [⟨tg,iter,ifs,0⟩] scope pos) (cR t dg tc te k fr):=
 (qg hc S (B6 hi) hg hf he hs).imp λσ H Q uu27=>by obtain⟨O,δ,Qd,w,q,kk⟩:=uu27;exact⟨O,δ,_,w,q,λd v H1 uu28 s1 r1=>by
  obtain⟨xs,e,hz,q1⟩:=uu28;subst e;obtain⟨a,vs,rfl,hq,rr⟩:=r1.tup;refine⟨a,rfl,⟨_,hq⟩,λD hD=>qW (kM.tup hq) gd hfr (λv _ H' R h=>hk fr σ v H' R h) (λ_ _ _ z=>z) (λ_ _ _ z=>z) (λD H' hD s' o e=>s' _ _ e (kz e hD)) rr (w.mono s1) (by rw [rr.length];exact hz) q1 (λds us p H' z s' hp r'=>kk ds us p H' z (s1.trans s') hp r') D hD⟩⟩
theorem Dh(hc:X.calm=true){a:WI}(S:bR X.env.scope X.N N' k fr scope)(hgl:Gl X "range")(hm:X.mg "range"=none)(ha:PA X [a] (mF X.K H0 O0 ta))(gd:GD X.K g dg)(hk:oE g k)(hfr:fr.Nodup)
 (hg:∀fp C s H,PG (bW X scope N' fp C s H) tg g)(hf:∀fp C s H,l6 (bW X scope N' fp C s H) ifs (j6 X.K H0 O0 tc))(he:∀fp C s H,PE (bW X scope N' fp C s H) elt (up X.K H0 O0 te))
 (hst:WH [a] X.env=[(false,eval a X.env)]:=by rfl)(hs:∀x,WT (.Call (.Name "range" p) [a] [] ps) X.env x=pure x:=by intro _;rfl):
 FE X H0 O0 (.ListComp elt [⟨tg,(.Call (.Name "range" p) [a] [] ps),ifs,0⟩] scope pos) (dS ta dg tc te k fr):=
 (qg hc S (B8 hgl hm ha hst) hg hf he hs).imp λσ H Q uu29=>by obtain⟨O,δ,Qd,w,q,kk⟩:=uu29;exact⟨O,δ,_,w,q,λds vs H1 uu30 s1 r1=>by
  obtain⟨j,e,b1,b2,q1⟩:=uu30;subst e;cases r1 with
  | cons r1 r2=>
   cases r2;cases r1.int;have hb:(WG:Int) < 2 ^ 62:=tx
   exact⟨j,rfl,b1,Ce,λD hD=>qW (P:=λ_=>True) kM.rng gd hfr (λv _ H' R h=>hk fr σ v H' R h) (λ_ _ _ z=>z) (λ_ _ _ z=>z) (λ_ _ _ _=>trivial) (au.rng _) (w.mono s1) (by rw [PD,SY];omega) q1 (λds us p H' z s' hp r'=>kk ds us p H' z (s1.trans s') hp r') D hD⟩⟩
end
end
section
variable {K:Pt}
def dI(g:Int->Int->Ww):Ww->Ww->(Ww->Prop)->Prop:=λx y Q=>∃i j,x= .int i/\y= .int j/\Q (g i j)
def dU(C:Int->Int->Prop)(g:Int->Int->Ww):Ww->Ww->(Ww->Prop)->Prop:=λx y Q=>∃i j,x= .int i/\y= .int j/\C i j/\Q (g i j)
theorem cS{g:Int->Int->Int}:j7 K (mR λi j=>.int (g i j)) (dI λi j=>.int (g i j)):=λH O x y dx dy Qd R _ hx hy uu31 k=>by
 obtain⟨i,j,e1,e2,q⟩:=uu31;subst e1 e2;cases hx.int;cases hy.int;exact⟨i,j,rfl,rfl,k _ _ H q (aq.refl _) (.int _)⟩
theorem ck{g:Int->Int->Bool}:j7 K (mR λi j=>.bl (g i j)) (dI λi j=>.bool (g i j)):=λH O x y dx dy Qd R _ hx hy uu32 k=>by
 obtain⟨i,j,e1,e2,q⟩:=uu32;subst e1 e2;cases hx.int;cases hy.int;exact⟨i,j,rfl,rfl,k _ _ H q (aq.refl _) (.bl _)⟩
theorem mT{C:Int->Int->Prop}{g:Int->Int->Int}:j7 K (rI C λi j=>.int (g i j)) (dU C λi j=>.int (g i j)):=λH O x y dx dy Qd R _ hx hy uu33 k=>by
 obtain⟨i,j,e1,e2,c,q⟩:=uu33;subst e1 e2;cases hx.int;cases hy.int;exact⟨i,j,rfl,rfl,c,k _ _ H q (aq.refl _) (.int _)⟩
def Di(K:Pt):R2:=λx y H Q=>∃O dx dy,Sh K H O x dx/\Sh K H O y dy/\aS dx/\aS dy/\Q (.bl (PN dx dy)) H
def Dj(K:Pt):R2:=λx y H Q=>∃O dx dy,Sh K H O x dx/\Sh K H O y dy/\aS dx/\aS dy/\Q (.bl (!PN dx dy)) H
theorem cJ{X:Cx}(hu:X.A.units+64 < cLine):bD X (WS .Eq) (Di X.K):=by
 intro Ys s σ H x y v u Q I rx ry h;obtain⟨O,dx,dy,hx,hy,sx,sy,q⟩:=h;obtain⟨as,ra⟩:=nk I hx.all (Ro sx) rx;obtain⟨bs,rb⟩:=nk I hy.all (Ro sy) ry;exact SeqAt.compareEq_shaped ra rb sx sy hu (bH I q rfl)
theorem mH{X:Cx}(hu:X.A.units+64 < cLine):bD X (WS .NotEq) (Dj X.K):=by
 intro Ys s σ H x y v u Q I rx ry h;obtain⟨O,dx,dy,hx,hy,sx,sy,q⟩:=h;obtain⟨as,ra⟩:=nk I hx.all (Ro sx) rx;obtain⟨bs,rb⟩:=nk I hy.all (Ro sy) ry;exact SeqAt.compareNe_shaped ra rb sx sy hu (bH I q rfl)
def dW:Ww->Ww->(Ww->Prop)->Prop:=λx y Q=>aS x/\aS y/\Q (.bool (PN x y))
def dX:Ww->Ww->(Ww->Prop)->Prop:=λx y Q=>aS x/\aS y/\Q (.bool (!PN x y))
theorem cK:j7 K (Di K) dW:=λH O x y dx dy Qd R _ hx hy uu34 k=>by obtain⟨a,b,q⟩:=uu34;exact⟨O,dx,dy,hx,hy,a,b,k _ _ H q (aq.refl _) (.bl _)⟩
theorem mI:j7 K (Dj K) dX:=λH O x y dx dy Qd R _ hx hy uu35 k=>by obtain⟨a,b,q⟩:=uu35;exact⟨O,dx,dy,hx,hy,a,b,k _ _ H q (aq.refl _) (.bl _)⟩
def dY:Ww->Ww->(Ww->Prop)->Prop:=λx y Q=>∃ds i d,x= .list ds/\y= .int i/\atI ds i=some d/\Q d
def cn:Ww->Ww->(Ww->Prop)->Prop:=λx y Q=>∃ds i d,x= .tuple ds/\y= .int i/\atI ds i=some d/\Q d
theorem au.atI{H:Hp}{O:Ex}{vs:List V}{ds:List Ww}{i:Int}{d:Ww}(r:au K H O vs ds)(e:L2.atI ds i=some d):∃v,L2.atI vs i=some v/\Dt K H O v d:=by
 unfold L2.atI at e⊢;rw [r.length];cases q:oy ds.length i with
 | none=>rw [q] at e;cases e
 | some j=>rw [q] at e;exact r.getD e
theorem aP:j7 K (xV K) dY:=λH O x y dx dy Qd R _ hx hy uu36 k=>by
 obtain⟨ds,i,d,e1,e2,e3,q⟩:=uu36;subst e1 e2;obtain⟨a,vs,rfl,hs,r⟩:=hx.lst;cases hy.int;obtain⟨v,hv,rv⟩:=r.atI e3;exact⟨a,vs,i,v,rfl,rfl,hs,hv,k d v H q (aq.refl _) rv⟩
theorem aK:j7 K (uD K) cn:=λH O x y dx dy Qd R _ hx hy uu37 k=>by
 obtain⟨ds,i,d,e1,e2,e3,q⟩:=uu37;subst e1 e2;obtain⟨a,vs,rfl,hs,r⟩:=hx.tup;cases hy.int;obtain⟨v,hv,rv⟩:=r.atI e3;exact⟨a,vs,i,v,rfl,rfl,hs,hv,k d v H q (aq.refl _) rv⟩
end
section
variable {X:Cx} {H0:Hp} {O0:Ex}
def Jo:R2:=λx y H Q=>∃l b xs zs,x= .ref l/\y= .ref b/\Rd H l (.lst xs)/\Rd H b (.lst zs)/\xs.length+zs.length<=WG/\∀p,H p=none->Q (.ref p) (ao H p (.lst (xs++zs)))
theorem Jp:bD X (Xc .Add) Jo:=by
 intro Ys s σ H x y v u Q I rx ry h;obtain⟨l,b,xs,zs,rfl,rfl,hH,hB,hz,q⟩:=h;cases rx;cases ry;obtain⟨z,its,n,r,e⟩:=hH.ok I.hok;obtain⟨z2,its2,n2,r2,e2⟩:=hB.ok I.hok;have l1:=r.length;have l2:=r2.length;refine PySem.P.add_list e e2 ?_ (by rw [Qt,Qt];omega);have ea:its.toArray++its2.toArray=(its++its2).toArray:=Wv
 rw [ea];exact⟨.ref _,_,I.lnew (t':=s.toks) (r.append r2) (by rw [Rf];omega),rfl,q _ I.fresh⟩
def dZ(ta tb:DT):DA:=λδ Q=>ta δ λx=>tb δ λy=>∃xs ys,x= .list xs/\y= .list ys/\xs.length+ys.length<=WG/\Q (xs++ys)
theorem lr{a b:WI}{ta tb:DT}{pos:Pos}(ha:DF X H0 O0 a ta)(hb:DF X H0 O0 b tb):FE X H0 O0 (.BinOp a .Add b pos) (dZ ta tb):=
 (cw Jp ha hb).imp λσ H Q uu38=>by obtain⟨O,δ,Qd,w,q,k⟩:=uu38;exact⟨O,δ,_,w,q,λx v H1 q1 s1 r1=>⟨O,δ,_,w.mono s1,q1,λy u H2 uu39 s2 r2=>by
  obtain⟨xs,ys,e1,e2,hz,q2⟩:=uu39;subst e1 e2;obtain⟨a,vs,rfl,h1,d1⟩:=(r1.mono s2).lstR;obtain⟨b,us,rfl,h2,d2⟩:=r2.lstR;exact⟨a,b,vs,us,rfl,rfl,h1,h2,by rw [d1.length,d2.length];exact hz,λp hp=>k _ _ _ _ q2 (s1.trans s2) hp (d1.append d2)⟩⟩⟩
def d3:Ww->Ww->(Ww->Prop)->Prop:=λx y Q=>∃xs ys,x= .tuple xs/\y= .tuple ys/\xs≠[]/\xs.length+ys.length<=WG/\Q (.tuple (xs++ys))
theorem Jq{K:Pt}:j7 K (xT K) d3:=λH O x y dx dy Qd R tr hx hy uu40 k=>by
 obtain⟨xs,ys,e1,e2,hn,hz,q⟩:=uu40;subst e1 e2;have hx0:=hx;obtain⟨a,vs,rfl,h1,d1⟩:=hx.tup;obtain⟨b,us,rfl,h2,d2⟩:=hy.tup;refine⟨a,b,vs,us,rfl,rfl,h1,h2,λz=>?_,by rw [d1.length,d2.length];exact hz,λz=>?_,λ_ p hp=>?_⟩
 ·subst z;cases d1;exact hn rfl
 ·subst z;cases d2;rw [PY] at q;cases hx0 with
  | dt hx0=>exact k _ _ H q (aq.refl _) hx0
 ·exact k _ _ _ q (aq.new hp) (.tup (.inl bx) (λz=>tr p z hp) ((d1.append d2).mono (aq.new hp)))
def bA(xs:List Ww)(lo hi:Option Int):List Ww:=(xs.drop (HT.sIx xs.length 0 lo)).take (HT.sIx xs.length xs.length hi - HT.sIx xs.length 0 lo)
theorem au.cut{K:Pt}{H:Hp}{O:Ex}{vs:List V}{ds:List Ww}(r:au K H O vs ds)(lo hi:Option Int):au K H O (oq vs lo hi) (bA ds lo hi):=by
 unfold oq bA;rw [r.length];exact(r.drop _).take _
abbrev DO:=Dl->(Option Int->Prop)->Prop
inductive oG (K:Pt) (H0:Hp) (O0:Ex) (t:DO) (σ:St) (H:Hp) (R:Option Int->Hp->Prop):Prop
 | mk (O:Ex) (δ:Dl) (Qd:Option Int->Prop):Wd K H0 O0 H O σ δ->t δ Qd->(∀d H',Qd d->aq H H'->R d H')->oG K H0 O0 t σ H R
def d6:DO:=λ_ Q=>Q none
def d7(t:DT):DO:=λδ Q=>t δ λd=>∃i,d= .int i/\Q (some i)
theorem PO.imp{X:Cx}{e:Option WI}{t u:TO}(h:PO X e t)(i:∀σ H Q,u σ H Q->t σ H Q):PO X e u:=λYs s σ H Q I z=>h Ys s σ H Q I (i σ H Q z)
theorem kl:PO X none (oG X.K H0 O0 d6):=HP.imp λσ H Q uu41=>by obtain⟨O,δ,Qd,w,q,k⟩:=uu41;exact k none H q (aq.refl _)
theorem bT{e:WI}{t:DT}(h:DE X H0 O0 e t):PO X (some e) (oG X.K H0 O0 (d7 t)):=(HQ h).imp λσ H Q uu42=>by obtain⟨O,δ,Qd,w,q,k⟩:=uu42;exact⟨O,δ,_,w,q,λd v H1 uu43 s1 r1=>by obtain⟨i,e,q1⟩:=uu43;subst e;cases r1;exact⟨i,rfl,k _ H1 q1 s1⟩⟩
def d8(t:DT)(tl th:DO):DA:=λδ Q=>t δ λd=>tl δ λl=>th δ λu=>∃xs,d= .list xs/\Q (bA xs l u)
def gc(t:DT)(tl th:DO):DT:=λδ Q=>t δ λd=>tl δ λl=>th δ λu=>∃xs,d= .tuple xs/\¬(HT.sIx xs.length 0 l=0/\HT.sIx xs.length xs.length u=xs.length)/\Q (.tuple (bA xs l u))
theorem kC{e:WI}{lo hi:Option WI}{t:DT}{tl th:DO}{pos p2:Pos}(h:DF X H0 O0 e t)(hl:PO X lo (oG X.K H0 O0 tl))(hu:PO X hi (oG X.K H0 O0 th)):FE X H0 O0 (.Subscript e (.Slice lo hi none p2) pos) (d8 t tl th):=
 (xS Ie h hl hu).imp λσ H Q uu44=>by obtain⟨O,δ,Qd,w,q,k⟩:=uu44;exact⟨O,δ,_,w,q,λd v H1 q1 s1 r1=>⟨O,δ,_,w.mono s1,q1,λl H2 q2 s2=>⟨O,δ,_,w.mono (s1.trans s2),q2,λu H3 uu45 s3=>by
  obtain⟨xs,e,q3⟩:=uu45;subst e;obtain⟨a,vs,rfl,h1,d1⟩:=(r1.mono (s2.trans s3)).lst;exact⟨a,vs,rfl,h1,λp hp=>k _ _ _ _ q3 (s1.trans (s2.trans s3)) hp (d1.cut l u)⟩⟩⟩⟩
theorem pC{a b:WI}{ta tb:DT}{r:R2}{rd:Ww->Ww->(Ww->Prop)->Prop}{pos:Pos}(ho:qU X r)(hd:j7 X.K r rd)(ha:DF X H0 O0 a ta)(hb:DF X H0 O0 b tb)(hs:∀v u,subscripted b false v u=operate [v,u] (X5 v u):=by intro _ _;rfl):DE X H0 O0 (.Subscript a b pos) (bB rd ta tb):=(qf ho ha hb hs).imp (uK hd)
def d9:List Ww->(Ww->Prop)->Prop:=λds Q=>∃xs,(ds=[.list xs]\/ds=[.tuple xs])/\Q (.int xs.length)
def eg:List Ww->(Ww->Prop)->Prop:=λds Q=>∃xs,ds=[mD xs]/\Q (.int xs.length)
theorem kq{K:Pt}:nr K (λxs H Q=>∃p ys,xs=[.ref p]/\(bg K H p ys\/aZ K H p ys)/\Q (.int ys.length) H) d9:=λH O xs ds Qd R _ hs uu46 k=>by
 obtain⟨ys,e,q⟩:=uu46;rcases e with e | e <;> subst e
 ·cases hs with
  | cons h r=>
   cases r;obtain⟨a,vs,rfl,h1,d1⟩:=h.lst;exact⟨a,vs,rfl,.inl h1,by rw [d1.length];exact k _ _ H q (aq.refl _) (.int _)⟩
 ·cases hs with
  | cons h r=>
   cases r;obtain⟨a,vs,rfl,h1,d1⟩:=h.tup;exact⟨a,vs,rfl,.inr h1,by rw [d1.length];exact k _ _ H q (aq.refl _) (.int _)⟩
theorem Jr{K:Pt}:nr K (λxs H Q=>∃p ys,xs=[.ref p]/\(bg K H p ys\/aZ K H p ys)/\Q (.int ys.length) H) eg:=λH O xs ds Qd R _ hs uu47 k=>by
 obtain⟨ys,e,q⟩:=uu47;subst e;cases hs with
 | cons h r=>
  cases r;obtain⟨a,vs,rfl,h1,d1⟩:=h.scr;exact⟨a,vs,rfl,.inl h1,by rw [d1.length];exact k _ _ H q (aq.refl _) (.int _)⟩
def ei:List Ww->(Ww->Prop)->Prop:=λds Q=>∃xs,ds=[.list xs]/\Q (.tuple xs)
theorem l8{K:Pt}:nr K (λxs H Q=>∃p ys,xs=[.ref p]/\((bg K H p ys/\∀l,H l=none->Q (.ref l) (ao H l (.tup ys)))\/(aZ K H p ys/\Q (.ref p) H))) ei:=λH O xs ds Qd R tr hs uu48 k=>by
 obtain⟨ys,e,q⟩:=uu48;subst e;cases hs with
 | cons h r=>
  cases r;obtain⟨a,vs,rfl,h1,d1⟩:=h.lst;exact⟨a,vs,rfl,.inl ⟨h1,λl hl=>k _ _ _ q (aq.new hl) (.tup (.inl bx) (λz=>tr l z hl) (d1.mono (aq.new hl)))⟩⟩
theorem au.bools{K:Pt}{H:Hp}{O:Ex}:∀{bs:List Bool}{vs:List V},au K H O vs (bs.map TK)->vs=bs.map V.bl
 | [],_,r=>by rw [Qf] at r;cases r;rfl
 | b::bs,_,r=>by
  rw [Py] at r;cases r with
  | cons h r=>cases h;rw [Py,au.bools r]
def eD(g:List Bool->Bool):List Ww->(Ww->Prop)->Prop:=λds Q=>∃bs:List Bool,ds=[.list (bs.map .bool)]/\Q (.bool (g bs))
theorem ny{K:Pt}{g:List Bool->Bool}:nr K (λxs H Q=>∃(a:WA)(bs:List Bool),xs=[.ref a]/\bg K H a (bs.map V.bl)/\Q (.bl (g bs)) H) (eD g):=λH O xs ds Qd R tr hs uu49 k=>by
 obtain⟨bs,e,q⟩:=uu49;subst e;cases hs with
 | cons h r=>
  cases r;obtain⟨a,vs,rfl,h1,d1⟩:=h.lst;cases d1.bools;exact⟨a,bs,rfl,h1,k _ _ H q (aq.refl _) (.bl _)⟩
def eF(g:Int->Int->Int):List Ww->(Ww->Prop)->Prop:=λds Q=>∃i j,ds=[.int i,.int j]/\Q (.int (g i j))
theorem Aa{K:Pt}{g:Int->Int->Int}:nr K (λxs H Q=>∃i j,xs=[.int i,.int j]/\Q (.int (g i j)) H) (eF g):=λH O xs ds Qd R tr hs uu50 k=>by
 obtain⟨i,j,e,q⟩:=uu50;subst e;cases hs with
 | cons h r=>
  cases r with
  | cons h2 r=>
   cases r;cases h.int;cases h2.int;exact⟨i,j,rfl,k _ _ H q (aq.refl _) (.int _)⟩
def qX:Ww->String
 | .none=> "NoneType" | .bool _=> "bool" | .int _=> "int" | .str _=> "str" | .list _=> "list" | .tuple _=> "tuple" | .dict _=> "dict"
def gf(neg:Bool):Ww->Ww->(Ww->Prop)->Prop:=λx y Q=>∃ds,(y= .list ds\/y= .tuple ds)/\cx x=true/\ds.all cx=true/\Q (.bool (if neg then !(ds.any λd=>PN d x) else ds.any λd=>PN d x))
end
section
variable {P:WM} {w:WO} {K:Pt} {mg:Str->Option Wx} {base:WL}
def bU(N:List Str)(ds:List Ww):Dl:=ds.map (λd=>some (.v d))++PK (N.length - ds.length) none
theorem Dk{H:Hp}{O:Ex}{N:List Str}{vs:List V}{ds:List Ww}(tr:∀l,O l->H l≠none)(r:au K H O vs ds):Wd K H O H O (start N vs) (bU N ds):=by
 have hl:=r.length;have at1:∀(i:Nat) y,(bU N ds)[i]?=some y->(∃d,ds[i]?=some d/\y=some (.v d))\/y=none:=λi y e=>by
  unfold bU at e;by_cases h:i < ds.length
  ·rw [Sg (by simpa using h),Rx] at e;cases q:ds[i]? with
   | none=>rw [q] at e;cases e
   | some d=>rw [q] at e;exact .inl ⟨d,rfl,(Rk e).symm⟩
  ·rw [Sz (by simpa using Us h),SO] at e;split at e
   ·exact .inr (Rk e).symm
   ·cases e
 refine⟨aq.refl _,λ_ z=>z,λ_ z=>.inl z,tr,by simp [start,bU,hl],λi y e=>?_,λi j ds' es l e1=>?_⟩
 ·rcases at1 i y e with⟨d,hd,rfl⟩ | rfl
  ·obtain⟨v,hv,rv⟩:=r.getD hd;refine⟨v,?_,rv⟩;unfold start;rw [Sg (by simpa using(Qu.mp hv).1),Rx,hv];rfl
  ·exact RM
 ·rcases at1 i _ e1 with⟨d,_,z⟩ | z
  ·cases z;intro h;exact h.elim
  ·cases z
theorem lK.okD{x qual:Str}{st:WQ}{f:WA}{fd:WJ}{N ps:List Str}{k:Nat}{F:List Ww->(Ww->Prop)->Prop}(Fu:lK K x qual st f fd)(S:aN N ps (az st))(len:∀ds Q,F ds Q->ds.length=ps.length)
 (hbody:∀(cdv:Wx) (A:WR) (outer:List Env) (s:WB) (H:Hp) (O:Ex) (ds:List Ww) (Q:Ww->Prop) (E:XK),bQ k (A.deeper (XH qual (az st) s.heap.objs.size f cdv))->F ds Q->
  ∃t,bG (kc CX0 P w K mg base N qual (az st) f cdv A outer s H E).nox (l3 st) (cF K H O t)/\t {nx:=λ_=>Q .none,rt:=Q} (bU N ds)):aF P w K mg base CX0 (k+1) f fd ps (bh K F):=by
 refine Fu.ok S (λvs H Q E h=>?_) (λcdv A outer s H vs Q E hr h=>?_)
 ·obtain⟨O,ds,Qd,_,r,q,_⟩:=h;rw [r.length];exact len _ _ q
 ·obtain⟨O,ds,Qd,tr,r,q,k⟩:=h;obtain⟨t,ht,q'⟩:=hbody cdv A outer s H O ds Qd E hr q;refine⟨_,ht,O,_,_,Dk tr r,q',λO' δ' σ' H' z w' S'=>?_,λd v H' z s' r'=>k d v H' z s' r',λ_ _ _ _ z=>z.elim,λ_ _ _ _ z=>z.elim⟩;exact k _ _ _ z w'.same .non
end
section
variable {X:Cx} {H0:Hp} {O0:Ex}
theorem kX:l6 X [] (j6 X.K H0 O0 bS):=λYs s σ H Q I h=>by
 obtain⟨O,δ,Qd,w,q,k⟩:=h;exact CJ Ys s σ H Q I (k true H q (aq.refl _))
theorem Js:kB X (.builtin "isinstance") (λxs H Q=>∃O d T b x,xs=[x,.ty T]/\Dt X.K H O x d/\(∀x,d≠ .dict [(.none,x)])/\kitOne X.K (.type (qX d)) (.type T)=some b/\Q (.bl b) H):=by
 intro Ys s σ H xs us Q I r h;obtain⟨O,d,T,b,x,rfl,hd,hp,hk,q⟩:=h;obtain⟨u,w',rfl,rx,rt⟩:=p7 r;cases (show w'=S9 T from rt);have fin:∀tk,EP X Ys σ Q (.bool b) {s with toks:=tk}:=λtk=>⟨.bl b,H,I.tok tk,rfl,q⟩;cases hd with
 | non=>cases (show u=RX from rx);exact X3 kitx_none I.kIn RM hk (λz=>nomatch z) fin
 | bl y=>cases (show u=Sr y from rx);exact X3 kitx_bool I.kIn RM hk (λz=>nomatch z) fin
 | int i=>obtain⟨t,e⟩:=(show ∃t,u=TQ i t from rx);cases e;exact X3 kitx_int I.kIn RM hk (λz=>nomatch z) fin
 | str y=>obtain⟨t,e⟩:=(show ∃t,u=S7 y t from rx);cases e;exact X3 kitx_str I.kIn RM hk (λz=>nomatch z) fin
 | @tup a xs ds h n rr=>
  cases (show u=QJ a from rx);obtain⟨its,rv,⟨o,e,c,_⟩,_⟩:=I.tuple (.inl h);exact X3 kitx_tuple I.kIn ⟨o,e,c⟩ hk (λz=>nomatch z) fin
 | @tupK a xs ds h rr=>
  cases (show u=QJ a from rx);obtain⟨its,rv,⟨o,e,c,_⟩,_⟩:=I.tuple h.of0;exact X3 kitx_tuple I.kIn ⟨o,e,c⟩ hk (λz=>nomatch z) fin
 | @lst a xs ds h n rr=>
  cases (show u=QJ a from rx);obtain⟨its,rv,⟨o,_,e,c,_⟩,_⟩:=I.list (.inl h);exact X3 kitx_list I.kIn ⟨o,e,c⟩ hk (λz=>nomatch z) fin
 | pack h n=>exact absurd rfl (hp _)
 | purse h n=>exact absurd rfl (hp _)
 | scr h r=>exact absurd rfl (hp _)
 | obj h e n r=>exact absurd rfl (hp _)
 | @dct0 a h n=>
  cases (show u=QJ a from rx);obtain⟨_,_,_,_,o,_,_,e,c,_⟩:=(show bL X.prog X.w H s.heap a (.dK []) from I.hok a _ h);exact X3 kitx_dict I.kIn ⟨o,e,c.1⟩ hk (λz=>nomatch z) fin
 | @dic a ob kv ks kp ds h e1 e2 n rr=>
  cases (show u=QJ a from rx);obtain⟨_,_,_,_,o,_,_,e,c,_⟩:=(show bL X.prog X.w H s.heap a (.dK kv) from(I.hok a _ h).2);exact X3 kitx_dict I.kIn ⟨o,e,c.1⟩ hk (λz=>nomatch z) fin
def cT(K:Pt)(T:String)(t:DT):DT:=λδ Q=>t δ λd=>∃b,kitOne K (.type (qX d)) (.type T)=some b/\(∀x,d≠ .dict [(.none,x)])/\Q (.bool b)
theorem Jt{T:String}{a c:WI}{t:DT}{np p:Pos}(hg:Gl X "isinstance")(hm:X.mg "isinstance"=none)(hv:WU "isinstance"=some (.builtin "isinstance"))(ha:DF X H0 O0 a t)(hc:PE X c (tC (.ty T)))
 (hs:WH [a,c] X.env=(false,eval a X.env)::WH [c] X.env:=by rfl)(hs2:WH [c] X.env=[(false,eval c X.env)]:=by rfl)(hb:(WZ p (WH [c] X.env)).any (·.1)=false:=by rfl):DE X H0 O0 (.Call (.Name "isinstance" np) [a,c] [] p) (cT X.K T t):=
 (aR Js hg hm hv (aQ ha (aQ hc bM hs2) hs) (he:=hs) (hpl:=hb)).imp λσ H Q uu51=>by obtain⟨O,δ,Qd,w,q,k⟩:=uu51;exact⟨O,δ,_,w,q,λd v H1 uu52 s1 r1=>by obtain⟨b,e,hp,q1⟩:=uu52;exact⟨λ_=>False,d,T,b,v,rfl,r1.all,hp,e,k _ _ H1 q1 s1 (.bl b)⟩⟩
def eG:Ww->Ww->(Ww->Prop)->Prop:=λx y Q=>∃i j,x= .str i/\y= .str j/\i.length+j.length<=WG/\Q (.str (i++j))
theorem tm{K:Pt}:j7 K (λx y H Q=>∃i j,x= .str i/\y= .str j/\i.length+j.length<=WG/\Q (.str (i++j)) H) eG:=λH O x y dx dy Qd R tr hx hy uu53 k=>by
 obtain⟨i,j,e1,e2,hz,q⟩:=uu53;subst e1 e2;cases hx.str;cases hy.str;exact⟨i,j,rfl,rfl,hz,k _ _ H q (aq.refl _) (.str _)⟩
def eJ:Ww->Ww->(Ww->Prop)->Prop:=λx y Q=>∃z i c,x= .str z/\y= .int i/\z.length<=WG/\atI z.cps.toList i=some c/\Q (.str ⟨#[c]⟩)
theorem Ab{K:Pt}:j7 K Cy eJ:=λH O x y dx dy Qd R tr hx hy uu54 k=>by
 obtain⟨z,i,c,e1,e2,hz,e3,q⟩:=uu54;subst e1 e2;cases hx.str;cases hy.int;exact⟨z,i,c,rfl,rfl,hz,e3,k _ _ H q (aq.refl _) (.str _)⟩
def Ju:V->Option Int->Option Int->Hp->VK->Prop:=λx lo hi H Q=>∃z,x= .str z/\z.length<=WG/\Q (.str (Txt.slice z lo hi)) H
theorem Jv:sS X Ju:=by
 intro Ys s σ H x v vl vu lo hi sl Q I rx hs pl pu h;obtain⟨z,rfl,hz,q⟩:=h;obtain⟨t,rfl⟩:=rx;have e1:∃l:Option (Int×Tok),vl=partValue l/\l.map (·.1)=lo:=by
  cases pl with
  | none=>exact⟨none,rfl,rfl⟩
  | int i t=>exact⟨some (i,t),rfl,rfl⟩
 have e2:∃l:Option (Int×Tok),vu=partValue l/\l.map (·.1)=hi:=by
  cases pu with
  | none=>exact⟨none,rfl,rfl⟩
  | int i t=>exact⟨some (i,t),rfl,rfl⟩
 obtain⟨l,rfl,rfl⟩:=e1;obtain⟨u,rfl,rfl⟩:=e2;refine⟨"str",_,F.slot_str_getitem.lookup,Xr _ _ _,wpAny_getItem_str_slice (l:=l) (u:=u) (st:=none) hs rfl ?_⟩;exact post_val_or_str ⟨Qz (Txt.slice_le z _ _) hz,λt' k=>⟨.str (Txt.slice z (l.map (·.1)) (u.map (·.1))),H,I.tok _,⟨_,rfl⟩,q⟩⟩
def eL(t:DT)(tl th:DO):DT:=λδ Q=>t δ λd=>tl δ λl=>th δ λu=>∃z,d= .str z/\z.length<=WG/\Q (.str (Txt.slice z l u))
theorem uQ{e:WI}{lo hi:Option WI}{t:DT}{tl th:DO}{pos p2:Pos}(h:DF X H0 O0 e t)(hl:PO X lo (oG X.K H0 O0 tl))(hu:PO X hi (oG X.K H0 O0 th)):DE X H0 O0 (.Subscript e (.Slice lo hi none p2) pos) (eL t tl th):=
 (xS Jv h hl hu).imp λσ H Q uu55=>by obtain⟨O,δ,Qd,w,q,k⟩:=uu55;exact⟨O,δ,_,w,q,λd v H1 q1 s1 r1=>⟨O,δ,_,w.mono s1,q1,λl H2 q2 s2=>⟨O,δ,_,w.mono (s1.trans s2),q2,λu H3 uu56 s3=>by
  obtain⟨z,e,hz,q3⟩:=uu56;subst e;cases r1.str;exact⟨z,rfl,hz,k _ _ H3 q3 (s1.trans (s2.trans s3)) (.str _)⟩⟩⟩⟩
theorem Dm{K:Pt}{H:Hp}{O:Ex}:∀{ys:List Str}{vs:List V}{us:List Wx},au K H O vs (ys.map Pu)->aM vs us->W6 us ys:=by
 intro ys
 induction ys with
 | nil=>intro vs us r rv;rw [Qf] at r;cases r;cases rv;exact .nil
 | cons y ys ih=>
  intro vs us r rv;rw [Py] at r;cases r with
  | cons h r=>
   cases h;cases rv with
   | cons r1 r2=>
    obtain⟨t,rfl⟩:=r1;exact .cons y t (ih r r2)
theorem Jw:sT X "str.join" (λx xs H Q=>∃(O:Ex)(z:Str)(a:V)(ys:List Str),x= .str z/\xs=[a]/\Sh X.K H O a (.list (ys.map .str))/\(ys.map (·.length)).sum+ys.length*z.length<=16777216/\Q (.str (Txt.join z ys)) H):=by
 intro Ys s σ H x xs v us Q I rx rs h;obtain⟨O,z,a,ys,rfl,rfl,ha,hz,q⟩:=h;obtain⟨t,rfl⟩:=rx;obtain⟨u,rfl,ru⟩:=lj rs;obtain⟨l,vs,rfl,hl,dl⟩:=ha.lst;cases ru;obtain⟨its,rv,pl,_⟩:=I.list hl;exact join_list pl.isList (by simpa using Dm dl rv) hz λt' k=>⟨.str _,H,I.tok _,⟨_,rfl⟩,q⟩
def eM(to:DT)(t:DT):DT:=λδ Q=>to δ λx=>∃z:Str,x= .str z/\t δ λy=>∃(ys:List Str),y= .list (ys.map .str)/\(ys.map (·.length)).sum+ys.length*z.length<=16777216/\Q (.str (Txt.join z ys))
theorem mJ{o e:WI}{to t:DT}{apos cpos:Pos}(ho:DE X H0 O0 o to)(ha:DF X H0 O0 e t)(hbase:Xn o "join" X.env (eval o X.env)=eval o X.env:=by rfl)
 (hfew:((WZ cpos (WH [e] X.env)).all (λx=>!x.1) && (Yb cpos (XM [] X.env)).all (λx=>x.1.isSome) && decide ([e].length+([]:List XA).length+(if ([]:List XA).isEmpty then 0 else 1) < 30))=true:=by rfl)
 (hline:(apos.endLine==cpos.line)=true:=by rfl)(hst:WH [e] X.env=(false,eval e X.env)::WH [] X.env:=by rfl)(hplain:(WZ cpos (WH [] X.env)).any (·.1)=false:=by rfl):
 DE X H0 O0 (.Call (.Attribute o "join" apos) [e] [] cpos) (eM to t):=
 (sU SV UM UN Jw ho (aQ ha bM hst) hbase hfew hline hst hplain).imp λσ H Q uu57=>by obtain⟨O,δ,Qd,w,q,k⟩:=uu57;exact⟨O,δ,_,w,q,λx v H1 uu58 s1 r1=>by
  obtain⟨z,e,q1⟩:=uu58;subst e;cases r1;exact⟨rfl,O,δ,_,w.mono s1,q1,λy u H2 uu59 s2 r2=>by obtain⟨ys,e,hz,q2⟩:=uu59;subst e;exact⟨O,z,u,ys,rfl,rfl,r2,hz,k _ _ H2 q2 (s1.trans s2) (.str _)⟩⟩⟩
def eN:List Ww->(Ww->Prop)->Prop:=λds Q=>(∃i,ds=[.int i]/\Q (.int i))\/∃b,ds=[.bool b]/\Q (.int (if b then 1 else 0))
theorem uR{K:Pt}:nr K (λxs H Q=>(∃i,xs=[.int i]/\Q (.int i) H)\/∃k,xs=[.bl k]/\Q (.int (if k then 1 else 0)) H) eN:=λH O xs ds Qd R tr hs h k=>by
 rcases h with⟨i,e,q⟩ | ⟨b,e,q⟩ <;> subst e
 ·cases hs with
  | cons h r=>cases r;cases h.int;exact .inl ⟨i,rfl,k _ _ H q (aq.refl _) (.int _)⟩
 ·cases hs with
  | cons h r=>cases r;cases h.bl;exact .inr ⟨b,rfl,k _ _ H q (aq.refl _) (.int _)⟩
def eO(t:DA):DA:=λδ Q=>t δ λds=>∃xs,(ds=[.list xs]\/ds=[.tuple xs])/\Q xs
theorem qm{a:WI}{t:DA}{np p:Pos}(hg:Gl X "list")(hm:X.mg "list"=none)(hv:WU "list"=some (.type "list"))(ha:PA X [a] (mF X.K H0 O0 t))(he:WH [a] X.env=(false,eval a X.env)::WH [] X.env:=by rfl)(hpl:(WZ p (WH [] X.env)).any (·.1)=false:=by rfl):FE X H0 O0 (.Call (.Name "list" np) [a] [] p) (eO t):=
 (cE Ig hg hm hv ha (he:=he) (hpl:=hpl)).imp λσ H Q uu60=>by obtain⟨O,δ,Qd,w,q,k⟩:=uu60;exact⟨O,δ,_,w,q,λds vs H1 uu61 s1 r1=>by
  obtain⟨xs,e,q1⟩:=uu61;rcases e with e | e <;> subst e
  ·cases r1 with
   | cons h r=>
    cases r;obtain⟨a,us,rfl,h1,d1⟩:=h.lst;exact⟨a,us,rfl,.inl h1,λl hl=>k _ _ _ _ q1 s1 hl d1⟩
  ·cases r1 with
   | cons h r=>
    cases r;obtain⟨a,us,rfl,h1,d1⟩:=h.tup;exact⟨a,us,rfl,.inr h1,λl hl=>k _ _ _ _ q1 s1 hl d1⟩⟩
def gh(t:DT):DA:=λδ Q=>t δ λd=>∃xs,d= .list xs/\Q xs.reverse
end
section
variable {X:Cx} {Ys:List (WA×Obj)} {σ:St} {H:Hp} {s:WB}
theorem ag.swap{p:WA}{o':HO}(I:ag X Ys σ H s)(mu:sk (H p))(new:bL X.prog X.w (ao H p o') s.heap p o'):ag X Ys σ (ao H p o') s:=by
 have hp:∃o,H p=some o:=by
  cases e:H p with
  | none=>rw [e] at mu;exact mu.elim
  | some o=>exact⟨o,rfl⟩
 obtain⟨o,ho⟩:=hp;have nn:∀{b:WA},H b=none->b≠p:=λhb z=>by rw [z,ho] at hb;cases hb
 have nt:∀{b:WA}{xs:List V},H b=some (.tup xs)->b≠p:=λhb z=>by rw [z] at hb;rw [hb] at mu;exact mu
 have nw:∀{b y:WA},H b=some (.own y)->b≠p:=λhb z=>by rw [z] at hb;rw [hb] at mu;exact mu
 have nf:∀{b:WA}{ob:Obj}{u:HO},H b=some (.frz ob u)->b≠p:=λhb z=>by rw [z] at hb;rw [hb] at mu;exact mu
 have nc:∀{b:WA}{q:Str},H b=some (.cod q)->b≠p:=λhb z=>by rw [z] at hb;rw [hb] at mu;exact mu
 have nb:∀{b:WA}{ps:Array Wx},H b=some (.tbl ps)->b≠p:=λhb z=>by rw [z] at hb;rw [hb] at mu;exact mu
 have ub:=I.base;refine⟨I.ok,I.os,I.bare,⟨ub.keep,ub.slot,λb ob e n hx=>?_,ub.there,λb xs z=>?_,λb ob u z=>?_,λb ps z=>?_⟩,I.loc,I.cell,?_,λx c e=>?_,λq hq=>?_,λb u e=>?_,I.len⟩
 ·have:=ub.free b ob e n hx;rw [ay (nn this)];exact this
 ·have:=ub.tups b xs z;rw [ay (nt this)];exact this
 ·have:=ub.frzs b ob u z;rw [ay (nf this)];exact this
 ·obtain⟨m,this⟩:=ub.tbls b ps z;exact⟨m,by rw [ay (nb this)];exact this⟩
 ·rw [ay (nn I.free)];exact I.free
 ·have:=I.freeC x c e;rw [ay (nn this)];exact this
 ·obtain⟨a,b,c⟩:=I.pin q hq;exact⟨a,by rw [ay (nn b)];exact b,c⟩
 ·by_cases hb:b=p
  ·subst hb;rw [bx] at e;cases e;exact new
  ·rw [ay hb] at e;exact(I.hok b u e).stay (λ_ _ _ q=>q) (λc z=>by rw [ay (nw z)];exact z) (λc xs z=>by rw [ay (nt z)];exact z) λc xs z=>by rw [ay (nc z)];exact z
theorem ag.open{p:WA}(I:ag X Ys σ H s)(e:H p=some (oA p)):∃n,ag X Ys σ (ao H p (.lst [.int n])) s:=by
 obtain⟨⟨n,t,k,h⟩,_,_⟩:=(show bL X.prog X.w H s.heap p (oA p) from I.hok p _ e);exact⟨n,I.swap (by rw [e];exact RM) ⟨(show 1<=WG by decide),[.int n t],k,.cons ⟨t,rfl⟩ .nil,h⟩⟩
theorem ag.shut{p:WA}{n:Int}(I:ag X Ys σ H s)(e:H p=some (.lst [.int n])):ag X Ys σ (ao H p (oA p)) s:=by
 obtain⟨_,its,k,r,h⟩:=(show bL X.prog X.w H s.heap p (.lst [.int n]) from I.hok p _ e);cases r with
 | cons r1 r2=>
  cases r2;obtain⟨t,rfl⟩:=r1;refine I.swap (by rw [e];exact RM) ⟨⟨n,t,k,h⟩,⟨_,h⟩,λh1 h2 uu62 kk=>by obtain⟨n,t,k,z⟩:=uu62;exact⟨n,t,k,kk _ z⟩⟩
theorem bG.pack{st:List WQ}{t:TS}(h:bG X st t):bG X st (λD σ H=>∃p,H p=some (oA p)/\∀n,t {nx:=λσ' H'=>∃n',H' p=some (.lst [.int n'])/\D.nx σ' (ao H' p (oA p)),rt:=λv H'=>∃n',H' p=some (.lst [.int n'])/\D.rt v (ao H' p (oA p))} σ (ao H p (.lst [.int n]))):=by
 intro Ys s σ H D I ⟨p,e,q⟩;obtain⟨n,I1⟩:=I.open e;refine aC (h Ys s σ _ _ I1 (q n)) λf s1 z=>?_;cases f with
 | next=>obtain⟨σ',H',J,n',e',q'⟩:=z;exact⟨σ',_,J.shut e',q'⟩
 | ret u=>obtain⟨v,σ',H',J,r,n',e',q'⟩:=z;exact⟨v,σ',_,J.shut e',r,q'⟩
 | brk=>obtain⟨_,_,_,z⟩:=z;exact z.elim
 | cont=>obtain⟨_,_,_,z⟩:=z;exact z.elim
theorem bG.newPack{st:List WQ}{t:TS}(h:bG X st t):bG X st (λD σ H=>t {nx:=λ_ _=>False,rt:=λv H'=>∃p n,v= .ref p/\H' p=some (.lst [.int n])/\D.rt v (ao H' p (oA p))} σ H):=by
 intro Ys s σ H D I q;refine aC (h Ys s σ _ _ I q) λf s1 z=>?_;cases f with
 | next=>obtain⟨_,_,_,z⟩:=z;exact z.elim
 | ret u=>obtain⟨v,σ',H',J,r,p,n',e,e',q'⟩:=z;subst e;exact⟨_,σ',_,J.shut e',r,q'⟩
 | brk=>obtain⟨_,_,_,z⟩:=z;exact z.elim
 | cont=>obtain⟨_,_,_,z⟩:=z;exact z.elim
end
def Ac:List Ww->(Ww->Prop)->Prop:=λds Q=>∃z:Int,ds=[mh,.int z]/\0 < z/\z<=1000000/\∀i:Int,0<=i->i < z->Q (.int i)
def Jx:List Ww->(Ww->Prop)->Prop:=λds Q=>∃(ns:List Int)(i:Int),ds=[mD (ns.map .int),.int i]/\(∀z∈ns,Rn z<=1048576)/\0<=i/\i<=64/\Q mh
theorem aV{α:Type}{a:α}{l:List α}:atI (a::l) 0=some a:=nL (j:=0) rfl
theorem bw{α:Type}{a b:α}{l:List α}:atI (a::b::l) 1=some b:=nL (j:=1) rfl
theorem bX{α:Type}{a b c:α}{l:List α}:atI (a::b::c::l) 2=some c:=nL (j:=2) rfl
theorem cU{α:Type}{a b c d:α}{l:List α}:atI (a::b::c::d::l) 3=some d:=nL (j:=3) rfl
theorem eQ{α:Type}{a b c d e:α}{l:List α}:atI (a::b::c::d::e::l) 4=some e:=nL (j:=4) rfl
theorem eR{i:Int}:aS (.int i):=rfl
theorem eT{i:Bool}:aS (.bool i):=rfl
theorem gi:aS .none:=rfl
theorem aT{x y:Str}:PN (.str x) (.str y)=(x==y):=by simp [PN]
theorem cL{x y:Int}:PN (.int x) (.int y)=(x==y):=by simp [PN]
theorem eV{x y:Bool}:PN (.bool x) (.bool y)=(x==y):=by simp [PN]
theorem mi{x:Str}:aS (.str x)↔QX x=true:=by
 unfold aS PM;simp [QZ,Sk]
theorem pE{ds:List Ww}(h:aS (.tuple ds)):∀d∈ds,aS d:=by
 have h1:=Ro h;have h2:=UO h;have k:∀(ds:List Ww)(d:Ww),d∈ds->(Q6 ds=true->d.canLay0=true)/\d.depth<=Ry ds:=by
  intro ds
  induction ds with
  | nil=>intro d hd;simp at hd
  | cons e r ih=>
   intro d hd;rcases PH.mp hd with z | z
   ·subst z;refine⟨λq=>?_,?_⟩
    ·rw [Q6,Qh] at q;exact q.1
    ·rw [Ry];exact Nat.le_max_left _ _
   ·obtain⟨a,b⟩:=ih d z;refine⟨λq=>?_,?_⟩
    ·rw [Q6,Qh] at q;exact a q.2
    ·rw [Ry];exact Qz b (Nat.le_max_right _ _)
 intro d hd;obtain⟨a,b⟩:=k ds d hd;unfold aS PM;rw [Qh];refine⟨a (by simpa [QZ] using h1),decide_eq_true ?_⟩;rw [Sk] at h2;omega
theorem qc{n d:Nat}:HT.sIx n d none=d:=rfl
theorem oH{n d:Nat}{i:Int}(h0:0<=i)(h1:i<=n):HT.sIx n d (some i)=i.toNat:=by
 obtain⟨j,rfl⟩:=Q2 h0;rw [HT.sIx_nat,Q9];omega
theorem qo{xs:List Ww}{i:Int}(h0:0<=i)(h1:i<=xs.length):bA xs none (some i)=xs.take i.toNat:=by
 unfold bA;rw [qc,oH h0 h1];simp
theorem qp{xs:List Ww}{i:Int}(h0:0<=i)(h1:i<=xs.length):bA xs (some i) none=xs.drop i.toNat:=by
 unfold bA;rw [qc,oH h0 h1,RJ (by rw [RW];exact PQ _)]
theorem Ad{lo:Int}{n i:Nat}{x:Ww}(h:(lq lo n)[i]?=some x):i < n/\x= .int (lo+i):=by
 unfold lq at h;rw [Rx] at h;by_cases hi:i < n
 ·rw [List.getElem?_range hi] at h;exact⟨hi,(Rk h).symm⟩
 ·rw [Sf (by simpa using hi)] at h;cases h
theorem Ae{lo:Int}{n:Nat}:(lq lo n).length=n:=by unfold lq;simp
section
variable {X:Cx} {Ys:List (WA×Obj)} {σ:St} {H:Hp} {s:WB} {a:WA} {y v:V} {u r:Wx} {o:Option V} {A:WR} {E:Wx->WB->Prop}
theorem ag.big(I:ag X Ys σ H s):sysModules < s.heap.objs.size:=by
 have h:WK < s.heap.objs.size:=(I.mod.glob.keeps I.bk).lt;exact Vk tx h
end
theorem Jy{P:WM}{w:WO}{H:Hp}(h:WL)(hb:sysModules < h.objs.size):bL P w H (h.push {cls:= .type "dict",data:= .dict #[]}) h.objs.size (.dK []):=
 ⟨Rv _,beq_eq_false_iff_ne.mpr (Ne.symm (QN hb)),[],.nil,Wr h⟩
def Jz:TE:=λ_ H Q=>∀p,H p=none->Q (.ref p) (ao H p (.dK []))
section
variable {X:Cx} {pos:Pos}
theorem JA:PE X (.Dict [] [] pos) Jz:=λYs s σ H Q I h=>
 wpAny_Dict_empty ⟨.ref s.heap.objs.size,_,I.laid (a:=s.heap.objs.size) (o:= .dK []) (t':=s.toks) (λ_ _ q=>PB _ q) (PQ _) (Jy s.heap I.big),rfl,h _ (I.hok.fresh (PQ _))⟩
end
section
variable {X:Cx} {H0:Hp} {O0:Ex}
def gj(a b c d:Str)(t:DT):DT:=λδ Q=>t δ λy=>(y= .str a/\Q (.str c))\/(y= .str b/\Q (.str d))
def litsOf:List WI->Option (List Ww)
 | []=>some []
 | .Constant (.int i) _ _::r=>(litsOf r).map (.int i::·)
 | .Constant (.str x) _ _::r=>(litsOf r).map (.str x::·)
 | _::_=>none
def cV(ds:List Ww):DA:=λ_ Q=>Q ds
theorem nA:∀{es:List WI}{ds:List Ww},litsOf es=some ds->PA X es (mE X.K H0 O0 (cV ds))
 | [],ds,h=>by cases h;exact ah
 | e::r,ds,h=>by
  cases e with
  | Constant c j p=>
   cases c with
   | int i=>
    have h':(litsOf r).map (.int i::·)=some ds:=h;cases q:litsOf r with
    | none=>rw [q] at h';cases h'
    | some ms=>rw [q] at h';cases h';exact aa ae (nA q)
   | str x=>
    have h':(litsOf r).map (.str x::·)=some ds:=h;cases q:litsOf r with
    | none=>rw [q] at h';cases h'
    | some ms=>rw [q] at h';cases h';exact aa aw (nA q)
   | _=>cases h
  | _=>cases h
def litsE:WI->Option (List Ww)
 | .List es _=>litsOf es
 | _=>none
theorem qr{e:WI}{ds:List Ww}(h:litsE e=some ds):FE X H0 O0 e (cP (cV ds)):=by
 cases e with
 | List es p=>exact bz (nA h)
 | _=>cases h
theorem Dn{e:WI}{ds:List Ww}{x:Option WI}{n:Nat}{env:Env}(h:litsE e=some ds):W7 e x n env=pure false:=by
 cases e with
 | List es p=>rfl
 | _=>cases h
end
theorem nQ{x:Str}:QX x=true↔∀c∈x.cps.toList,c < 0x110000:=by
 unfold QX;rw [<-Array.all_toList,Rj];simp
theorem tq(x y:Str):(x++y).cps=x.cps++y.cps:=rfl
theorem pF(x y:Str):(x++y).length=x.length+y.length:=by
 show(x.cps++y.cps).size=_;rw [Um];rfl
theorem JB{a b:Str}{c d:Nat}(h:a++⟨#[c]⟩++b=a++⟨#[d]⟩++b):c=d:=by
 have h1:=congrArg (λs:Str=>s.cps.toList) h;simp only [tq,Sn] at h1;have h2:=List.append_cancel_right h1;have h3:=List.append_cancel_left h2;simpa using h3
def lu:Str:="abcdefghijklmnopqrstuvwxyz"
theorem JC:lu.cps.toList.length=26:=td
theorem JD:lu.cps.toList.Nodup:=td
theorem tu:∀c∈lu.cps.toList,c < 0x110000:=td
theorem tD{j:Int}(h0:0<=j)(h1:j < 26):∃c,atI lu.cps.toList j=some c/\lu.cps.toList[j.toNat]?=some c/\c < 0x110000:=by
 obtain⟨k,rfl⟩:=Q2 h0;have hk:k < lu.cps.toList.length:=by rw [JC];omega
 refine⟨lu.cps.toList[k],nL (by simp [hk]),by simp [hk],tu _ (Sb hk)⟩
def l9(j:Int):Nat:=(lu.cps.toList[j.toNat]?).getD 0
theorem JE{j:Int}(h0:0<=j)(h1:j < 26):atI lu.cps.toList j=some (l9 j)/\l9 j < 0x110000:=by
 obtain⟨c,e1,e2,e3⟩:=tD h0 h1;have:l9 j=c:=by unfold l9;rw [e2];rfl
 rw [this];exact⟨e1,e3⟩
theorem JF{i j:Int}(h0:0<=i)(h1:i < 26)(g0:0<=j)(g1:j < 26)(e:l9 i=l9 j):i=j:=by
 obtain⟨c,_,e2,_⟩:=tD h0 h1;obtain⟨d,_,e4,_⟩:=tD g0 g1;have a:l9 i=c:=by unfold l9;rw [e2];rfl
 have b:l9 j=d:=by unfold l9;rw [e4];rfl
 have cd:c=d:=by rw [<-a,<-b,e]
 subst cd;have hi:i.toNat < lu.cps.toList.length:=(Qu.mp e2).1;have:=(Vt (l:=lu.cps.toList) (i:=i.toNat) (j:=j.toNat) hi JD).mp (by rw [e2,e4]);omega
structure kN (n:Nat) (d:Ww):Prop where
 can:d.canLay0=true
 dep:d.depth<=n
theorem kN.shp{n:Nat}{d:Ww}(h:kN n d)(hn:n<=64):PM d=true:=by
 unfold PM;rw [h.can,decide_eq_true (Qz h.dep hn)];rfl
theorem kN.mono{n m:Nat}{d:Ww}(h:kN n d)(hn:n<=m):kN m d:=⟨h.can,Qz h.dep hn⟩
theorem Dp{x:Str}(h:QX x=true):kN 1 (.str x):=⟨by simpa [QZ] using h,by simp [Sk]⟩
theorem JG{i:Int}:kN 1 (.int i):=⟨by simp [QZ],by simp [Sk]⟩
theorem JH{i:Bool}:kN 1 (.bool i):=⟨by simp [QZ],by simp [Sk]⟩
theorem Dq{n:Nat}:∀{ds:List Ww},(∀d∈ds,kN n d)->Q6 ds=true/\Ry ds<=n
 | [],_=>⟨by simp [Q6],by simp [Ry]⟩
 | d::r,h=>by
  obtain⟨a,b⟩:=Dq (ds:=r) λe he=>h e (by simp [he]);have c:=h d Wv;refine⟨by rw [Q6,c.can,a];rfl,?_⟩;rw [Ry];exact Nat.max_le.mpr ⟨c.dep,b⟩
theorem mU{n:Nat}{ds:List Ww}(h:∀d∈ds,kN n d):kN (n+1) (.tuple ds):=by
 obtain⟨a,b⟩:=Dq h;refine⟨by simpa [QZ] using a,?_⟩;rw [Sk];omega
section
variable {X:Cx} {pos:Pos}
def Dr(K:Pt)(n:Nat)(t:mx):TG:=λv σ H Q=>∃a xs,v= .ref a/\bg K H a xs/\xs.length=n/\t xs σ H Q
theorem JI{es:List WI}{k:Nat}{t:mx}{n:Nat}(hc:X.calm=true)(h:sC X es t)
 (hn:(Xq es X.env).length=n:=by rfl)(hst:(Xq es X.env).findIdx? (·.1)=none:=by rfl):PG X (.Tuple es k pos) (Dr X.K n t):=by
 intro Ys s σ H v u Q I r hw;obtain⟨a,xs,e1,hq,hl,hw⟩:=hw;subst e1;cases r;obtain⟨its,rv,⟨o,n',ho,hcls,hd,hdata⟩,hz⟩:=I.list hq;have hlst:s.heap.IsList a its.toArray:=⟨o,ho,hcls,n',hdata⟩;rw [assign_Tuple];refine Wy (Xz ?_);unfold unpack;have hn':(Xq es X.env).length=its.toArray.size:=by simp [hn,<-hl,rv.length]
 rw [hn',hst];refine Wy (W3 (PySem.W.kun_itemsOf (I.ok.hd hc) hlst λh' hx=>?_));have I1:ag X Ys σ H {s with heap:=h'}:=I.kept (t':=s.toks) λb o e=>hx b o (QN (PX e)) e;exact h Ys _ σ H xs _ Q I1 (by simpa using rv) hw
def Ds(n:Nat)(t:oC):DG:=λx δ Q=>∃xs,x= .list xs/\xs.length=n/\t xs δ Q
theorem JJ{K:Pt}{n:Nat}{t:mx}{dt:oC}(h:tf K t dt):GD K (Dr K n t) (Ds n dt):=λH0 O0 H O σ δ v x R Qd w r uu63 k=>by
 obtain⟨xs,e,hl,q⟩:=uu63;subst e;obtain⟨a,vs,rfl,hs,rr⟩:=(Sh.dt r).lst;exact⟨a,vs,rfl,hs,by rw [rr.length];exact hl,h H0 O0 H O σ δ _ _ R Qd w rr q k⟩
end
def PU(X:Cx)(e:WI)(te:TE):Prop:=∀(i:Nat)(x:Str)(pos' spos:Pos)(hN:X.N.Nodup)(hxi:X.N[i]?=some x)(hx:nI X.env.scope x)(hsw:W7 e (some (.Name x pos')) spos.line X.env=pure true)
 (hfn:X.fn x=true\/X.env.scope.names.lookup x=some .local),PS X (.Assign [.Name x pos'] e spos) (qP te (ni i))
theorem PU.imp{X:Cx}{e:WI}{t u:TE}(h:PU X e t)(i:∀σ H Q,u σ H Q->t σ H Q):PU X e u:=λi' x p1 p2 hN hxi hx hsw hfn=>(h i' x p1 p2 hN hxi hx hsw hfn).imp λD σ H z=>i σ H _ z
section
variable {X:Cx} {H0:Hp} {O0:Ex}
section
variable {tg iter elt:WI} {ifs:List WI} {scope:W5} {N':List Str} {k:Nat} {fr:List Nat} {g:TG} {dg:DG} {t:DT} {ta:DA} {tc:DB} {te:DT} {pos p ps:Pos}
theorem JK{wi:TI}{tc:TT}{te:TE}(hc:X.calm=true)(S:bR X.env.scope X.N N' k fr scope)(hi:PI X tg iter wi)
 (hg:∀fp C s H,PG (bW X scope N' fp C s H) tg g)(hf:∀fp C s H,l6 (bW X scope N' fp C s H) ifs tc)(he:∀fp C s H,PE (bW X scope N' fp C s H) elt te)
 (hs:∀x,WT iter X.env x=pure x:=by intro _;rfl):PU X (.ListComp elt [⟨tg,iter,ifs,0⟩] scope pos) (pj wi g tc te k fr):=
 λ_ _ _ _ hN hxi hx hsw hfn=>IF hN hxi hx hc S hi hg hf he hsw hs hfn
theorem JL(hc:X.calm=true)(S:bR X.env.scope X.N N' k fr scope)(hi:DF X H0 O0 iter t)(gd:GD X.K g dg)(hk:oE g k)(hfr:fr.Nodup)
 (hg:∀fp C s H,PG (bW X scope N' fp C s H) tg g)(hf:∀fp C s H,l6 (bW X scope N' fp C s H) ifs (j6 X.K H0 O0 tc))(he:∀fp C s H,PE (bW X scope N' fp C s H) elt (up X.K H0 O0 te))
 (hs:∀x,WT iter X.env x=pure x:=by intro _;rfl):PU X (.ListComp elt [⟨tg,iter,ifs,0⟩] scope pos) (uN X.K H0 O0 (cI t dg tc te k fr)):=
 (JK hc S (uq hi) hg hf he hs).imp λσ H Q uu64=>by obtain⟨O,δ,Qd,w,q,kk⟩:=uu64;exact⟨O,δ,_,w,q,λd v H1 uu65 s1 r1=>by
  obtain⟨xs,e,hz,q1⟩:=uu65;subst e;obtain⟨a,vs,rfl,hq,rr⟩:=r1.lst;refine⟨a,rfl,⟨_,hq⟩,λD hD=>qW (kM.list hq) gd hfr (λv _ H' R h=>hk fr σ v H' R h) (λ_ _ _ z=>z) (λ_ _ _ z=>z) (λD H' hD s' o e=>s' _ _ e (kz e hD)) rr (w.mono s1) (by rw [rr.length];exact hz) q1 (λds us p H' z s' hp r'=>kk ds us p H' z (s1.trans s') hp r') D hD⟩⟩
end
theorem JM{i:Nat}{x:Str}{e:WI}{t:DA}{pos pos':Pos}(hN:X.N.Nodup)(hi:X.N[i]?=some x)(hx:nI X.env.scope x)(he:PU X e (uN X.K H0 O0 t))(hs:W7 e (some (.Name x pos')) pos.line X.env=pure true:=by rfl)(hf:X.fn x=true\/X.env.scope.names.lookup x=some .local:=by first | exact .inl rfl | exact .inr rfl | assumption):
 PS X (.Assign [.Name x pos'] e pos) (cF X.K H0 O0 (cO i (dL t))):=
 (he _ _ _ _ hN hi hx hs hf).imp λD σ H ⟨O,δ,E,w,q,k1,k2,k3,k4⟩=>⟨O,δ,_,w,q,λds vs p H1 q1 s1 hp r1=>
  k1 O _ _ _ q1 ((w.mono (s1.trans (aq.new hp))).set (.lst (.inl bx) (sX w s1 hp) (r1.mono (aq.new hp)))) (.same (s1.trans (aq.new hp)))⟩
end
mutual
theorem Du:∀d e:Ww,PN d e=PN e d
 | .list xs,.list ys=>by rw [PN,PN];exact uS xs ys
 | .tuple xs,.tuple ys=>by rw [PN,PN];exact uS xs ys
 | .bool _,.bool _ | .int _,.int _ | .str _,.str _=>by simp only [PN];exact T1
 | .bool a,.int j | .int j,.bool a=>by simp only [PN];exact T1
 | .none,.none=>rfl
 | .dict _,.dict _=>by simp only [PN]
 | .none,.bool _ | .none,.int _ | .none,.str _ | .none,.list _ | .none,.tuple _ | .none,.dict _=>by simp only [PN]
 | .bool _,.none | .bool _,.str _ | .bool _,.list _ | .bool _,.tuple _ | .bool _,.dict _=>by simp only [PN]
 | .int _,.none | .int _,.str _ | .int _,.list _ | .int _,.tuple _ | .int _,.dict _=>by simp only [PN]
 | .str _,.none | .str _,.bool _ | .str _,.int _ | .str _,.list _ | .str _,.tuple _ | .str _,.dict _=>by simp only [PN]
 | .list _,.none | .list _,.bool _ | .list _,.int _ | .list _,.str _ | .list _,.tuple _ | .list _,.dict _=>by simp only [PN]
 | .tuple _,.none | .tuple _,.bool _ | .tuple _,.int _ | .tuple _,.str _ | .tuple _,.list _ | .tuple _,.dict _=>by simp only [PN]
 | .dict _,.none | .dict _,.bool _ | .dict _,.int _ | .dict _,.str _ | .dict _,.list _ | .dict _,.tuple _=>by simp only [PN]
theorem uS:∀xs ys:List Ww,Rg xs ys=Rg ys xs
 | [],[]=>rfl
 | x::xs,y::ys=>by rw [Rg,Rg,Du x y,uS xs ys]
 | [],_::_=>by rw [Rg,Rg]
 | _::_,[]=>by rw [Rg,Rg]
end
def Af(z:Str):It:=⟨λi _=>i < z.cps.size,λi H x H'=>H'=H/\∃c,z.cps[i]?=some c/\x= .str ⟨#[c]⟩,λi _=>z.cps.size<=i⟩
theorem JN(z:Str):["enumerate","zip","dict_itemiterator","dict_reverseitemiterator","odict_iterator","itertools.zip_longest","itertools.pairwise"].contains (XW z)=false:=by
 unfold XW;split <;> decide
theorem Dv{P:WM}{w:WO}{A:WR}(hh:A.handled=none)(I:WA)(z:Str)(t:Tok):Walks P w A I [I] [I] z.cps.size (SignAt z) (λi h=>h.IsStrIter I (XW z) z t i):=by
 unfold XW;split
 ·exact Walks.strAscii hh I z t
 ·exact Walks.strWide hh I z t
theorem JO{P:WM}{w:WO}{K:Pt}{tg:WI}(it:WA)(z:Str)(t:Tok):pZ P w K tg (Af z) [it] it (λi h=>h.IsStrIter it (XW z) z t i/\i<=z.cps.size) where
 mem:=Wv
 obj:=λi h st b hb=>by
  have e:b=it:=by simpa using hb
  subst e;obtain⟨⟨o,e,c,d⟩,_⟩:=st;exact⟨o,e,λv z=>by rw [d] at z;cases z⟩
 keep:=λi h h' st k=>by
  obtain⟨⟨o,e,c,d⟩,l⟩:=st;exact⟨⟨o,k it Wv o e,c,d⟩,l⟩
 item:=by
  intro X hP hw hK hc i Ys s σ H E I hf st hg;subst hP hw hK;obtain⟨f0,f1,f2,f3,f4,f5⟩:=hf it Wv;have W:=Dv (P:=X.prog) (w:=X.w) (I.ok.hd hc) it z t;refine W.item i s _ _ hg st.1 λv h' tk hv st' kk=>?_;obtain⟨c,u,hc',rfl⟩:=hv;have I1:ag X Ys σ H {s with heap:=h',toks:=tk}:=I.turned (λb o hb e=>kk b o (by simpa using hb) e) f0 f1 f3 f4 f5;obtain⟨o,e,cc,d⟩:=id st';exact⟨_,rfl,uo (s:={s with heap:=h',toks:=tk}) e cc d (JN z) ⟨.str ⟨#[c]⟩,H,I1,⟨u,rfl⟩,⟨rfl,c,hc',rfl⟩,⟨st',hg⟩,λb hb=>(hf b hb).1⟩⟩
 done:=by
  intro X hP hw hK hc i Ys s σ H E I hf st hg;subst hP hw hK;obtain⟨f0,f1,f2,f3,f4,f5⟩:=hf it Wv;have W:=Dv (P:=X.prog) (w:=X.w) (I.ok.hd hc) it z t;have e:i=z.cps.size:=Nat.le_antisymm st.2 hg;subst e;exact W.done s _ _ st.1 λh' tk eb=>⟨rfl,I.turned (λb o hb e=>eb b o (by simpa using hb) e) f0 f1 f3 f4 f5⟩
 self:=λA i s Q E st h=>by
  obtain⟨st,_⟩:=st
  revert st
  unfold XW;split
  ·exact λst=>wpAny_pyIter_striter_ascii st h
  ·exact λst=>wpAny_pyIter_striter_wide st h
def JP(tl:TE):TI:=λσ H R=>tl σ H λx H1=>∃z,x= .str z/\R (Af z) H1
theorem JQ{X:Cx}{tg l:WI}{tl:TE}(hl:PE X l tl):PI X tg l (JP tl):=by
 intro Ys s σ H R I h;refine aC (hl Ys s σ H _ I h) λv s1 ⟨x,H1,I1,r1,q1⟩=>?_;obtain⟨z,e,q⟩:=q1;subst e;obtain⟨t,rfl⟩:=r1;refine wpAny_pyIter_strU ?_;refine⟨s1.heap.objs.size,[s1.heap.objs.size],_,_,H1,rfl,I1.kept (t':=s1.toks) λb o e=>PB _ e,JO _ z t,⟨⟨_,Qi _ rfl,rfl,rfl⟩,Rv _⟩,λb hb=>?_,q⟩;have e:b=s1.heap.objs.size:=by simpa using hb
 subst e;exact I1.fpOk (PQ _) (I1.hok.fresh (PQ _))
def qY(z:Str):List Ww:=z.cps.toList.map λc=>.str ⟨#[c]⟩
theorem kM.str{z:Str}:kM (Af z) (λ_=>True) (z.cps.toList.map λc=>V.str ⟨#[c]⟩):=by
 refine⟨λi H' s hi=>(by simpa using hi:i < z.cps.size),λi H' x H'' s hi y=>⟨y.1,?_⟩,λi H' s hi=>(by simpa using hi:z.cps.size<=i)⟩;obtain⟨_,c,hc,rfl⟩:=y;simp [hc]
theorem au.signs{K:Pt}{H:Hp}{O:Ex}:∀(l:List Nat),au K H O (l.map λc=>V.str ⟨#[c]⟩) (l.map λc=>Pu ⟨#[c]⟩)
 | []=>.nil
 | n::r=>.cons (.str _) (au.signs r)
section
variable {X:Cx} {H0:Hp} {O0:Ex}
def eX(t:DT)(g:DG)(tc:DB)(te:DT)(k:Nat)(fr:List Nat):DA:=λδ Q=>t δ λd=>∃z,d= .str z/\z.length<=WG/\mG g tc te (bp k fr δ) (qY z) Q
def eY(ta:DA)(g:DG)(tc:DB)(te:DT)(k:Nat)(fr:List Nat):DA:=λδ Q=>ta δ λds=>∃i j:Int,ds=[.int i,.int j]/\-(2 ^ 62)<=i/\j - i < WG/\i < 2 ^ 62/\-(2 ^ 62)<=j/\j < 2 ^ 62/\mG g tc te (bp k fr δ) (lq i (j - i).toNat) Q
section
variable {tg iter elt:WI} {ifs:List WI} {scope:W5} {N':List Str} {k:Nat} {fr:List Nat} {g:TG} {dg:DG} {t:DT} {ta:DA} {tc:DB} {te:DT} {pos p ps:Pos}
theorem uT(hc:X.calm=true)(S:bR X.env.scope X.N N' k fr scope)(hi:DF X H0 O0 iter t)(gd:GD X.K g dg)(hk:oE g k)(hfr:fr.Nodup)
 (hg:∀fp C s H,PG (bW X scope N' fp C s H) tg g)(hf:∀fp C s H,l6 (bW X scope N' fp C s H) ifs (j6 X.K H0 O0 tc))(he:∀fp C s H,PE (bW X scope N' fp C s H) elt (up X.K H0 O0 te))
 (hs:∀x,WT iter X.env x=pure x:=by intro _;rfl):FE X H0 O0 (.ListComp elt [⟨tg,iter,ifs,0⟩] scope pos) (eX t dg tc te k fr):=
 (qg hc S (JQ hi) hg hf he hs).imp λσ H Q uu68=>by obtain⟨O,δ,Qd,w,q,kk⟩:=uu68;exact⟨O,δ,_,w,q,λd v H1 uu69 s1 r1=>by
  obtain⟨z,e,hz,q1⟩:=uu69;subst e;cases r1.str;have hz':(z.cps.toList.map λc=>V.str ⟨#[c]⟩).length<=WG:=by rw [PD,P2];exact hz
  exact⟨z,rfl,λD hD=>qW (P:=λ_=>True) kM.str gd hfr (λv _ H' R h=>hk fr σ v H' R h) (λ_ _ _ z=>z) (λ_ _ _ z=>z) (λ_ _ _ _=>trivial) (au.signs _) (w.mono s1) hz' q1 (λds us p H' z s' hp r'=>kk ds us p H' z (s1.trans s') hp r') D hD⟩⟩
theorem Ag(hc:X.calm=true){a b:WI}(S:bR X.env.scope X.N N' k fr scope)(hgl:Gl X "range")(hm:X.mg "range"=none)(ha:PA X [a,b] (mF X.K H0 O0 ta))(gd:GD X.K g dg)(hk:oE g k)(hfr:fr.Nodup)
 (hg:∀fp C s H,PG (bW X scope N' fp C s H) tg g)(hf:∀fp C s H,l6 (bW X scope N' fp C s H) ifs (j6 X.K H0 O0 tc))(he:∀fp C s H,PE (bW X scope N' fp C s H) elt (up X.K H0 O0 te))
 (hst:WH [a,b] X.env=[(false,eval a X.env),(false,eval b X.env)]:=by rfl)(hst2:WH [b] X.env=[(false,eval b X.env)]:=by rfl)(hs:∀x,WT (.Call (.Name "range" p) [a,b] [] ps) X.env x=pure x:=by intro _;rfl):
 FE X H0 O0 (.ListComp elt [⟨tg,(.Call (.Name "range" p) [a,b] [] ps),ifs,0⟩] scope pos) (eY ta dg tc te k fr):=
 (qg hc S (B9 hgl hm ha hst hst2) hg hf he hs).imp λσ H Q uu70=>by obtain⟨O,δ,Qd,w,q,kk⟩:=uu70;exact⟨O,δ,_,w,q,λds vs H1 uu71 s1 r1=>by
  obtain⟨i,j,e,b1,b2,b3,b4,b5,q1⟩:=uu71;subst e;cases r1 with
  | cons r1 r2=>
   cases r2 with
   | cons r2 r3=>
    cases r3;cases r1.int;cases r2.int;exact⟨i,j,rfl,⟨b1,b3,b4,b5⟩,λD hD=>qW (P:=λ_=>True) kM.rng gd hfr (λv _ H' R h=>hk fr σ v H' R h) (λ_ _ _ z=>z) (λ_ _ _ z=>z) (λ_ _ _ _=>trivial) (au.rng _) (w.mono s1) (by rw [PD,SY];omega) q1 (λds us p H' z s' hp r'=>kk ds us p H' z (s1.trans s') hp r') D hD⟩⟩
end
def Ah(K:Pt)(neg:Bool):R2:=λx y H Q=>∃O dx ds dy,Sh K H O x dx/\Sh K H O y dy/\(dy= .list ds\/dy= .tuple ds)/\aS dx/\Q6 ds=true/\Q (.bl (if neg then !(ds.any λd=>PN d dx) else ds.any λd=>PN d dx)) H
theorem uU{A:WR}{k:Nat}{xs:List Ww}{d:Ww}(hd:aS d)(hr:bQ k A):A.units+1+min (Ry xs) d.depth < cLine:=by
 have:=UO hd;have h1:min (Ry xs) d.depth<=d.depth:=VC _ _;have:=hr.un;omega
theorem oI{k:Nat}(hr:bQ k X.A):bD X (WS .In) (Ah X.K false):=by
 intro Ys s σ H x y v u Q I rx ry h;obtain⟨O,dx,ds,dy,hx,hy,e,sx,sy,q⟩:=h;obtain⟨as,ra⟩:=nk I hx.all (Ro sx) rx;rcases e with e | e <;> subst e
 ·obtain⟨bs,rb⟩:=nk I hy.all (by simpa [QZ] using sy) ry;exact SeqAt.in_list_reads rb ra sy (Ro sx) (uU sx hr) (bH I q rfl)
 ·obtain⟨bs,rb⟩:=nk I hy.all (by simpa [QZ] using sy) ry;exact SeqAt.in_tuple_reads rb ra sy (Ro sx) (uU sx hr) (bH I q rfl)
theorem Ai{k:Nat}(hr:bQ k X.A):bD X (WS .NotIn) (Ah X.K true):=by
 intro Ys s σ H x y v u Q I rx ry h;obtain⟨O,dx,ds,dy,hx,hy,e,sx,sy,q⟩:=h;obtain⟨as,ra⟩:=nk I hx.all (Ro sx) rx;rcases e with e | e <;> subst e
 ·obtain⟨bs,rb⟩:=nk I hy.all (by simpa [QZ] using sy) ry;exact SeqAt.notIn_list_reads rb ra sy (Ro sx) (uU sx hr) (bH I q rfl)
 ·obtain⟨bs,rb⟩:=nk I hy.all (by simpa [QZ] using sy) ry;exact SeqAt.notIn_tuple_reads rb ra sy (Ro sx) (uU sx hr) (bH I q rfl)
def eZ(neg:Bool):Ww->Ww->(Ww->Prop)->Prop:=λx y Q=>∃ds,(y= .list ds\/y= .tuple ds)/\aS x/\Q6 ds=true/\Q (.bool (if neg then !(ds.any λd=>PN d x) else ds.any λd=>PN d x))
theorem mV{K:Pt}{neg:Bool}:j7 K (Ah K neg) (eZ neg):=λH O x y dx dy Qd R _ hx hy uu72 k=>by obtain⟨ds,e,a,b,q⟩:=uu72;exact⟨O,dx,ds,dy,hx,hy,e,a,b,k _ _ H q (aq.refl _) (.bl _)⟩
def ff:List Ww->(Ww->Prop)->Prop:=λds Q=>∃z:Str,ds=[.str z]/\z.length<=WG/\Q (.int z.length)
theorem oJ{K:Pt}:nr K (λxs H Q=>∃z,xs=[.str z]/\z.length<=WG/\Q (.int z.length) H) ff:=λH O xs ds Qd R _ hs uu73 k=>by
 obtain⟨z,e,hz,q⟩:=uu73;subst e;cases hs with
 | cons h r=>cases r;cases h.str;exact⟨z,rfl,hz,k _ _ H q (aq.refl _) (.int _)⟩
def fg:Ww->Ww->(Ww->Prop)->Prop:=λx y Q=>∃i j:Str,x= .str i/\y= .str j/\Q (.bool (decide (i.cps.toList < j.cps.toList)))
theorem JR{K:Pt}:j7 K (λx y H Q=>∃i j,x= .str i/\y= .str j/\Q (.bl (decide (i.cps.toList < j.cps.toList))) H) fg:=λH O x y dx dy Qd R _ hx hy uu74 k=>by
 obtain⟨i,j,e1,e2,q⟩:=uu74;subst e1 e2;cases hx.str;cases hy.str;exact⟨i,j,rfl,rfl,k _ _ H q (aq.refl _) (.bl _)⟩
def fh:Ww->Ww->(Ww->Prop)->Prop:=λx y Q=>∃i j:Str,x= .str i/\y= .str j/\Q (.bool (!(R1 j i 0 j.length 1).isEmpty))
theorem uV{K:Pt}:j7 K (λx y H Q=>∃i j,x= .str i/\y= .str j/\Q (.bl (!(R1 j i 0 j.length 1).isEmpty)) H) fh:=λH O x y dx dy Qd R _ hx hy uu75 k=>by
 obtain⟨i,j,e1,e2,q⟩:=uu75;subst e1 e2;cases hx.str;cases hy.str;exact⟨i,j,rfl,rfl,k _ _ H q (aq.refl _) (.bl _)⟩
theorem JS{prog:WM}{w:WO}{A:WR}{E:Wx->WB->Prop}{s:WB}{t sl:WA}{items:Array Wx}{vl vu:Wx}{lo hi:Option Int}{Q:Wx->WB->Prop}(ht:IsTup s.heap t items)(hs:s.heap.IsSliceOf sl vl vu .none)(pl:IsPart vl lo)(pu:IsPart vu hi)
 (hw:HT.sIx items.size 0 lo=0/\HT.sIx items.size items.size hi=items.size)(h:Q (.ref t) s):WD (WE prog w) A (X5 (.ref t) (.ref sl)) Q E s:=by
 obtain⟨os,hos,hcs,hds⟩:=id hs;have hTs:s.TypeIs (.ref sl) "slice":=⟨os,hos,hcs⟩;unfold X5
 try with_reducible refine W3 ?_
 first | refine Wy (WC ?_) | skip
 refine Wy (wpAny_sequenceKey ht.typeIs tx ?_);refine Wy (WX (name:=Pr "__getitem__") ht.typeIs Si
  (W0 Si ht.typeIs PyProof.Rows.entry_tuple_getitem ?_ (PyProof.Rows.args_tuple_getitem _ _)))
 show WD _ _ (Uc (.ref t) >>=_) _ _ s;refine Wy (tupleItemsOf_ ht ?_);refine Wy (X9 hTs ?_);rw [Wt tx];refine Wy (HT.sliceApplied_gen hs pl pu ?_);show WD _ _ (if (((HT.sIx items.size 0 lo:Nat):Int)==0 && (1:Int)==1 && (HT.sIx items.size items.size hi - HT.sIx items.size 0 lo)==items.size)=true then _ else _) _ _ s;rw [Wt (by rw [hw.1,hw.2];simp)];unfold Builtin.Tuple.tupleIsExact;refine Wy (Wy (X9 ht.typeIs (WC ?_)));rw [Wt tx];exact Wy (XF (WC ⟨_,rfl,WC h⟩))
def JT(K:Pt):V->Option Int->Option Int->Hp->VK->Prop:=λx lo hi H Q=>∃a xs,x= .ref a/\aZ K H a xs/\
 ((HT.sIx xs.length 0 lo=0/\HT.sIx xs.length xs.length hi=xs.length)->Q x H)/\(¬(HT.sIx xs.length 0 lo=0/\HT.sIx xs.length xs.length hi=xs.length)->∀p,H p=none->Q (.ref p) (ao H p (.tup (oq xs lo hi))))
theorem JU:sS X (JT X.K):=by
 intro Ys s σ H x v vl vu lo hi sl Q I rx hs pl pu h;obtain⟨a,xs,rfl,hx,q1,q2⟩:=h;by_cases hw:HT.sIx xs.length 0 lo=0/\HT.sIx xs.length xs.length hi=xs.length
 ·cases rx;obtain⟨its,r,ht,hz⟩:=I.tuple hx;have hlen:its.toArray.size=xs.length:=by rw [Qt];exact r.length.symm
  refine⟨"tuple",_,Si.lookup,ht.typeIs,?_⟩;exact JS ht hs pl pu (by rw [hlen];exact hw) ⟨.ref a,H,I,rfl,q1 hw⟩
 ·exact HU Ys s σ H _ v vl vu lo hi sl Q I rx hs pl pu ⟨a,xs,rfl,hx,hw,q2 hw⟩
theorem JV{xs:List Ww}{l u:Option Int}(h:HT.sIx xs.length 0 l=0/\HT.sIx xs.length xs.length u=xs.length):bA xs l u=xs:=by
 unfold bA;rw [h.1,h.2];simp
def fj(t:DT)(tl th:DO):DT:=λδ Q=>t δ λd=>tl δ λl=>th δ λu=>∃xs,d= .tuple xs/\Q (.tuple (bA xs l u))
theorem tE{e:WI}{lo hi:Option WI}{t:DT}{tl th:DO}{pos p2:Pos}(h:DF X H0 O0 e t)(hl:PO X lo (oG X.K H0 O0 tl))(hu:PO X hi (oG X.K H0 O0 th)):DE X H0 O0 (.Subscript e (.Slice lo hi none p2) pos) (fj t tl th):=
 (xS JU h hl hu).imp λσ H Q ⟨O,δ,Qd,w,q,k⟩=>⟨O,δ,_,w,q,λd v H1 q1 s1 r1=>⟨O,δ,_,w.mono s1,q1,λl H2 q2 s2=>⟨O,δ,_,w.mono (s1.trans s2),q2,λu H3 uu77 s3=>by
  obtain⟨xs,e,q3⟩:=uu77;subst e;have r3:=r1.mono (s2.trans s3);have r4:=r3;obtain⟨a,vs,rfl,h1,d1⟩:=r4.tup;refine⟨a,vs,rfl,h1,λhw=>?_,λ_ p hp=>k _ _ _ q3 (s1.trans (s2.trans (s3.trans (aq.new hp)))) (.tup (.inl bx) (sX w (s1.trans (s2.trans s3)) hp) ((d1.cut l u).mono (aq.new hp)))⟩;rw [d1.length] at hw;rw [JV hw] at q3;cases r3 with
  | dt r3=>exact k _ _ _ q3 (s1.trans (s2.trans s3)) r3⟩⟩⟩
def lT(a b:Str):Bool:=decide (a.cps.toList<=b.cps.toList)
def kY(l:List Str):List Str:=l.mergeSort lT
theorem Dw(a b c:Str)(h:lT a b=true)(h':lT b c=true):lT a c=true:=
 decide_eq_true (List.le_trans (of_decide_eq_true h) (of_decide_eq_true h'))
theorem JW(a b:Str):(lT a b || lT b a)=true:=by
 rcases List.le_total a.cps.toList b.cps.toList with h | h
 ·unfold lT;rw [decide_eq_true h];rfl
 ·unfold lT;rw [decide_eq_true h,Uu]
theorem JX{a b:Str}(h:a.cps.toList=b.cps.toList):a=b:=by
 cases a;cases b;congr 1;exact VO h
theorem Dx{a b:Str}(h:lT a b=true)(h':lT b a=true):a=b:=JX (List.le_antisymm (of_decide_eq_true h) (of_decide_eq_true h'))
theorem uW(l:List Str):(kY l).Perm l:=List.mergeSort_perm l lT
theorem Dy(l:List Str):(kY l).Pairwise λa b=>lT a b=true:=List.pairwise_mergeSort Dw JW l
theorem Aj{l m:List Str}(h:m.Perm l)(p:m.Pairwise λa b=>lT a b=true):m=kY l:=
 List.Perm.eq_of_pairwise (λa b _ _ x y=>Dx x y) p (Dy l) (h.trans (uW l).symm)
theorem Dz:∀(p:Str)(l:List Str),risingS p l=true->(p::l).Pairwise λa b=>lT a b=true
 | p,[],_=>by simp
 | p,x::r,h=>by
  rw [risingS,Qh,P4,ltCps_eq,decide_eq_false_iff_not] at h;have h1:lT p x=true:=decide_eq_true (Wi.mp h.1);have h2:=Dz x r h.2;rw [SU];refine⟨λy hy=>?_,h2⟩;rcases PH.mp hy with z | z
  ·rw [z];exact h1
  ·exact Dw p x y h1 ((SU.mp h2).1 y z)
theorem DC:∀(l:List Str),sortedS l=true->l.Pairwise λa b=>lT a b=true
 | [],_=>.nil
 | x::r,h=>Dz x r h
theorem Ak:∀{ys:List Str}{us:List Wx},aM (ys.map V.str) us->W6 us ys:=by
 intro ys
 induction ys with
 | nil=>intro us rv;cases rv;exact .nil
 | cons y ys ih=>
  intro us rv;rw [Py] at rv;cases rv with
  | cons r1 r2=>obtain⟨t,rfl⟩:=r1;exact .cons y t (ih r2)
theorem Al:∀{ys:List Str}{us:List Wx},W6 us ys->aM (ys.map V.str) us
 | _,_,.nil=>.nil
 | _,_,.cons y t r=>.cons ⟨t,rfl⟩ (Al r)
theorem JY:kB X (.builtin "sorted") (λxs H Q=>∃p ss,xs=[.ref p]/\bg X.K H p (ss.map V.str)/\ss.length < 64/\∀l,H l=none->Q (.ref l) (ao H l (.lst ((kY ss).map V.str)))):=by
 intro Ys s σ H xs us Q I r h;obtain⟨p,ss,rfl,hq,h64,q⟩:=h;obtain⟨u,rfl,rx⟩:=lj r;cases rx;obtain⟨its,rv,pl,hz⟩:=I.list hq;have hlen:=rv.length;rw [PD] at hlen;refine sorted_strs pl.isList (Ak rv) Ce λout ss' a1 a2 a3=>?_;obtain⟨e,he⟩:=sortedAll_at s.heap its out;have es:ss'=kY ss:=Aj a2 (DC _ a3);subst es;have hl2:(kY ss).length=ss.length:=a2.length_eq;refine⟨.ref _,_,I.laid (t':=s.toks) (o:= .lst ((kY ss).map V.str)) (λb ob q=>sortedAll_old q) (SG _) ?_,rfl,q _ (I.hok.fresh (SG _))⟩;refine⟨by rw [PD,hl2];exact Qz (S0 h64) tx,out.toList,e,Al a1,?_⟩;rw [he]
theorem au.strs{K:Pt}{H:Hp}{O:Ex}:∀{ss:List Str}{vs:List V},au K H O vs (ss.map Pu)->vs=ss.map V.str
 | [],_,r=>by rw [Qf] at r;cases r;rfl
 | b::bs,_,r=>by
  rw [Py] at r;cases r with
  | cons h r=>cases h;rw [Py,au.strs r]
theorem au.ofStrs{K:Pt}{H:Hp}{O:Ex}:∀(ss:List Str),au K H O (ss.map V.str) (ss.map Pu)
 | []=>.nil
 | s::r=>.cons (.str s) (au.ofStrs r)
def fk(t:DA):DA:=λδ Q=>t δ λds=>∃ss:List Str,ds=[.list (ss.map .str)]/\ss.length < 64/\Q ((kY ss).map .str)
theorem JZ{a:WI}{t:DA}{np p:Pos}(hg:Gl X "sorted")(hm:X.mg "sorted"=none)(hv:WU "sorted"=some (.builtin "sorted"))(ha:PA X [a] (mF X.K H0 O0 t))(he:WH [a] X.env=(false,eval a X.env)::WH [] X.env:=by rfl)(hpl:(WZ p (WH [] X.env)).any (·.1)=false:=by rfl):FE X H0 O0 (.Call (.Name "sorted" np) [a] [] p) (fk t):=
 (aR JY hg hm hv ha (he:=he) (hpl:=hpl)).imp λσ H Q uu78=>by obtain⟨O,δ,Qd,w,q,k⟩:=uu78;exact⟨O,δ,_,w,q,λds vs H1 uu79 s1 r1=>by
  obtain⟨ss,e,h64,q1⟩:=uu79;subst e;cases r1 with
  | cons h r=>
   cases r;obtain⟨a,us,rfl,h1,d1⟩:=h.lst;cases d1.strs;exact⟨a,ss,rfl,h1,h64,λl hl=>k _ _ _ _ q1 s1 hl (au.ofStrs _)⟩⟩
end
end L2
namespace PySem.SeqAt
open AutoSeq1 (wpAny_loadPart')
open MeetsSeq
theorem DD(l:WA)(es:Array Yi)(n:Nat)(dd:Option WA)(sl:Array (Option Wx))(b:Str)(u:Tok):
 Meets (Builtin.«dict.__eq__» ⟨[.ref l,.str b u],[]⟩) (λ_ R s=>s.heap.get? l=some {cls:= .type "dict",dict:=dd,data:= .dict es n,slots:=sl}/\R (.ok (.ret .notImplemented)) s):=
 .of_wp λprog w A R s h=>by obtain⟨hp,g,d,tk,os⟩:=s;obtain⟨hl,h⟩:=h;have f1:=F.sub_str_dict;wp_walk using Xf hl;exact⟨_,rfl,h⟩
theorem DH(b:Str)(u:Tok)(l:WA)(c:Wx)(es:Array Yi)(n:Nat)(dd:Option WA)(sl:Array (Option Wx)):
 Meets (Builtin.«str.__eq__» ⟨[.str b u,.ref l],[]⟩) (λ_ R s=>s.heap.get? l=some {cls:=c,dict:=dd,data:= .dict es n,slots:=sl}/\R (.ok (.ret .notImplemented)) s):=
 .of_wp λprog w A R s h=>by obtain⟨hp,g,d,tk,os⟩:=s;obtain⟨hl,h⟩:=h;wp_walk using Xf hl,wpAny_load hl;exact⟨_,rfl,h⟩
section
variable {A:WR} {s:WB}
theorem RcAt.dict_str{l:WA}{es:Array Yi}{n:Nat}{o:Obj}(b:Str)(u:Tok)(ho:s.heap.get? l=some o)(hc:o.cls= .type "dict")(hd:o.data= .dict es n)(hu:A.units < cLine):RcAt A s (.ref l) (.str b u) false:=λprog w E Q h=>by
 obtain⟨cls,dd,data,sl⟩:=o;simp only at hc hd;subst hc hd;exact rc_eq_decline_or (k:=false) ⟨_,ho,rfl⟩ (Xr s b u) tx F.sub_str_dict F.slot_dict_eq F.slot_str_eq_refl
  (λ_ hq=>Xs F.slot_dict_eq ⟨_,ho,rfl⟩ F.entry_dict_eq (F.args_dict_eq_2 _ _) (DD l es n dd sl b u) ⟨ho,hq⟩)
  (λ_ hq=>Xs F.slot_str_eq_refl (Xr s b u) F.entry_str_eq (F.args_str_eq_2 _ _) (DH b u l (.type "dict") es n dd sl) ⟨ho,hq⟩)
  (λ_ hq=>XX (rfl:isSame (.ref l) (.str b u)=pure false) hq) (.inr hu) h
theorem RcAt.str_dict{l:WA}{es:Array Yi}{n:Nat}{o:Obj}(b:Str)(u:Tok)(ho:s.heap.get? l=some o)(hc:o.cls= .type "dict")(hd:o.data= .dict es n)(hu:A.units < cLine):RcAt A s (.str b u) (.ref l) false:=λprog w E Q h=>by
 obtain⟨cls,dd,data,sl⟩:=o;simp only at hc hd;subst hc hd;exact rc_eq_decline_or (k:=false) (Xr s b u) ⟨_,ho,rfl⟩ tx F.sub_dict_str F.slot_str_eq F.slot_dict_eq_refl
  (λ_ hq=>Xs F.slot_str_eq (Xr s b u) F.entry_str_eq (F.args_str_eq_2 _ _) (DH b u l (.type "dict") es n dd sl) ⟨ho,hq⟩)
  (λ_ hq=>Xs F.slot_dict_eq_refl ⟨_,ho,rfl⟩ F.entry_dict_eq (F.args_dict_eq_2 _ _) (DD l es n dd sl b u) ⟨ho,hq⟩)
  (λ_ hq=>XX (rfl:isSame (.str b u) (.ref l)=pure false) hq) (.inr hu) h
theorem EqAt.str_dict{l:WA}{es:Array Yi}{n:Nat}{o:Obj}(b:Str)(u:Tok)(ho:s.heap.get? l=some o)(hc:o.cls= .type "dict")(hd:o.data= .dict es n)(hu:A.units < cLine):EqAt A s (.str b u) (.ref l) false:=λprog w E Q h=>by
 unfold eqBool;refine W3 ?_;refine Ya (λhab=>absurd (eq_of_beq hab) nofun) (λ_=>?_);exact Wy (RcAt.str_dict b u ho hc hd hu prog w E _ (WY h))
end
end PySem.SeqAt
namespace L2
open PySem PySem.Spec PyProof.Rows PySem.W
section
variable {X:Cx} {Ys:List (WA×Obj)} {σ:St} {H:Hp} {s:WB}
def kK:Ww->Bool
 | .dict [(.none,_)]=>false
 | _=>true
theorem J0(I:ag X Ys σ H s){O:Ex}{v:V}{d:Ww}{u:Wx}(h:Dt X.K H O v d)(ht:kK d=true)(r:aJ v u)(y:Str)(t:Tok)(hu:X.A.units < cLine):SeqAt.RcAt X.A s u (.str y t) (PN d (.str y)):=by
 cases h with
 | non=>cases (show u=RX from r);simpa [PN] using SeqAt.RcAt.none_str y t
 | bl b=>cases (show u=Sr b from r);simpa [PN] using SeqAt.RcAt.bool_str b y t
 | int i=>obtain⟨k,e⟩:=(show ∃t,u=TQ i t from r);cases e;simpa [PN] using SeqAt.RcAt.int_str i k y t
 | str x=>obtain⟨k,e⟩:=(show ∃t,u=S7 x t from r);cases e;simpa [PN] using SeqAt.RcAt.str_str x k y t
 | @tup a xs ds h n rr=>
  cases (show u=QJ a from r);obtain⟨its,rv,p,_⟩:=I.tuple (.inl h);simpa [PN] using UZ y t (show s.heap.IsTuple a its.toArray from p) hu
 | @tupK a xs ds h rr=>
  cases (show u=QJ a from r);obtain⟨its,rv,p,_⟩:=I.tuple h.of0;simpa [PN] using UZ y t (show s.heap.IsTuple a its.toArray from p) hu
 | @lst a xs ds h n rr=>
  cases (show u=QJ a from r);obtain⟨its,rv,p,_⟩:=I.list (.inl h);simpa [PN] using SeqAt.RcAt.list_str y t p.isList hu
 | pack h n=>exact absurd ht (by simp [kK])
 | purse h n=>exact absurd ht (by simp [kK])
 | scr h r=>exact absurd ht (by simp [kK])
 | obj h e n r=>exact absurd ht (by simp [kK])
 | @dct0 a h n=>
  cases (show u=QJ a from r);obtain⟨_,_,_,_,o,es,ep,e,c,dd,_⟩:=(show bL X.prog X.w H s.heap a (.dK []) from I.hok a _ h);simpa [PN] using SeqAt.RcAt.dict_str y t e c.1 dd hu
 | @dic a ob kv ks kp ds h e1 e2 n rr=>
  cases (show u=QJ a from r);obtain⟨_,_,_,_,o,es,ep,e,c,dd,_⟩:=(show bL X.prog X.w H s.heap a (.dK kv) from(I.hok a _ h).2);simpa [PN] using SeqAt.RcAt.dict_str y t e c.1 dd hu
theorem J1(I:ag X Ys σ H s){A:WR}{O:Ex}{v:V}{d:Ww}{u:Wx}(h:Dt X.K H O v d)(ht:kK d=true)(r:aJ v u)(y:Str)(t:Tok)(hu:A.units < cLine):SeqAt.EqAt A s (.str y t) u (PN (.str y) d):=by
 cases h with
 | non=>cases (show u=RX from r);simpa [PN] using SeqAt.EqAt.str_none y t
 | bl b=>cases (show u=Sr b from r);simpa [PN] using SeqAt.EqAt.str_bool y t b
 | int i=>obtain⟨k,e⟩:=(show ∃t,u=TQ i t from r);cases e;simpa [PN] using Ve y t i k
 | str x=>obtain⟨k,e⟩:=(show ∃t,u=S7 x t from r);cases e;simpa [PN] using SeqAt.EqAt.str_str y t x k
 | @tup a xs ds h n rr=>
  cases (show u=QJ a from r);obtain⟨its,rv,p,_⟩:=I.tuple (.inl h);simpa [PN] using U0 y t (show s.heap.IsTuple a its.toArray from p) hu
 | @tupK a xs ds h rr=>
  cases (show u=QJ a from r);obtain⟨its,rv,p,_⟩:=I.tuple h.of0;simpa [PN] using U0 y t (show s.heap.IsTuple a its.toArray from p) hu
 | @lst a xs ds h n rr=>
  cases (show u=QJ a from r);obtain⟨its,rv,p,_⟩:=I.list (.inl h);simpa [PN] using SeqAt.EqAt.str_list y t p.isList hu
 | pack h n=>exact absurd ht (by simp [kK])
 | purse h n=>exact absurd ht (by simp [kK])
 | scr h r=>exact absurd ht (by simp [kK])
 | obj h e n r=>exact absurd ht (by simp [kK])
 | @dct0 a h n=>
  cases (show u=QJ a from r);obtain⟨_,_,_,_,o,es,ep,e,c,dd,_⟩:=(show bL X.prog X.w H s.heap a (.dK []) from I.hok a _ h);simpa [PN] using SeqAt.EqAt.str_dict y t e c.1 dd hu
 | @dic a ob kv ks kp ds h e1 e2 n rr=>
  cases (show u=QJ a from r);obtain⟨_,_,_,_,o,es,ep,e,c,dd,_⟩:=(show bL X.prog X.w H s.heap a (.dK kv) from(I.hok a _ h).2);simpa [PN] using SeqAt.EqAt.str_dict y t e c.1 dd hu
end
section
variable {X:Cx} {H0:Hp} {O0:Ex}
def DI(K:Pt):R2:=λx y H Q=>∃O dx z,Dt K H O x dx/\kK dx=true/\y= .str z/\Q (.bl (PN dx (.str z))) H
theorem fq{k:Nat}(hr:bQ k X.A):bD X (WS .Eq) (DI X.K):=by
 intro Ys s σ H x y v u Q I rx ry h;obtain⟨O,dx,z,hx,ht,rfl,q⟩:=h;obtain⟨t,rfl⟩:=ry;have hc:WS .Eq v (.str z t)=richCompare .Eq v (.str z t):=rfl;rw [hc];exact J0 I hx ht rx z t hr.units0 X.prog X.w X.xe _ (bH I q rfl)
def cq:Ww->Ww->(Ww->Prop)->Prop:=λx y Q=>∃z,y= .str z/\kK x=true/\Q (.bool (PN x (.str z)))
theorem ft{K:Pt}:j7 K (DI K) cq:=λH O x y dx dy Qd R _ hx hy uu80 k=>by
 obtain⟨z,e,ht,q⟩:=uu80;subst e;cases hy.str;exact⟨_,dx,z,hx.all,ht,rfl,k _ _ H q (aq.refl _) (.bl _)⟩
theorem J3(dx:Ww){its:List Wx}{zs:List Str}(hS:W6 its zs):its.any (λy=>PN (.str (strOf y)) dx)=zs.any λz=>PN (.str z) dx:=by
 induction hS with
 | nil=>rfl
 | cons y t r ih=>rw [QC,QC,ih];rfl
def DJ(K:Pt):R2:=λx y H Q=>∃(O:Ex)(dx:Ww)(zs:List Str)(a:WA),Dt K H O x dx/\kK dx=true/\y= .ref a/\aZ K H a (zs.map V.str)/\Q (.bl (zs.any λz=>PN (.str z) dx)) H
theorem oK{k:Nat}(hr:bQ k X.A):bD X (WS .In) (DJ X.K):=by
 intro Ys s σ H x y v u Q I rx ry h;obtain⟨O,dx,zs,a,hx,ht,rfl,ha,q⟩:=h;cases ry;obtain⟨its,rv,p,_⟩:=I.tuple ha;have hS:=Ak rv;have hl:=J3 dx hS;refine SeqAt.in_tupleAt (λy=>PN (.str (strOf y)) dx) (show s.heap.IsTuple a its.toArray from p) (λy hy=>?_) (by rw [List.any_toArray,hl];exact bH I q rfl);obtain⟨z,t,rfl⟩:=hS.all y (by simpa using hy);exact J1 I hx ht rx z t (by show X.A.units+1 < cLine;have:=hr.un;omega)
def fu:Ww->Ww->(Ww->Prop)->Prop:=λx y Q=>∃zs:List Str,y= .tuple (zs.map .str)/\kK x=true/\Q (.bool (zs.any λz=>PN (.str z) x))
theorem oM{K:Pt}:j7 K (DJ K) fu:=λH O x y dx dy Qd R _ hx hy uu81 k=>by
 obtain⟨zs,e,ht,q⟩:=uu81;subst e;obtain⟨a,vs,rfl,hs,r⟩:=hy.tup;cases r.strs;exact⟨_,dx,zs,a,hx.all,ht,rfl,hs,k _ _ H q (aq.refl _) (.bl _)⟩
end
theorem bY{z:Int}{Q:Ww->Prop}:Ac [mh,.int z] Q↔(0 < z/\z<=1000000/\∀i:Int,0<=i->i < z->Q (.int i)):=by
 constructor
 ·rintro⟨z',e,a,b,c⟩;simp only [PJ,Qp,and_true,true_and] at e;subst e;exact⟨a,b,c⟩
 ·rintro⟨a,b,c⟩;exact⟨z,rfl,a,b,c⟩
def tF:Ww->Bool | .str _=>true | _=>false
def DL:Ww->Bool | .int _=>true | .bool _=>true | _=>false
def tG:Ww->Bool | .bool _=>true | _=>false
def pG:Ww->Bool | .tuple _=>true | _=>false
theorem Am{K:Pt}(d:Ww):kitOne K (.type (qX d)) (.type "str")=some (tF d):=by cases d <;> rfl
theorem J4{K:Pt}(d:Ww):kitOne K (.type (qX d)) (.type "int")=some (DL d):=by cases d <;> rfl
theorem An{K:Pt}(d:Ww):kitOne K (.type (qX d)) (.type "bool")=some (tG d):=by cases d <;> rfl
theorem uX{K:Pt}(d:Ww):kitOne K (.type (qX d)) (.type "tuple")=some (pG d):=by cases d <;> rfl
mutual
def bC:Ww->Bool
 | .dict []=>true
 | .dict (_::_)=>false
 | .str z=>decide (z.length<=1000)
 | .tuple l=>ma l
 | .list l=>ma l
 | .none=>true
 | .bool _=>true
 | .int _=>true
def ma:List Ww->Bool
 | []=>true
 | d::r=>bC d && ma r
end
theorem qZ{d:Ww}(h:bC d=true):∀x,d≠ .dict [(.none,x)]:=by
 rintro x rfl;simp [bC] at h
theorem qt{d:Ww}(h:bC d=true):kK d=true:=by
 unfold kK;split
 ·simp [bC] at h
 ·rfl
theorem DM:∀{l:List Ww}{d:Ww},ma l=true->d∈l->bC d=true
 | e::r,d,h,m=>by
  rw [ma,Qh] at h;rcases PH.mp m with z | z
  ·rw [z];exact h.1
  ·exact DM h.2 z
theorem tH{l:List Ww}(h:bC (.tuple l)=true):∀d∈l,bC d=true:=λd hd=>DM (by simpa [bC] using h) hd
theorem J5{z:Str}(h:bC (.str z)=true):z.length<=1000:=by simpa [bC] using h
def lM(zs:List Str)(d:Ww):Bool:=zs.any λz=>PN (.str z) d
def rg:Ww->Bool | .int _=>true | _=>false
def mW:Ww->Bool | .int i=>decide (0<=i) && decide (i<=99999) | _=>false
def cM:Ww->Bool | .str z=>decide (1<=z.length) && decide (z.length<=8) && z.cps.toList.all (λc=>decide (c∈lu.cps.toList)) | _=>false
def mj:Ww->Bool
 | .tuple [a]=>PN a (.str "coming")
 | .tuple [a,b]=>lM ["first","last"] a && cM b
 | _=>false
def tI:Ww->Bool | .int i=>decide (0<=i) && decide (i<=999) | _=>false
def rh(m u:Ww):Bool:=tI m && lM ["days","months","years"] u
def md:Ww->Bool
 | .tuple [a,b]=>lM ["while","follow","leave"] a && cM b
 | .tuple [a,b,c,d,e]=>lM ["keep","gone"] a && cM b && (mj c && rh d e)
 | _=>false
def uY:Ww->Ww->Bool | .str a,.str b=>decide (a.cps.toList < b.cps.toList) | _,_=>false
def nB:List Ww->Bool
 | a::b::r=>uY a b && nB (b::r)
 | _=>true
def pH:Ww->Bool | .tuple l=>decide (l.length<=4) && (l.all cM && nB l) | _=>false
def mX:Ww->Bool | .tuple [a,b]=>lM ["paper","kind"] a && cM b | _=>false
def oN(w:Ww)(ps:List Ww):Bool:=
 if lM ["end","lift"] w then ps.length==0
 else if lM ["happens","leave"] w then(match ps with | [a]=>cM a | _=>false)
 else if PN w (.str "rule") then(match ps with | [a]=>md a | _=>false)
 else if PN w (.str "paper") then(match ps with | [a,b]=>cM a && pH b | _=>false)
 else if PN w (.str "hold") then(match ps with | [a,b]=>mX a && tG b | _=>false)
 else false
def lN:Ww->Bool
 | .tuple (w::n::x::r)=>mW n && cM x && oN w r
 | _=>false
structure Nm (z:Str):Prop where
 lo:1<=z.length
 hi:z.length<=8
 ab:∀c∈z.cps.toList,c∈lu.cps.toList
theorem Nm.is{z:Str}(h:Nm z):cM (.str z)=true:=by
 simp only [cM,decide_eq_true h.lo,decide_eq_true h.hi,Qg,Rj,decide_eq_true_eq];exact h.ab
theorem mY{d:Ww}(h:cM d=true):∃z,d= .str z/\Nm z:=by
 cases d with
 | str z=>
  simp only [cM,Qh,decide_eq_true_eq,Rj] at h;exact⟨z,rfl,h.1.1,h.1.2,h.2⟩
 | _=>simp [cM] at h
theorem Nm.ok{z:Str}(h:Nm z):QX z=true:=nQ.mpr λc hc=>tu c (h.ab c hc)
theorem mK{g:DG}{te:DT}{δ0:Dl}{xs:List Ww}{Q:List Ww->Prop}(f:Ww->Ww)
 (h:∀x∈xs,∀R:Ww->Prop,R (f x)->g x δ0 λδ2=>te δ2 R)(q:Q (xs.map f)):mG g bS te δ0 xs Q:=by
 refine⟨λi acc=>acc=(xs.take i).map f,rfl,?_,?_⟩
 ·rintro i x acc hx rfl;have:=h x (Rr hx) (λy=>(xs.take i).map f++[y]=(xs.take (i+1)).map f) (by rw [VV,hx];simp);simpa [bS] using this
 ·rintro acc rfl;rw [RJ (PQ _)];exact q
theorem J6{g:DG}{te:DT}{δ0:Dl}{xs:List Ww}{Q:List Ww->Prop}(P:Ww->Prop)
 (h:∀x∈xs,∀R:Ww->Prop,(∀y,P y->R y)->g x δ0 λδ2=>te δ2 R)(q:∀ys,ys.length=xs.length->(∀y∈ys,P y)->Q ys):mG g bS te δ0 xs Q:=by
 refine⟨λi acc=>acc.length=i/\∀y∈acc,P y,⟨rfl,Wv⟩,?_,?_⟩
 ·rintro i x acc hx ⟨hl,ha⟩;have:=h x (Rr hx) (λy=>(acc++[y]).length=i+1/\∀z∈acc++[y],P z) (λy hy=>⟨by simp [hl],λz hz=>by
   rcases Rt.mp hz with m | m
   ·exact ha z m
   ·rw [Rc] at m;rw [m];exact hy⟩)
  simpa [bS] using this
 ·rintro acc ⟨hl,ha⟩;exact q acc hl ha
theorem qu{g:DG}{te:DT}{δ0:Dl}{xs:List Ww}{p:Bool->Prop}{gg:List Bool->Bool}(f:Ww->Bool)
 (h:∀x∈xs,∀R:Ww->Prop,R (.bool (f x))->g x δ0 λδ2=>te δ2 R)(q:p (gg (xs.map f))):mG g bS te δ0 xs λds=>∃bs:List Bool,ds=bs.map TK/\p (gg bs):=
 mK (λx=>.bool (f x)) h ⟨xs.map f,by rw [Rb];rfl,q⟩
theorem gk{a:Str}{P:List Str->Prop}:(∃zs,[Pu a]=QY Pu zs/\P zs)↔P [a]:=by
 refine⟨λ⟨zs,e,h⟩=>?_,λh=>⟨_,rfl,h⟩⟩
 match zs,e with
 | [x],e=>simp at e;rw [e];exact h
theorem gm{a b:Str}{P:List Str->Prop}:(∃zs,[Pu a,Pu b]=QY Pu zs/\P zs)↔P [a,b]:=by
 refine⟨λ⟨zs,e,h⟩=>?_,λh=>⟨_,rfl,h⟩⟩
 match zs,e with
 | [x,y],e=>simp at e;rw [e.1,e.2];exact h
theorem gn{a b c:Str}{P:List Str->Prop}:(∃zs,[Pu a,Pu b,Pu c]=QY Pu zs/\P zs)↔P [a,b,c]:=by
 refine⟨λ⟨zs,e,h⟩=>?_,λh=>⟨_,rfl,h⟩⟩
 match zs,e with
 | [x,y,z],e=>simp at e;rw [e.1,e.2.1,e.2.2];exact h
theorem tJ(d:Ww):(∃l,d= .tuple l)\/(∀l,d≠ .tuple l):=by
 cases d <;> simp
theorem DN{d:Ww}(h:∀l,d≠ .tuple l):pG d=false:=by
 cases d with
 | tuple l=>exact absurd rfl (h l)
 | _=>rfl
def lH(d:Ww)(n:Int):Bool:=match d with | .tuple l=>decide ((l.length:Int)=n) | _=>false
theorem Ao{d:Ww}(h:∀l,d≠ .tuple l)(n:Int):lH d n=false:=by
 cases d with
 | tuple l=>exact absurd rfl (h l)
 | _=>rfl
theorem bK{x:Str}:kK (.str x)=true:=rfl
theorem gp{x:Int}:kK (.int x)=true:=rfl
theorem gr{x:Bool}:kK (.bool x)=true:=rfl
theorem gs{x:List Ww}:kK (.tuple x)=true:=rfl
theorem gu{x:List Ww}:kK (.list x)=true:=rfl
theorem J7(l u:Option Int)(n:Nat):T4 l u 1 n=(Rz (HT.sIx n n u - HT.sIx n 0 l)).map (HT.sIx n 0 l+·):=by
 unfold T4 sliceRange;have c:∀(o:Option Int)(d:Nat),(match o with | none=>(d:Int) | some i=>max 0 (min (if i < 0 then i+(n:Int) else i) (n:Int)))=((HT.sIx n d o:Nat):Int):=by
  intro o d;cases o with
  | none=>rfl
  | some v=>
   show max 0 (min (if v < 0 then v+(n:Int) else v) (n:Int))=(((if v < 0 then(v+(n:Int)).toNat else min v.toNat n):Nat):Int);by_cases hv:v < 0
   ·rw [Wt hv,Wt hv];omega
   ·rw [Ws hv,Ws hv];omega
 have c0:=c l 0;have c1:=c u n;simp only [show(1:Int) > 0 by decide,if_true] at c0 c1⊢;simp only [Int.natCast_zero] at c0;have key:∀a b:Int,a=((HT.sIx n 0 l:Nat):Int)->b=((HT.sIx n n u:Nat):Int)->((Rz (if a < b then(b - a+1 - 1)/ 1 else 0).toNat).map λ(k:Nat)=>(a+1*(k:Int)).toNat)=(Rz (HT.sIx n n u - HT.sIx n 0 l)).map (HT.sIx n 0 l+·):=by
  intro a b ea eb;have e:(if a < b then(b - a+1 - 1)/ 1 else 0).toNat=HT.sIx n n u - HT.sIx n 0 l:=by
   rw [V7];split <;> omega
  rw [e];refine TY λk _=>?_;show(a+1*(k:Int)).toNat=_;omega
 exact key _ _ c0 c1
def rj(xs:List Nat)(l u:Option Int):List Nat:=(xs.drop (HT.sIx xs.length 0 l)).take (HT.sIx xs.length xs.length u - HT.sIx xs.length 0 l)
theorem DP(x:Str)(l u:Option Int):(Txt.slice x l u).cps.toList=rj x.cps.toList l u:=by
 have hl:x.cps.toList.length=x.length:=by rw [P2];rfl
 unfold Txt.slice;rw [J7,PD,SY];unfold rj;rw [hl];split
 ·rename_i h;have h2:HT.sIx x.length x.length u - HT.sIx x.length 0 l=x.length:=by simpa using h
  have h3:HT.sIx x.length x.length u<=x.length:=HT.sIx_le _ _ (PQ _) u;by_cases hz:x.length=0
  ·have:x.cps.toList=[]:=Uy.mp Ce;rw [this];simp
  ·have h4:HT.sIx x.length 0 l=0:=Ce
   rw [h2,h4,UP,RJ Ce]
 ·rw [pick_run]
theorem Ka{xs:List Nat}{i:Int}(h0:0<=i)(h1:i<=xs.length):rj xs none (some i)=xs.take i.toNat:=by
 unfold rj;rw [qc,oH h0 h1];simp
theorem Kb{xs:List Nat}{i:Int}(h0:0<=i)(h1:i<=xs.length):rj xs (some i) none=xs.drop i.toNat:=by
 unfold rj;rw [qc,oH h0 h1,RJ (by rw [RW];exact PQ _)]
theorem nF(x:Str):x.length=x.cps.toList.length:=by rw [P2];rfl
theorem DQ{z:Str}{d:Ww}:PN (.str z) d=true↔d= .str z:=by
 cases d <;> simp [PN];exact⟨λh=>h.symm,λh=>h.symm⟩
theorem tK{z:Str}{d:Ww}:PN d (.str z)=true↔d= .str z:=by rw [Du];exact DQ
theorem ml{zs:List Str}{d:Ww}:lM zs d=true↔∃z∈zs,d= .str z:=by
 unfold lM;simp only [Tb,DQ]
def pI(a b:Str):Prop:=a.cps.toList < b.cps.toList
theorem Kc{a b c:Str}(h:pI a b)(h':pI b c):pI a c:=List.lt_trans h h'
inductive lU:Ww->Prop
 | coming:lU (.tuple [.str "coming"])
 | first {h:Str}:Nm h->lU (.tuple [.str "first",.str h])
 | last {h:Str}:Nm h->lU (.tuple [.str "last",.str h])
def units:List Str:=["days","months","years"]
inductive lV:Ww->Prop
 | kg {w k u:Str} {s:Ww} {m:Int}:w∈(["keep","gone"]:List Str)->Nm k->lU s->0<=m->m<=999->u∈units->lV (.tuple [.str w,.str k,s,.int m,.str u])
 | wfl {w k:Str}:w∈(["while","follow","leave"]:List Str)->Nm k->lV (.tuple [.str w,.str k])
def lx(n:Int):Prop:=0<=n/\n<=99999
structure Ap (ms:List Str):Prop where
 len:ms.length<=4
 nm:∀m∈ms,Nm m
 up:ms.Pairwise pI
inductive bo:Ww->Prop
 | paper {n:Int} {x k:Str} {ms:List Str}:lx n->Nm x->Nm k->Ap ms->bo (.tuple [.str "paper",.int n,.str x,.str k,.tuple (ms.map .str)])
 | two {w x y:Str} {n:Int}:w∈(["happens","leave"]:List Str)->lx n->Nm x->Nm y->bo (.tuple [.str w,.int n,.str x,.str y])
 | rule {n:Int} {x:Str} {p:Ww}:lx n->Nm x->lV p->bo (.tuple [.str "rule",.int n,.str x,p])
 | one {w x:Str} {n:Int}:w∈(["end","lift"]:List Str)->lx n->Nm x->bo (.tuple [.str w,.int n,.str x])
 | hold {n:Int} {x g y:Str} {b:Bool}:lx n->Nm x->g∈(["paper","kind"]:List Str)->Nm y->bo (.tuple [.str "hold",.int n,.str x,.tuple [.str g,.str y],.bool b])
theorem DR{d:Ww}:mj d=true↔lU d:=by
 constructor
 ·intro h;unfold mj at h;split at h
  ·rw [tK] at h;subst h;exact .coming
  ·rw [Qh,ml] at h;obtain⟨⟨z,hz,rfl⟩,hb⟩:=h;obtain⟨y,rfl,hy⟩:=mY hb;simp only [PH,P1,or_false] at hz;rcases hz with rfl | rfl
   ·exact .first hy
   ·exact .last hy
  ·cases h
 ·intro h;cases h with
  | coming=>unfold mj;rw [tK]
  | first hy=>simp only [mj,hy.is,P7];exact ml.mpr ⟨_,Wv,rfl⟩
  | last hy=>simp only [mj,hy.is,P7];exact ml.mpr ⟨_,Wv,rfl⟩
theorem DU{m u:Ww}:rh m u=true↔∃i z,m= .int i/\u= .str z/\0<=i/\i<=999/\z∈units:=by
 unfold rh;rw [Qh,ml];constructor
 ·rintro⟨h,z,hz,rfl⟩;cases m <;> simp [tI] at h;exact⟨_,z,rfl,rfl,h.1,h.2,hz⟩
 ·rintro⟨i,z,rfl,rfl,h0,h1,hz⟩;exact⟨by simp [tI,h0,h1],z,hz,rfl⟩
theorem DV{d:Ww}:md d=true↔lV d:=by
 constructor
 ·intro h;unfold md at h;split at h
  ·rw [Qh,ml] at h;obtain⟨⟨z,hz,rfl⟩,hb⟩:=h;obtain⟨y,rfl,hy⟩:=mY hb;exact .wfl hz hy
  ·rw [Qh,Qh,Qh,ml,DR,DU] at h;obtain⟨⟨⟨z,hz,rfl⟩,hb⟩,hs,i,u,rfl,rfl,h0,h1,hu⟩:=h;obtain⟨y,rfl,hy⟩:=mY hb;exact .kg hz hy hs h0 h1 hu
  ·cases h
 ·intro h;cases h with
  | kg hw hk hs h0 h1 hu=>
   simp only [md,hk.is,DR.mpr hs,DU.mpr ⟨_,_,rfl,rfl,h0,h1,hu⟩,P7];exact ml.mpr ⟨_,hw,rfl⟩
  | wfl hw hk=>simp only [md,hk.is,P7];exact ml.mpr ⟨_,hw,rfl⟩
theorem Aq:∀{ms:List Str},nB (ms.map .str)=true↔ms.Pairwise pI
 | []=>by simp [nB]
 | [a]=>by simp [nB]
 | a::b::r=>by
  have ih:=Aq (ms:=b::r);rw [Py,Py,nB,Qh,<-Py,ih];simp only [uY,decide_eq_true_eq];constructor
  ·rintro⟨h1,h2⟩;rw [SU];refine⟨λy hy=>?_,h2⟩;rcases PH.mp hy with z | z
   ·rw [z];exact h1
   ·exact Kc h1 ((SU.mp h2).1 y z)
  ·intro h;rw [SU] at h;exact⟨h.1 b Wv,h.2⟩
theorem DX:∀{l:List Ww},l.all cM=true->∃ms:List Str,l=ms.map .str/\∀m∈ms,Nm m
 | [],_=>⟨[],rfl,Wv⟩
 | d::r,h=>by
  rw [QG,Qh] at h;obtain⟨z,rfl,hz⟩:=mY h.1;obtain⟨ms,rfl,hm⟩:=DX h.2;exact⟨z::ms,rfl,λm hm'=>by
   rcases PH.mp hm' with e | e
   ·rw [e];exact hz
   ·exact hm m e⟩
theorem DY{d:Ww}:pH d=true↔∃ms:List Str,d= .tuple (ms.map .str)/\Ap ms:=by
 constructor
 ·intro h;unfold pH at h;split at h
  ·rw [Qh,Qh,decide_eq_true_eq] at h;obtain⟨h4,ha,hr⟩:=h;obtain⟨ms,rfl,hm⟩:=DX ha;exact⟨ms,rfl,by simpa using h4,hm,Aq.mp hr⟩
  ·cases h
 ·rintro⟨ms,rfl,h⟩;simp only [pH,PD,decide_eq_true h.len,Aq.mpr h.up,P7,Qg,SK,Rj];exact λm hm=>(h.nm m hm).is
theorem DZ{d:Ww}:mX d=true↔∃g y,d= .tuple [.str g,.str y]/\g∈(["paper","kind"]:List Str)/\Nm y:=by
 constructor
 ·intro h;unfold mX at h;split at h
  ·rw [Qh,ml] at h;obtain⟨⟨z,hz,rfl⟩,hb⟩:=h;obtain⟨y,rfl,hy⟩:=mY hb;exact⟨z,y,rfl,hz,hy⟩
  ·cases h
 ·rintro⟨g,y,rfl,hg,hy⟩;simp only [mX,hy.is,P7];exact ml.mpr ⟨_,hg,rfl⟩
theorem D1{d:Ww}:mW d=true↔∃n,d= .int n/\lx n:=by
 constructor
 ·intro h;cases d <;> simp [mW] at h;exact⟨_,rfl,h.1,h.2⟩
 ·rintro⟨n,rfl,h0,h1⟩;simp [mW,h0,h1]
theorem Kd{d:Ww}(h:lN d=true):bo d:=by
 unfold lN at h;split at h
 ·rename_i w n x r;rw [Qh,Qh,D1] at h;obtain⟨⟨⟨n,rfl,hn⟩,hx⟩,hp⟩:=h;obtain⟨x,rfl,hx2⟩:=mY hx
  replace hx:=hx2
  unfold oN at hp;split at hp
  ·rename_i hw;obtain⟨z,hz,rfl⟩:=ml.mp hw;have:r=[]:=Uy.mp (by simpa using hp);subst this;exact .one hz hn hx
  split at hp
  ·rename_i hw;obtain⟨z,hz,rfl⟩:=ml.mp hw;split at hp
   ·obtain⟨y,rfl,hy⟩:=mY hp;exact .two hz hn hx hy
   ·cases hp
  split at hp
  ·rename_i hw;rw [tK] at hw;subst hw;split at hp
   ·exact .rule hn hx (DV.mp hp)
   ·cases hp
  split at hp
  ·rename_i hw;rw [tK] at hw;subst hw;split at hp
   ·rw [Qh,DY] at hp;obtain⟨hk,ms,rfl,hm⟩:=hp;obtain⟨k,rfl,hk2⟩:=mY hk
    replace hk:=hk2
    exact .paper hn hx hk hm
   ·cases hp
  split at hp
  ·rename_i hw;rw [tK] at hw;subst hw;split at hp
   ·rw [Qh,DZ] at hp;obtain⟨⟨g,y,rfl,hg,hy⟩,hb⟩:=hp;rename_i b;cases b <;> simp [tG] at hb;exact .hold hn hx hg hy
   ·cases hp
  ·cases hp
 ·cases h
theorem bo.is{d:Ww}(h:bo d):lN d=true:=by
 have dy:∀{n:Int},lx n->mW (.int n)=true:=λh=>D1.mpr ⟨_,rfl,h⟩;have no:∀{zs:List Str}{w:Str},w ∉ zs->lM zs (.str w)=false:=λ{zs w} h=>by
  rw [Vs];intro q;obtain⟨z,hz,e⟩:=ml.mp q;injection e with e;rw [e] at h;exact h hz
 have ye:∀{zs:List Str}{w:Str},w∈zs->lM zs (.str w)=true:=λh=>ml.mpr ⟨_,h,rfl⟩;have nq:∀{z w:Str},w≠z->PN (.str w) (.str z)=false:=λ{z w} h=>by rw [aT];simpa using h
 have yq:∀{z:Str},PN (.str z) (.str z)=true:=by intro z;rw [aT];simp
 cases h with
 | paper hn hx hk hm=>
  simp only [lN,dy hn,hx.is,P7,Qg,oN];rw [Ws (by rw [no td];decide),Ws (by rw [no td];decide),Ws (by rw [nq td];decide),Wt yq];simp only [hk.is,DY.mpr ⟨_,rfl,hm⟩,P7]
 | two hw hn hx hy=>
  simp only [lN,dy hn,hx.is,P7,Qg,oN];rename_i w x y n;have h1:w ∉ (["end","lift"]:List Str):=by
   simp only [PH,P1,or_false] at hw;rcases hw with rfl | rfl <;> decide+kernel
  rw [Ws (by rw [no h1];decide),Wt (ye hw)];exact hy.is
 | rule hn hx hp=>
  simp only [lN,dy hn,hx.is,P7,Qg,oN];rw [Ws (by rw [no td];decide),Ws (by rw [no td];decide),Wt yq];exact DV.mpr hp
 | one hw hn hx=>
  simp only [lN,dy hn,hx.is,P7,Qg,oN];rw [Wt (ye hw)];rfl
 | hold hn hx hg hy=>
  simp only [lN,dy hn,hx.is,P7,Qg,oN];rw [Ws (by rw [no td];decide),Ws (by rw [no td];decide),Ws (by rw [nq td];decide),Ws (by rw [nq td];decide),Wt yq];simp only [DZ.mpr ⟨_,_,rfl,hg,hy⟩,tG,P7]
theorem D3{d:Ww}:lN d=true↔bo d:=⟨Kd,bo.is⟩
theorem nG{n:Nat}:∀d∈([]:List Ww),kN n d:=λd hd=>by simp at hd
theorem cW{n:Nat}{d:Ww}{r:List Ww}(h:kN n d)(hr:∀e∈r,kN n e):∀e∈d::r,kN n e:=λe he=>by
 rcases PH.mp he with z | z
 ·rw [z];exact h
 ·exact hr e z
theorem kI{n:Nat}{x:Str}(h:QX x=true)(hn:1<=n:=by decide):kN n (.str x):=(Dp h).mono hn
theorem rk{n:Nat}{x:Int}(hn:1<=n:=by decide):kN n (.int x):=JG.mono hn
theorem Ke{n:Nat}{x:Bool}(hn:1<=n:=by decide):kN n (.bool x):=JH.mono hn
theorem Kf{n:Nat}{ms:List Str}(h:∀m∈ms,QX m=true)(hn:1<=n:=by decide):∀d∈ms.map Pu,kN n d:=λd hd=>by
 obtain⟨m,hm,rfl⟩:=QO.mp hd;exact(Dp (h m hm)).mono hn
theorem lU.lay{d:Ww}(h:lU d):kN 2 d:=by
 cases h with
 | coming=>exact mU (cW (kI td) nG)
 | first h=>exact mU (cW (kI td) (cW (kI h.ok) nG))
 | last h=>exact mU (cW (kI td) (cW (kI h.ok) nG))
theorem rz{zs:List Str}{w:Str}(h:w∈zs)(hz:∀z∈zs,QX z=true/\z.length<=1000):QX w=true/\w.length<=1000:=hz w h
theorem lV.lay{d:Ww}(h:lV d):kN 3 d:=by
 cases h with
 | kg hw hk hs _ _ hu=>exact mU (cW (kI (rz hw td).1) (cW (kI hk.ok) (cW hs.lay (cW rk (cW (kI (rz hu td).1) nG)))))
 | wfl hw hk=>exact(mU (n:=1) (cW (kI (rz hw td).1) (cW (kI hk.ok) nG))).mono tx
theorem bo.lay{d:Ww}(h:bo d):kN 4 d:=by
 cases h with
 | paper hn hx hk hm=>exact mU (cW (kI td) (cW rk (cW (kI hx.ok) (cW (kI hk.ok) (cW ((mU (n:=1) (Kf λm h=>(hm.nm m h).ok)).mono tx) nG)))))
 | two hw hn hx hy=>exact mU (cW (kI (rz hw td).1) (cW rk (cW (kI hx.ok) (cW (kI hy.ok) nG))))
 | rule hn hx hp=>exact mU (cW (kI td) (cW rk (cW (kI hx.ok) (cW hp.lay nG))))
 | one hw hn hx=>exact mU (cW (kI (rz hw td).1) (cW rk (cW (kI hx.ok) nG)))
 | hold hn hx hg hy=>exact mU (cW (kI td) (cW rk (cW (kI hx.ok) (cW ((mU (n:=1) (cW (kI (rz hg td).1) (cW (kI hy.ok) nG))).mono tx) (cW Ke nG)))))
theorem bo.shp{d:Ww}(h:bo d):aS d:=h.lay.shp tx
theorem gx{a:Ww}{l:List Ww}:bA (a::l) (some 1) none=l:=by
 rw [qp tx (by simp only [Px];omega)];rfl
theorem gy{a b:Ww}{l:List Ww}:bA (a::b::l) (some 2) none=l:=by
 rw [qp tx (by simp only [Px];omega)];rfl
theorem gz{a b c:Ww}{l:List Ww}:bA (a::b::c::l) (some 3) none=l:=by
 rw [qp tx (by simp only [Px];omega)];rfl
theorem gA{a b c d:Ww}{l:List Ww}:bA (a::b::c::d::l) (some 4) none=l:=by
 rw [qp tx (by simp only [Px];omega)];rfl
theorem gB{a:Ww}{l:List Ww}:bA (a::l) none (some 1)=[a]:=by
 rw [qo tx (by simp only [Px];omega)];rfl
theorem gC{a b:Ww}{l:List Ww}:bA (a::b::l) none (some 2)=[a,b]:=by
 rw [qo tx (by simp only [Px];omega)];rfl
theorem gD{a b c:Ww}{l:List Ww}:bA (a::b::c::l) none (some 3)=[a,b,c]:=by
 rw [qo tx (by simp only [Px];omega)];rfl
theorem gE{a b c d:Ww}{l:List Ww}:bA (a::b::c::d::l) none (some 4)=[a,b,c,d]:=by
 rw [qo tx (by simp only [Px];omega)];rfl
theorem gF{a b c:Ww}{l:List Ww}:bA (a::b::c::l) (some 1) (some 3)=[b,c]:=by
 unfold bA;rw [oH tx (by simp only [Px];omega),oH tx (by simp only [Px];omega)];rfl
end L2
namespace PySem
open Builtin
open AutoSeq1 (wpAny_loadPart')
end PySem
namespace L2
open PySem PySem.Spec PyProof.Rows PySem.W
section
variable {X:Cx} {H0:Hp} {O0:Ex}
def gG:Ww->Ww->(Ww->Prop)->Prop:=λx y Q=>∃xs,x= .tuple xs/\y= .int 2/\xs≠[]/\xs.length<=1000/\Q (.tuple (xs++xs))
def fv:DT:=λ_ Q=>Q (.dict [])
theorem Kg{pos:Pos}:DE X H0 O0 (.Dict [] [] pos) fv:=JA.imp λσ H Q uu85=>by obtain⟨O,δ,Qd,w,q,k⟩:=uu85;exact λp hp=>k _ _ _ q (aq.new hp) (.dct0 bx (sX w (aq.refl _) hp))
def fw(t:DT):DT:=λδ Q=>t δ λd=>∃i,d= .int i/\Q (.int (-i))
theorem Kh{e:WI}{t:DT}{pos:Pos}(h:DE X H0 O0 e t):DE X H0 O0 (.UnaryOp .USub e pos) (fw t):=
 (Hj Hm h).imp λσ H Q uu86=>by obtain⟨O,δ,Qd,w,q,k⟩:=uu86;exact⟨O,δ,_,w,q,λd v H1 uu87 s1 r1=>by obtain⟨i,e,q1⟩:=uu87;subst e;cases r1;exact⟨i,rfl,k _ _ H1 q1 s1 (.int _)⟩⟩
def gH(t:DT):DT:=λδ Q=>t δ λd=>∃z:Str,d= .str z/\z.length<=1000000/\Q (.str (Txt.upper z))
def gI(t:DT):DT:=λδ Q=>t δ λd=>∃xs,d= .tuple xs/\Q (.tuple xs.reverse)
end
theorem gJ{xs:List Ww}:bA xs none (some (-1))=xs.dropLast:=by
 unfold bA;rw [qc];have e:HT.sIx xs.length xs.length (some (-1))=xs.length - 1:=by
  simp only [HT.sIx];rw [Wt tx];omega
 rw [e,UP,V9,List.dropLast_eq_take]
theorem Ki(ys:List Str):(Txt.join "" ys).cps.toList=(ys.map (·.cps.toList)).flatten:=by
 have key:∀ys:List Str,(SM "" ys).cps.toList=(ys.map (·.cps.toList)).flatten:=by
  intro ys
  induction ys with
  | nil=>rfl
  | cons y r ih=>
   cases r with
   | nil=>simp [SM]
   | cons z r=>
    show(y++("":Str)++SM "" (z::r)).cps.toList=_;rw [tq,tq,Sn,Sn,ih,Py,R3];have:("":Str).cps.toList=[]:=td
    rw [this,PY];simp
 rw [show Txt.join "" ys=SM "" ys from RU "" ys];exact key ys
section
variable {x:Option WI} {n:Nat} {env:Env}
theorem Kj{a b}:W7 (.List a b) x n env=pure false:=rfl
theorem Ar{a b c}:W7 (.Tuple a b c) x n env=pure false:=rfl
theorem qv{a b c d}:W7 (.BinOp a b c d) x n env=pure false:=rfl
theorem oO{a b c d}:W7 (.Call a b c d) x n env=pure false:=rfl
theorem Kk{a b c}:W7 (.Subscript a b c) x n env=pure false:=rfl
end
section
variable {X:Cx} {H0:Hp} {O0:Ex}
def gK(F:List Ww->(List Ww->Prop)->Prop)(t:DA):DA:=λδ Q=>t δ λds=>F ds Q
end
section
variable {X:Cx} {H0:Hp} {O0:Ex}
def gL(t:DA):DA:=λδ Q=>t δ λds=>ds.length<=1000/\Q (ds++ds)
end
theorem Kl{g:DG}{tc:DB}{te:DT}{δ0:Dl}{xs:List Ww}{Q:List Ww->Prop}
 (h:∀x∈xs,∀(R:Ww->Prop) (S:Prop),R x->S->g x δ0 λδ2=>tc δ2 λok=>if ok=true then te δ2 R else S)(q:∀ys,ys.Sublist xs->Q ys):mG g tc te δ0 xs Q:=by
 refine⟨λi acc=>acc.Sublist (xs.take i),Wv,?_,?_⟩
 ·rintro i x acc hx ha;have et:xs.take (i+1)=xs.take i++[x]:=by rw [VV,hx];rfl
  refine h x (Rr hx) (λy=>(acc++[y]).Sublist (xs.take (i+1))) (acc.Sublist (xs.take (i+1))) ?_ ?_
  ·show(acc++[x]).Sublist (xs.take (i+1));rw [et];exact ha.append (List.Sublist.refl _)
  ·rw [et];exact ha.trans (List.sublist_append_left _ _)
 ·rintro acc ha;rw [RJ (PQ _)] at ha;exact q acc ha
theorem gM:(Pr "paper"==Pr "happens")=false:=td
theorem gN:(Pr "paper"==Pr "rule")=false:=td
theorem gO:(Pr "paper"==Pr "end")=false:=td
theorem gP:(Pr "paper"==Pr "hold")=false:=td
theorem gQ:(Pr "paper"==Pr "lift")=false:=td
theorem gR:(Pr "paper"==Pr "leave")=false:=td
theorem gS:(Pr "happens"==Pr "paper")=false:=td
theorem gT:(Pr "happens"==Pr "rule")=false:=td
theorem gU:(Pr "happens"==Pr "end")=false:=td
theorem gW:(Pr "happens"==Pr "hold")=false:=td
theorem gX:(Pr "happens"==Pr "lift")=false:=td
theorem gY:(Pr "happens"==Pr "leave")=false:=td
theorem gZ:(Pr "rule"==Pr "paper")=false:=td
theorem g6:(Pr "rule"==Pr "happens")=false:=td
theorem g9:(Pr "rule"==Pr "end")=false:=td
theorem hJ:(Pr "rule"==Pr "hold")=false:=td
theorem hV:(Pr "rule"==Pr "lift")=false:=td
theorem hW:(Pr "rule"==Pr "leave")=false:=td
theorem hX:(Pr "end"==Pr "paper")=false:=td
theorem hZ:(Pr "end"==Pr "happens")=false:=td
theorem h7:(Pr "end"==Pr "rule")=false:=td
theorem ic:(Pr "end"==Pr "hold")=false:=td
theorem ie:(Pr "end"==Pr "lift")=false:=td
theorem ig:(Pr "end"==Pr "leave")=false:=td
theorem ij:(Pr "hold"==Pr "paper")=false:=td
theorem ik:(Pr "hold"==Pr "happens")=false:=td
theorem il:(Pr "hold"==Pr "rule")=false:=td
theorem ip:(Pr "hold"==Pr "end")=false:=td
theorem iq:(Pr "hold"==Pr "lift")=false:=td
theorem iu:(Pr "hold"==Pr "leave")=false:=td
theorem iw:(Pr "lift"==Pr "paper")=false:=td
theorem ix:(Pr "lift"==Pr "happens")=false:=td
theorem iy:(Pr "lift"==Pr "rule")=false:=td
theorem iz:(Pr "lift"==Pr "end")=false:=td
theorem iA:(Pr "lift"==Pr "hold")=false:=td
theorem iB:(Pr "lift"==Pr "leave")=false:=td
theorem iC:(Pr "leave"==Pr "paper")=false:=td
theorem iD:(Pr "leave"==Pr "happens")=false:=td
theorem iE:(Pr "leave"==Pr "rule")=false:=td
theorem iF:(Pr "leave"==Pr "end")=false:=td
theorem iG:(Pr "leave"==Pr "hold")=false:=td
theorem iH:(Pr "leave"==Pr "lift")=false:=td
section
variable {X:Cx} {H0:Hp} {O0:Ex}
def fx:List Ww->(Ww->Prop)->Prop:=λds Q=>∃i:Int,ds=[.int i]/\i.natAbs.log2 < 1920/\Q (.str (toString i))
theorem oP{K:Pt}:nr K (λxs H Q=>∃i,xs=[.int i]/\i.natAbs.log2 < 1920/\Q (.str (toString i)) H) fx:=λH O xs ds Qd R _ hs uu88 k=>by
 obtain⟨i,e,hz,q⟩:=uu88;subst e;cases hs with
 | cons h r=>cases r;cases h.int;exact⟨i,rfl,hz,k _ _ H q (aq.refl _) (.str _)⟩
theorem rA:kB X (.type "int") (λxs H Q=>∃(z:Str)(n:Int),xs=[.str z]/\Tu z=some n/\z.length<=640/\Q (.int n) H):=by
 intro Ys s σ H xs us Q I r h;obtain⟨z,n,rfl,hn,hl,q⟩:=h;obtain⟨u,rfl,t,rfl⟩:=lj r;exact KIN.call_text hn hl ⟨.int n,H,I.tok _,⟨_,rfl⟩,q⟩
def fy:List Ww->(Ww->Prop)->Prop:=λds Q=>∃(z:Str)(n:Int),ds=[.str z]/\Tu z=some n/\z.length<=640/\Q (.int n)
theorem rB{K:Pt}:nr K (λxs H Q=>∃(z:Str)(n:Int),xs=[.str z]/\Tu z=some n/\z.length<=640/\Q (.int n) H) fy:=λH O xs ds Qd R _ hs uu89 k=>by
 obtain⟨z,n,e,hn,hl,q⟩:=uu89;subst e;cases hs with
 | cons h r=>cases r;cases h.str;exact⟨z,n,rfl,hn,hl,k _ _ H q (aq.refl _) (.int _)⟩
theorem Km:sT X "str.zfill" (λx xs H Q=>∃(z:Str)(i:Int),x= .str z/\xs=[.int i]/\PadOk i=true/\Q (.str (Txt.zfill z i)) H):=by
 intro Ys s σ H x xs v us Q I rx rs h;obtain⟨z,i,rfl,rfl,hp,q⟩:=h;obtain⟨t,rfl⟩:=rx;obtain⟨u,rfl,t',rfl⟩:=lj rs;exact SC.zfill hp λt' k=>⟨.str _,H,I.tok _,⟨_,rfl⟩,q⟩
def fz(to t:DT):DT:=λδ Q=>to δ λx=>∃z:Str,x= .str z/\t δ λy=>∃i:Int,y= .int i/\PadOk i=true/\Q (.str (Txt.zfill z i))
theorem D4{o e:WI}{to t:DT}{apos cpos:Pos}(ho:DE X H0 O0 o to)(ha:DE X H0 O0 e t)(hbase:Xn o "zfill" X.env (eval o X.env)=eval o X.env:=by rfl)
 (hfew:((WZ cpos (WH [e] X.env)).all (λx=>!x.1) && (Yb cpos (XM [] X.env)).all (λx=>x.1.isSome) && decide ([e].length+([]:List XA).length+(if ([]:List XA).isEmpty then 0 else 1) < 30))=true:=by rfl)
 (hline:(apos.endLine==cpos.line)=true:=by rfl)(hst:WH [e] X.env=(false,eval e X.env)::WH [] X.env:=by rfl)(hplain:(WZ cpos (WH [] X.env)).any (·.1)=false:=by rfl):
 DE X H0 O0 (.Call (.Attribute o "zfill" apos) [e] [] cpos) (fz to t):=
 (sU SV PySem.F.slot_str_zfill PySem.F.type_str_zfill Km ho (aQ ha bM hst) hbase hfew hline hst hplain).imp λσ H Q uu90=>by obtain⟨O,δ,Qd,w,q,k⟩:=uu90;exact⟨O,δ,_,w,q,λx v H1 uu91 s1 r1=>by
  obtain⟨z,e,q1⟩:=uu91;subst e;cases r1;exact⟨rfl,O,δ,_,w.mono s1,q1,λy u H2 uu92 s2 r2=>by obtain⟨i,e,hz,q2⟩:=uu92;subst e;cases r2;exact⟨z,i,rfl,rfl,hz,k _ _ H2 q2 (s1.trans s2) (.str _)⟩⟩⟩
theorem D5:∀{l:List (Str×Tok)}{ys:List Str},l.map (·.1)=ys->aM (ys.map V.str) (strValues l)
 | [],_,rfl=>.nil
 | (x,t)::r,_,rfl=>.cons ⟨t,rfl⟩ (D5 (l:=r) rfl)
theorem Kn:sT X "str.split" (λx xs H Q=>∃(z y:Str),x= .str z/\xs=[.str y]/\(y.length==0)=false/\z.length<=1000000/\∀p,H p=none->Q (.ref p) (ao H p (.lst ((Txt.split z y).map V.str)))):=by
 intro Ys s σ H x xs v us Q I rx rs h;obtain⟨z,y,rfl,rfl,hy,hz,q⟩:=h;obtain⟨t,rfl⟩:=rx;obtain⟨u,rfl,t',rfl⟩:=lj rs;have hsl:(WG:Nat)=16777216:=tx
 have hle:=split_le z y;have hq:∀(l:List (Str×Tok))(k:Nat),l.map (·.1)=Txt.split z y->EP X Ys σ Q (.ref s.heap.objs.size) {s with heap:=s.heap.push {cls:= .type "list",data:= .seq (strValues l).toArray},toks:=k}:=λl k e=>
  ⟨.ref _,_,I.laid (t':=k) (o:= .lst ((Txt.split z y).map V.str)) (λb ob q=>PB _ q) (PQ _) ⟨by rw [PD];omega,_,0,D5 e,Qi _ rfl⟩,rfl,q _ I.fresh⟩
 cases h1:(decide (z.length < y.length) || decide (Vb z < Vb y))
 ·cases hf:(R1 z y 0 z.length (z.length+1)).isEmpty
  ·have hn:(Uv z (R1 z y 0 z.length (z.length+1)) y.length).length<=WG:=by
    rw [len_partsBetween];have:=StrLaws.occ_length_le z y 0 z.length (z.length+1);omega
   refine Xs F.slot_str_split (Xr _ _ _) F.entry_str_split (F.args_str_split_2 _ _) (meets_str_split_sep z y t t' h1 hy hf Ce hn) ?_;show wants _ _ _ {s with toks:=_,heap:=s.heap.push {cls:= .type "list",data:= .seq (strsFrom s.toks (Uv z (R1 z y 0 z.length (z.length+1)) y.length)).toArray}};rw [strsFrom_eq];exact hq (numbered s.toks _) _ ((numbered_texts _ _).trans ((Ws (ne_true_of_eq_false h1)).trans (Ws (ne_true_of_eq_false hf))).symm)
  ·exact Xs F.slot_str_split (Xr _ _ _) F.entry_str_split (F.args_str_split_2 _ _) (meets_str_split_not_found z y t t' h1 hy hf) (hq [(z,t)] s.toks ((Ws (ne_true_of_eq_false h1)).trans (Wt hf)).symm)
 ·exact Xs F.slot_str_split (Xr _ _ _) F.entry_str_split (F.args_str_split_2 _ _) (meets_str_split_cannot_occur z y t t' h1) (hq [(z,t)] s.toks (Wt h1).symm)
def fA(to t:DT):DA:=λδ Q=>to δ λx=>∃z:Str,x= .str z/\t δ λy=>∃y':Str,y= .str y'/\(y'.length==0)=false/\z.length<=1000000/\Q ((Txt.split z y').map .str)
theorem oQ{o e:WI}{to t:DT}{apos cpos:Pos}(ho:DE X H0 O0 o to)(ha:DE X H0 O0 e t)(hbase:Xn o "split" X.env (eval o X.env)=eval o X.env:=by rfl)
 (hfew:((WZ cpos (WH [e] X.env)).all (λx=>!x.1) && (Yb cpos (XM [] X.env)).all (λx=>x.1.isSome) && decide ([e].length+([]:List XA).length+(if ([]:List XA).isEmpty then 0 else 1) < 30))=true:=by rfl)
 (hline:(apos.endLine==cpos.line)=true:=by rfl)(hst:WH [e] X.env=(false,eval e X.env)::WH [] X.env:=by rfl)(hplain:(WZ cpos (WH [] X.env)).any (·.1)=false:=by rfl):
 FE X H0 O0 (.Call (.Attribute o "split" apos) [e] [] cpos) (fA to t):=
 (sU SV PySem.F.slot_str_split PySem.F.type_str_split Kn ho (aQ ha bM hst) hbase hfew hline hst hplain).imp λσ H Q uu93=>by obtain⟨O,δ,Qd,w,q,k⟩:=uu93;exact⟨O,δ,_,w,q,λx v H1 uu94 s1 r1=>by
  obtain⟨z,e,q1⟩:=uu94;subst e;cases r1;exact⟨rfl,O,δ,_,w.mono s1,q1,λy u H2 uu95 s2 r2=>by obtain⟨y',e,hy,hz,q2⟩:=uu95;subst e;cases r2;exact⟨z,y',rfl,rfl,hy,hz,λp hp=>k _ _ p H2 q2 (s1.trans s2) hp (au.ofStrs _)⟩⟩⟩
def PF(X:Cx)(H0:Hp)(O0:Ex)(e:WI)(t:DT):Prop:=∀(Ys:List (WA×Obj))(s:WB)(σ:St)(H:Hp)(R:Str->Prop)(Q:VK),ag X Ys σ H s->(∃O δ,Wd X.K H0 O0 H O σ δ/\t δ (λd=>∃z:Str,d= .str z/\z.length<=WG/\R z)/\∀z H',R z->aq H H'->Q (.str z) H')->WD (WE X.prog X.w) X.A (eval e X.env) (EP X Ys σ Q) X.xe s
theorem D6{x j pos}:PF X H0 O0 (.Constant (.str x) j pos) (dC (.str x)):=λYs s σ H R Q I h=>by
 obtain⟨O,δ,w,⟨z,e,hz,q⟩,k⟩:=h;injection e with e;subst e
 exact wt Ys s σ H Q I (k _ H q (aq.refl _))
theorem As{e:WI}{t:DT}{pos:Pos}(h:DE X H0 O0 e t):PF X H0 O0 (.FormattedValue e (-1) none pos) t:=λYs s σ H R Q I hh=>by
 obtain⟨O,δ,w,q,k⟩:=hh;refine FormattedValue_plain (aC (h Ys s σ H (λv H1=>∃z:Str,v= .str z/\z.length<=WG/\Q (.str z) H1) I ⟨O,δ,_,w,q,λd v H1 uu96 s1 r1=>by obtain⟨z,e,hz,q1⟩:=uu96;subst e;cases r1;exact⟨z,rfl,hz,k _ H1 q1 s1⟩⟩) λv s1 ⟨x,H1,I1,r1,z,e,hz,q1⟩=>?_);subst e;obtain⟨t,rfl⟩:=r1;exact formatField_str (λt' tk=>⟨.str z,H1,I1.tok _,⟨_,rfl⟩,q1⟩) hz
def cu:List DT->Str->DT
 | [],out=>λ_ Q=>out.length<=WG/\Q (.str out)
 | t::ts,out=>λδ Q=>t δ λd=>∃z:Str,d= .str z/\z.length<=WG/\(out++z).length<=WG/\cu ts (out++z) δ Q
inductive tL (X:Cx) (H0:Hp) (O0:Ex):List WI->List DT->Prop
 | nil:tL X H0 O0 [] []
 | cons {e:WI} {es:List WI} {t:DT} {ts:List DT}:PF X H0 O0 e t->tL X H0 O0 es ts->tL X H0 O0 (e::es) (t::ts)
theorem Ko{es:List WI}{ts:List DT}(h:tL X H0 O0 es ts):∀(out:Str)(Ys:List (WA×Obj))(s:WB)(σ:St)(H:Hp)(Q:VK),ag X Ys σ H s->up X.K H0 O0 (cu ts out) σ H Q->
 WD (WE X.prog X.w) X.A (joinParts out (evalEach es X.env)) (EP X Ys σ Q) X.xe s:=by
 induction h with
 | nil=>
  intro out Ys s σ H Q I ⟨O,δ,Qd,w,⟨hz,q⟩,k⟩;exact joinParts_nil ⟨.str out,H,I.tok _,⟨_,rfl⟩,k _ _ H q (aq.refl _) (.str out)⟩ hz
 | @cons e es t ts hp hs ih=>
  intro out Ys s σ H Q I ⟨O,δ,Qd,w,q,k⟩;show WD (WE X.prog X.w) X.A (joinParts out (eval e X.env::evalEach es X.env)) (EP X Ys σ Q) X.xe s;refine joinParts_cons (aC (hp Ys s σ H (λz=>(out++z).length<=WG/\cu ts (out++z) δ Qd) (λv H1=>∃z:Str,v= .str z/\(out++z).length<=WG/\up X.K H0 O0 (cu ts (out++z)) σ H1 Q) I ⟨O,δ,w,q,?_⟩) λv s1 ⟨x,H1,I1,r1,z,e,hz,q1⟩=>?_)
  ·rintro z H1 ⟨hz,q1⟩ s1;exact⟨z,rfl,hz,O,δ,Qd,w.mono s1,q1,λd v H2 q2 s2 r2=>k d v H2 q2 (s1.trans s2) r2⟩
  ·subst e;obtain⟨t',rfl⟩:=r1;exact⟨hz,ih _ _ _ _ _ _ I1 q1⟩
theorem Kp{e1 e2:WI}{es:List WI}{ts:List DT}{pos:Pos}(h:tL X H0 O0 (e1::e2::es) ts):DE X H0 O0 (.JoinedStr (e1::e2::es) pos) (cu ts TR):=λYs s σ H Q I hh=>
 JoinedStr_many (Ko h TR Ys s σ H Q I hh)
def iI:DS:=λ_ _=>False
def D7(ns:List Int):List Ww:=ns.map .int
def iJ:Ww->Ww->(Ww->Prop)->Prop:=λx y Q=>(∃i j:Int,x= .int i/\y= .int j/\Q (.bool (decide (i < j))))\/(∃i j:Str,x= .str i/\y= .str j/\Q (.bool (decide (i.cps.toList < j.cps.toList))))\/
 (∃ns ms:List Int,x= .tuple (D7 ns)/\y= .tuple (D7 ms)/\Q (.bool (HT.lexLt ns ms)))
end
section
variable {α:Type} {P:α->Prop}
theorem fB{a:Ww}{r:Dl}{P:Ww->Prop}:kL 0 (some (Sl.v a)::r) P=P a:=rfl
theorem iK{x:Option Sl}{r:Dl}{i:Nat}{P:Ww->Prop}:kL (i+1) (x::r) P=kL i r P:=rfl
theorem iL{a:List Ww}{r:Dl}{P:List Ww->Prop}:(∃d,(some (Sl.o a)::r)[0]?=some (some (Sl.o d))/\P d)=P a:=Wv
theorem iM{x:Option Sl}{r:Dl}{i:Nat}{P:List Ww->Prop}:(∃d,(x::r)[i+1]?=some (some (Sl.o d))/\P d)=(∃d,r[i]?=some (some (Sl.o d))/\P d):=Wv
theorem iN{a:List Ww}{l:Dl}{i:Nat}{P:List Ww->Prop}:(∃d,(l.set i (some (Sl.o a)))[i]?=some (some (Sl.o d))/\P d)=(i < l.length/\P a):=by
 apply propext;rw [Uz];constructor
 ·rintro⟨d,e,p⟩;by_cases h:i < l.length
  ·rw [Q1 h] at e;cases e;exact⟨h,p⟩
  ·rw [Sf Ce] at e;cases e
 ·rintro⟨h,p⟩;exact⟨a,by rw [Q1 h];rfl,p⟩
theorem iO{x:Option Sl}{l:Dl}{i j:Nat}{P:List Ww->Prop}(h:i≠j):(∃d,(l.set i x)[j]?=some (some (Sl.o d))/\P d)=(∃d,l[j]?=some (some (Sl.o d))/\P d):=by rw [Q5 h]
theorem iP{a:Bool}{P:Bool->Prop}:(∃b,TK a= .bool b/\P b)=P a:=Wv
theorem iQ{a:Int}{P:Int->Prop}:(∃b,PV a= .int b/\P b)=P a:=Wv
theorem iR{a:Str}{P:Str->Prop}:(∃b,Pu a= .str b/\P b)=P a:=Wv
theorem iS{a:List Ww}{P:List Ww->Prop}:(∃b,QF a= .tuple b/\P b)=P a:=Wv
theorem iT{a:List Ww}{P:List Ww->Prop}:(∃b,Ra a= .list b/\P b)=P a:=Wv
theorem iU{a b:Int}{P:Int->Int->Prop}:(∃i j,PV a= .int i/\PV b= .int j/\P i j)=P a b:=Wv
theorem iV{a b:Str}{P:Str->Str->Prop}:(∃i j,Pu a= .str i/\Pu b= .str j/\P i j)=P a b:=Wv
theorem iW{a b:List Ww}{P:List Ww->List Ww->Prop}:(∃i j,QF a= .tuple i/\QF b= .tuple j/\P i j)=P a b:=Wv
theorem iX{a b:List Ww}{P:List Ww->List Ww->Prop}:(∃i j,Ra a= .list i/\Ra b= .list j/\P i j)=P a b:=Wv
theorem iY{a:Ww}{r:List Ww}{P:Ww->List Ww->Prop}:(∃x y,a::r=x::y/\P x y)=P a r:=propext ⟨λuu2=>by obtain⟨_,_,e,p⟩:=uu2;cases e;exact p,λp=>⟨_,_,rfl,p⟩⟩
theorem iZ{a b:Ww}{P:Ww->Ww->Prop}:(∃x y,[a,b]=[x,y]/\P x y)=P a b:=propext ⟨λuu3=>by obtain⟨_,_,e,p⟩:=uu3;cases e;exact p,λp=>⟨_,_,rfl,p⟩⟩
theorem i3{a:Ww}{r:List Ww}{P:Ww->Prop}:(∃ds i d,QF (a::r)= .tuple ds/\PV 0= .int i/\atI ds i=some d/\P d)=P a:=by simp [aV]
theorem i4{a b:Ww}{r:List Ww}{P:Ww->Prop}:(∃ds i d,QF (a::b::r)= .tuple ds/\PV 1= .int i/\atI ds i=some d/\P d)=P b:=by simp [bw]
theorem i5{a b c:Ww}{r:List Ww}{P:Ww->Prop}:(∃ds i d,QF (a::b::c::r)= .tuple ds/\PV 2= .int i/\atI ds i=some d/\P d)=P c:=by simp [bX]
theorem i6{a b c e:Ww}{r:List Ww}{P:Ww->Prop}:(∃ds i d,QF (a::b::c::e::r)= .tuple ds/\PV 3= .int i/\atI ds i=some d/\P d)=P e:=by simp [cU]
theorem i7{a:Ww}{r:List Ww}{P:Ww->Prop}:(∃ds i d,Ra (a::r)= .list ds/\PV 0= .int i/\atI ds i=some d/\P d)=P a:=by simp [aV]
theorem i8{a b:Ww}{r:List Ww}{P:Ww->Prop}:(∃ds i d,Ra (a::b::r)= .list ds/\PV 1= .int i/\atI ds i=some d/\P d)=P b:=by simp [bw]
theorem i9{a b c:Ww}{r:List Ww}{P:Ww->Prop}:(∃ds i d,Ra (a::b::c::r)= .list ds/\PV 2= .int i/\atI ds i=some d/\P d)=P c:=by simp [bX]
theorem ja{xs:List Ww}{k:Int}{P:Ww->Prop}:(∃ds i d,QF xs= .tuple ds/\PV k= .int i/\atI ds i=some d/\P d)=(∃d,atI xs k=some d/\P d):=Wv
theorem jb{xs:List Ww}{k:Int}{P:Ww->Prop}:(∃ds i d,Ra xs= .list ds/\PV k= .int i/\atI ds i=some d/\P d)=(∃d,atI xs k=some d/\P d):=Wv
end
theorem jd{w v:Str}{r:List Ww}{l:Dl}{Q:Bool->Prop}:bI (bB cq (bB cn (kL 0) (dC (.int 0))) (dC (.str v))) (some (.v (.tuple (.str w::r)))::l) Q=Q (w==v):=by
 simp [bI,bB,cq,cn,fB,dC,aV,kK,aT]
theorem je{v:Str}{x:Option Sl}{l:Dl}{k:Nat}{Q:Bool->Prop}:bI (bB cq (bB cn (kL 0) (dC (.int 0))) (dC (.str v))) (l.set (k+1) x) Q=bI (bB cq (bB cn (kL 0) (dC (.int 0))) (dC (.str v))) l Q:=by
 simp only [bI,bB,kL,dC,Q5 (show k+1≠0 by omega)]
def pJ:br->Ww
 | .inl i=>.int i
 | .inr x=>.str x
def uZ(kd:List (br×Ww))(k:br):Option Ww:=(kd.find? λp=>decide (p.1=k)).map (·.2)
def D8(kd:List (br×Ww))(k:br)(d:Ww):List (br×Ww):=if (kd.any λp=>decide (p.1=k))=true then kd.map (λp=>if p.1=k then(p.1,d) else p) else kd++[(k,d)]
section
variable {X:Cx} {H0:Hp} {O0:Ex}
abbrev tM:=Dl->(List (br×Ww)->Prop)->Prop
inductive D9 (K:Pt) (H0:Hp) (O0:Ex) (t:tM) (σ:St) (H:Hp) (R:VK):Prop
 | mk (O:Ex) (δ:Dl) (Qd:List (br×Ww)->Prop):Wd K H0 O0 H O σ δ->t δ Qd->(∀kd kv p H',Qd kd->aq H H'->H' p=none->l7 K H' O kv kd->R (.ref p) (ao H' p (.dK kv)))->D9 K H0 O0 t σ H R
abbrev KE(X:Cx)(H0:Hp)(O0:Ex)(e:WI)(t:tM):Prop:=PE X e (D9 X.K H0 O0 t)
def jf:tM:=λ_ Q=>Q []
def jg(i:Nat)(t:tM):DS:=λE δ=>t δ λkd=>E.nx (δ.set i (some (.k kd)))
def jh(i:Nat)(tk tv:DT):DS:=λE δ=>tv δ λd=>∃kd,δ[i]?=some (some (.k kd))/\tk δ λy=>∃k,y=pJ k/\kd.length < WG/\E.nx (δ.set i (some (.k (D8 kd k d))))
def ji(i:Nat)(tk:DT):DT:=λδ Q=>∃kd,δ[i]?=some (some (.k kd))/\tk δ λy=>∃k d,y=pJ k/\uZ kd k=some d/\Q d
def jj(i:Nat)(tk:DT):DT:=λδ Q=>∃kd,δ[i]?=some (some (.k kd))/\tk δ λy=>∃k,y=pJ k/\Q ((uZ kd k).getD .none)
def jk(neg:Bool)(i:Nat)(tk:DT):DT:=λδ Q=>tk δ λy=>∃k,y=pJ k/\∃kd,δ[i]?=some (some (.k kd))/\Q (.bool (if neg then !(uZ kd k).isSome else(uZ kd k).isSome))
open PySem PySem.Spec PyProof.Rows PySem.W PySem.Calls
def jl(i:Nat):DA:=λδ Q=>∃kd,δ[i]?=some (some (.k kd))/\∃ss:List Str,kd.map (·.1)=ss.map Tr/\ss.length < 64/\Q ((kY ss).map .str)
end
section
theorem jm{a:List (br×Ww)}{r:Dl}{P:List (br×Ww)->Prop}:(∃d,(some (Sl.k a)::r)[0]?=some (some (Sl.k d))/\P d)=P a:=Wv
theorem jn{x:Option Sl}{r:Dl}{i:Nat}{P:List (br×Ww)->Prop}:(∃d,(x::r)[i+1]?=some (some (Sl.k d))/\P d)=(∃d,r[i]?=some (some (Sl.k d))/\P d):=Wv
theorem jo{a:List (br×Ww)}{l:Dl}{i:Nat}{P:List (br×Ww)->Prop}:(∃d,(l.set i (some (Sl.k a)))[i]?=some (some (Sl.k d))/\P d)=(i < l.length/\P a):=by
 apply propext;rw [Uz];constructor
 ·rintro⟨d,e,p⟩;by_cases h:i < l.length
  ·rw [Q1 h] at e;cases e;exact⟨h,p⟩
  ·rw [Sf Ce] at e;cases e
 ·rintro⟨h,p⟩;exact⟨a,by rw [Q1 h];rfl,p⟩
theorem jq{x:Option Sl}{l:Dl}{i j:Nat}{P:List (br×Ww)->Prop}(h:i≠j):(∃d,(l.set i x)[j]?=some (some (Sl.k d))/\P d)=(∃d,l[j]?=some (some (Sl.k d))/\P d):=by rw [Q5 h]
theorem jr{x:Str}{P:br->Prop}:(∃k,Pu x=pJ k/\P k)=P (.inr x):=propext ⟨λuu4=>by obtain⟨k,e,p⟩:=uu4;cases k with | inl i=>cases e | inr y=>cases e;exact p,λp=>⟨_,rfl,p⟩⟩
theorem jt{x:Int}{P:br->Prop}:(∃k,PV x=pJ k/\P k)=P (.inl x):=propext ⟨λuu5=>by obtain⟨k,e,p⟩:=uu5;cases k with | inr i=>cases e | inl y=>cases e;exact p,λp=>⟨_,rfl,p⟩⟩
end
def mn:Ww->Bool
 | .none=>true
 | _=>false
def fC:Ww->Ww->(Ww->Prop)->Prop:=λx y Q=>y= .none/\Q (.bool (mn x))
def fD:Ww->Ww->(Ww->Prop)->Prop:=λx y Q=>y= .none/\Q (.bool (!mn x))
theorem Sh.isN{K:Pt}{H:Hp}{O:Ex}{x:V}{d:Ww}(h:Sh K H O x d):decide (x= .non)=mn d:=by
 cases h with
 | dt h=>cases h <;> simp [mn]
 | _=>simp [mn]
theorem va{K:Pt}:j7 K (λx y H Q=>y= .non/\Q (.bl (decide (x= .non))) H) fC:=λH O x y dx dy Qd R _ hx hy uu6 k=>by
 obtain⟨e,q⟩:=uu6;subst e;refine⟨hy.non,?_⟩;rw [hx.isN];exact k _ _ H q (aq.refl _) (.bl _)
theorem Kq{K:Pt}:j7 K (λx y H Q=>y= .non/\Q (.bl (!decide (x= .non))) H) fD:=λH O x y dx dy Qd R _ hx hy uu7 k=>by
 obtain⟨e,q⟩:=uu7;subst e;refine⟨hy.non,?_⟩;rw [hx.isN];exact k _ _ H q (aq.refl _) (.bl _)
def ju:List Ww->(Ww->Prop)->Prop:=λds Q=>∃i:Int,ds=[.int i]/\Q (.int (if i < 0 then -i else i))
def jv:Ww->Ww->(Ww->Prop)->Prop:=λx y Q=>∃ds i d,x=mD ds/\y= .int i/\atI ds i=some d/\Q d
section
variable {X:Cx} {H0:Hp} {O0:Ex}
def jw(t:DT)(tl th:DO):DA:=λδ Q=>t δ λd=>tl δ λl=>th δ λu=>∃xs,d=mD xs/\Q (bA xs l u)
end
def jx:Ww->Ww->(Ww->Prop)->Prop:=λx y Q=>∃(z:Str)(n:Int),x= .str z/\y= .int n/\MulOk z n/\Q (.str (Txt.mul z n))
structure Rw where
 w:Str
 n:Int
 nm:Str
 r:List Ww
def qw(ws:List Str)(day:Int)(x:Rw):Prop:=x.w∈ws/\x.n<=day
instance {ws:List Str} {day:Int} {x:Rw}:Decidable (qw ws day x):=by unfold qw;infer_instance
abbrev Ls:=List (Str×Rw)
open PySem PySem.Spec PyProof.Rows PySem.W PySem.Calls
theorem Kr(t:XQ)(n:Nat):(t.orStandIn n).led=t.led:=by unfold SetTable.orStandIn;split <;> rfl
theorem Ks(t:XQ)(es:Array (Int×Wx))(h:Int)(x:Wx):(layNew t es h x).2.1.led=t.led:=by
 unfold layNew;split
 ·exact Kr _ _
 ·rfl
theorem Kt(t:XQ)(es:Array (Int×Wx))(n:Nat):(X1 t es n).2.1.led=t.led:=by
 unfold X1 VP V3;cases Vu (Vl n - 1) (es.map (·.1)) with
 | none=>rfl
 | some ow=>simp only [bind,Wj,pure];split <;> rfl
theorem Ku(t:XQ)(es:Array (Int×Wx))(n:Nat):(X1 t es n).2.1.plain=true->t.plain=true:=by
 unfold X1 VP V3;cases Vu (Vl n - 1) (es.map (·.1)) with
 | none=>intro e;cases e
 | some ow=>
  simp only [bind,Wj,pure];split
  ·exact id
  ·intro e;cases e
abbrev mq(w:WO):Bool:=w.params.followText "set-order"
structure Kv (P:WM) (w:WO) (o:Obj) (ss:List Str):Prop where
 ex:o.ExactSet
 da:∃es ep t,o.data= .set es ep t/\ElemsOf (strKind P w) es.toList/\(∃ss',W6 (es.toList.map (·.2)) ss'/\ss'.Perm ss)/\es.size < XC/\t.fits es.size=true/\(mq w=true\/t.led=true)/\(es.size≠0->t.plain=false)
def kO(P:WM)(w:WO)(h:WL)(a:WA)(ss:List Str):Prop:=∃o,h.get? a=some o/\Kv P w o ss
theorem Ea{k:Str}:∀{vs:List Wx}{ss:List Str},W6 vs ss->((∃v∈vs,v.isStrOf k=true)↔k∈ss)
 | _,_,.nil=>by simp
 | _,_,.cons x t r=>by
  have ih:=Ea (k:=k) r;constructor
  ·rintro⟨v,hv,e⟩;rcases PH.mp hv with z | z
   ·subst z;obtain⟨u,e'⟩:=U8 e;cases e';exact RE
   ·exact Q4 _ (ih.mp ⟨v,z,e⟩)
  ·intro hk;rcases PH.mp hk with z | z
   ·subst z;exact⟨_,RE,by simp [VZ]⟩
   ·obtain⟨v,hv,e⟩:=ih.mpr z;exact⟨v,Q4 _ hv,e⟩
theorem vb{vs vs':List Wx}(p:vs'.Perm vs):∀{ss:List Str},W6 vs ss->∃ss',W6 vs' ss'/\ss'.Perm ss:=by
 induction p with
 | nil=>intro ss h;exact⟨ss,h,.refl _⟩
 | cons x p ih=>
  intro ss h;cases h with
  | cons y t r=>obtain⟨s1,a,b⟩:=ih r;exact⟨y::s1,.cons y t a,b.cons y⟩
 | swap x y l=>
  intro ss h;cases h with
  | cons a t r=>cases r with | cons b u r=>exact⟨b::a::_,.cons b u (.cons a t r),.swap _ _ _⟩
 | trans p q ih1 ih2=>
  intro ss h;obtain⟨s1,a,b⟩:=ih2 h;obtain⟨s2,c,d⟩:=ih1 a;exact⟨s2,c,d.trans b⟩
theorem Eb{x:Str}{t:Tok}:∀{vs:List Wx}{ss:List Str},W6 vs ss->W6 (vs++[.str x t]) (ss++[x])
 | _,_,.nil=>.cons x t .nil
 | _,_,.cons y u r=>.cons y u (Eb r)
theorem tN:∀{vs:List Wx}{ss:List Str},W6 vs ss->vs.length=ss.length
 | _,_,.nil=>rfl
 | _,_,.cons y u r=>by simp [tN r]
def kD(ss:List Str)(x:Str):List Str:=if x∈ss then ss else ss++[x]
section
variable {P:WM} {w:WO} {A:WR} {E:Wx->WB->Prop} {s:WB}
theorem kO.mk{h:WL}{a:WA}{o:Obj}{es es':Array (Int×Wx)}{ep:Nat}{t t':XQ}{ss:List Str}(o1:h.get? a=some o)(x1:o.ExactSet)(d1:o.data= .set es ep t)
 (el:ElemsOf (strKind P w) es'.toList)(sp:∃ss',W6 (es'.toList.map (·.2)) ss'/\ss'.Perm ss)(b1:es'.size < XC)(f1:t'.fits es'.size=true)(l1:mq w=true\/t'.led=true)(p1:es'.size≠0->t'.plain=false):
 (h.update a (Up es' t')).get? a=some {o with data:= .set es' (ep+1) t'}/\kO P w (h.update a (Up es' t')) a ss:=by
 have g:(h.update a (Up es' t')).get? a=some {o with data:= .set es' (ep+1) t'}:=by
  have z:=Rm (Up es' t') o1 (by rw [putSet_of es' t' d1];rfl);rw [putSet_of es' t' d1] at z;exact z
 exact⟨g,_,g,x1,es',ep+1,t',rfl,el,sp,b1,f1,l1,p1⟩
theorem Ec{g:Bool->Sem Unit}(hg:∀(b:Bool) (s₁:WB) (Q':Unit->WB->Prop),Q' () s₁->WD (WE P w) A (g b) Q' E s₁)
 {a:WA}{o:Obj}{es:Array (Int×Wx)}{ep:Nat}{t:XQ}(o1:s.heap.get? a=some o)(x1:o.ExactSet)(d1:o.data= .set es ep t)
 {es1:Array (Int×Wx)}{t2:XQ}{ss:List Str}(el:ElemsOf (strKind P w) es1.toList)(sp:∃ss',W6 (es1.toList.map (·.2)) ss'/\ss'.Perm ss)
 (b1:es1.size < XC)(f2:t2.fits es1.size=true)(l2:mq w=true\/t2.led=true)(p2:t2.plain=false){wd:Bool}{R:Option Bool->WB->Prop}
 (h:∀h',Ss a s.heap h'->kO P w h' a ss->R (some true) {s with heap:=h'}):
 WD (WE P w) A (do
  storeSet a es1 t2
  if (!wd && t2.tooFull)=true then do
   g (X1 t2 es1 (Sq es1.size)).2.2
   storeSet a (X1 t2 es1 (Sq es1.size)).1 (X1 t2 es1 (Sq es1.size)).2.1
   pure (some true)
   else pure (some true)) R E s:=by
 refine Wy (wpAny_storeSet_of o1 d1 ?_ (fits_of_scanBound b1));obtain⟨o2,S2⟩:=kO.mk (P:=P) o1 x1 d1 el sp b1 f2 l2 (λ_=>p2);have sb:=RB s.heap a (Up es1 t2);split
 ·have rp:=relayAll_perm t2 es1 (Sq es1.size);have rf:=relayAll_fits t2 es1 (Sq es1.size);have rl:=Kt t2 es1 (Sq es1.size);have rq:=Ku t2 es1 (Sq es1.size);generalize X1 t2 es1 (Sq es1.size)=Z at rp rf rl rq⊢;obtain⟨es2,t3,gv⟩:=Z;dsimp only at rp rf rl rq⊢;have sz:es2.size=es1.size:=by rw [<-P2,rp.length_eq,P2]
  obtain⟨ss',q1,q2⟩:=sp;obtain⟨ss2,q3,q4⟩:=vb (rp.map (·.2)) q1;refine Wy (hg _ _ _ (Wy (wpAny_storeSet_of o2 rfl ?_ (fits_of_scanBound (by rw [sz];exact b1)))));obtain⟨_,S3⟩:=kO.mk (P:=P) (w:=w) (t':=t3) o2 x1 rfl (el.perm rp) ⟨ss2,q3,q4.trans q2⟩ (by rw [sz];exact b1) rf (by rw [rl];exact l2) (λ_=>by
   cases hb:t3.plain with
   | false=>rfl
   | true=>rw [rq hb] at p2;cases p2)
  exact WC (h _ (sb.trans (RB _ a _)) S3)
 ·exact WC (h _ sb S2)
theorem Kw{a:WA}{ss:List Str}{x:Str}{tk:Tok}{Q:Bool->WB->Prop}(hS:kO P w s.heap a ss)(hroom:ss.length+1 < XC)
 (h:∀h' b,Ss a s.heap h'->kO P w h' a (kD ss x)->Q b {s with heap:=h'}):
 WD (WE P w) A (setAddHashed a (.str x tk) (hashStr w x)) Q E s:=by
 obtain⟨o,o1,x1,es,ep,t,d1,el,⟨ss',s1,s2⟩,b1,f1,l1,p1⟩:=hS;have hk:(strKind P w).is x (.str x tk)=true:=strKind_is _ _ _ _;have hsc:(S7 x tk).scannable=true:=rfl;have ln:es.size=ss.length:=by rw [<-s2.length_eq,<-tN s1,PD,P2]
 unfold setAddHashed setAddHashedIn;refine W3 (Wy (Xp o1 d1 f1 ?_));dsimp only;rw [byScan_of hsc b1 el,Wt rfl];unfold setAddByScan;refine Wy (Wy (XF (Wy (wpAny_setScan_of hk o1 d1 f1 el ?_))));have mem:(∃e∈es.toList,(strKind P w).is x e.2=true)↔x∈ss:=by
  rw [<-s2.mem_iff,<-Ea s1];constructor
  ·rintro⟨e,he,q⟩;exact⟨e.2,QO.mpr ⟨e,he,rfl⟩,q⟩
  ·rintro⟨v,hv,q⟩;obtain⟨e,he,rfl⟩:=QO.mp hv;exact⟨e,he,q⟩
 cases hr:List.findIdx? (λe=>(strKind P w).is x e.2) es.toList with
 | some j=>
  obtain⟨hj,hp,_⟩:=List.findIdx?_eq_some_iff_getElem.mp hr;have hx:x∈ss:=mem.mp ⟨_,Sb hj,hp⟩;refine WC (WC ?_);have z:=h s.heap false (Ss.refl a s.heap) (by unfold kD;rw [Wt hx];exact⟨o,o1,x1,es,ep,t,d1,el,⟨ss',s1,s2⟩,b1,f1,l1,p1⟩);have e:s={s with heap:=s.heap}:=by cases s;rfl
  rw [e];exact z
 | none=>
  dsimp only;have hx:x ∉ ss:=λz=>by
   obtain⟨e,he,q⟩:=mem.mpr z;have:=List.findIdx?_eq_none_iff.mp hr e he;rw [q] at this;cases this
  have eS:kD ss x=ss++[x]:=Ws hx;rw [eS] at h;have lp:=layNew_perm t es (hashStr w x) (.str x tk);have lf:=layNew_fits t es (hashStr w x) (.str x tk);have ll:=Ks t es (hashStr w x) (.str x tk);generalize layNew t es (hashStr w x) (.str x tk)=L at lp lf ll⊢;obtain⟨es1,t1,wd,gv⟩:=L;dsimp only at lp lf ll⊢;rw [Vv] at lp;have el1:ElemsOf (strKind P w) es1.toList:=(el.push hk hsc).perm lp;have sp1:∃ss',W6 (es1.toList.map (·.2)) ss'/\ss'.Perm (ss++[x]):=by
   have s3:W6 ((es.toList++[(hashStr w x,S7 x tk)]).map (·.2)) (ss'++[x]):=by
    rw [RG];exact Eb s1
   obtain⟨s4,q1,q2⟩:=vb (lp.map (·.2)) s3;exact⟨s4,q1,q2.trans (s2.append_right _)⟩
  have n1:es1.size=es.size+1:=by rw [<-P2,lp.length_eq];simp
  have b2:es1.size < XC:=Ce
  have l2:mq w=true\/t1.led=true:=by rw [ll];exact l1
  have gw:∀(b:Bool)(s₁:WB)(Q':Unit->WB->Prop),Q' () s₁->WD (WE P w) A (match b with | true=>rule "set.scan.the-table-gave-way" | false=>pure ()) Q' E s₁:=
   λb s₁ Q' z=>by cases b <;> first | exact WC z | exact XF z
  refine Wy (gw _ _ _ ?_);split
  ·refine Wy ?_;rw [hashByValue_scannable 8 hsc];refine WC ?_;refine Ec gw o1 x1 d1 el1 sp1 b2 (SetTable.fits_plain_off lf) l2 rfl λh' sb S'=>WC (h h' true sb S')
  ·rename_i hp;refine Wy (WC ?_);rw [Wt rfl];exact Ec gw o1 x1 d1 el1 sp1 b2 lf l2 (by simpa using hp) λh' sb S'=>WC (h h' true sb S')
end
def oR(val:Nat->Str)(i:Nat):List Str:=((Rz i).map val).foldl kD []
theorem Ed(val:Nat->Str)(i:Nat):oR val (i+1)=kD (oR val i) (val i):=by
 unfold oR;rw [SS,RG,List.foldl_append];rfl
theorem Ee(val:Nat->Str):∀i,(oR val i).length<=i
 | 0=>PQ _
 | i+1=>by
  have ih:=Ee val i;rw [Ed];unfold kD;split
  ·omega
  ·simp;omega
theorem Kx{ss:List Str}{x:Str}(h:ss.Nodup):(kD ss x).Nodup:=by
 unfold kD;split
 ·exact h
 ·rename_i hx;refine List.nodup_append.mpr ⟨h,Wv,λa ha b hb=>?_⟩;rw [Rc] at hb;subst hb;intro e;subst e;exact hx ha
theorem Ky{ss:List Str}{x y:Str}:y∈kD ss x↔y∈ss\/y=x:=by
 unfold kD;split
 ·rename_i hx;exact⟨.inl,λz=>z.elim id λe=>by subst e;exact hx⟩
 ·simp
theorem Au{y:Str}:∀{l ss:List Str},y∈l.foldl kD ss↔y∈ss\/y∈l
 | [],ss=>by simp
 | a::l,ss=>by rw [R5,Au,Ky,PH];exact or_assoc
theorem Av:∀{l ss:List Str},ss.Nodup->(l.foldl kD ss).Nodup
 | [],_,h=>h
 | a::l,_,h=>by rw [R5];exact Av (Kx h)
theorem kO.stay{P:WM}{w:WO}{h h':WL}{a:WA}{ss:List Str}(x:kO P w h a ss)(k:∀o,h.get? a=some o->h'.get? a=some o):kO P w h' a ss:=
 let ⟨o,e,r⟩:=x;⟨o,k o e,r⟩
section
variable {P:WM} {w:WO} {A:WR} {R:Yh->WB->Prop} {I:WA} {fp wr:List WA} {G:Array XZ->Array XZ->Prop} {n:Nat} {Pv:Nat->Wx->Prop} {St:Nat->WB->Prop}
theorem Kz(W:WalksS P w A.in1 I fp wr G n Pv St)(S:WA)(hSf:S ∉ fp)(val:Nat->Str)(hval:∀i v,Pv i v->∃t,v= .str (val i) t)(hb:n+1 < XC):
 ∀(k i:Nat)(s:WB),n - i=k->i<=n->St i s->kO P w s.heap S (oR val i)->
  (∀s',Moved (S::wr) G s s'->kO P w s'.heap S (oR val n)->R (.ok (.ret .none)) s')->Xt (WE P w) A (.builtin "set.update.loop" ⟨[.ref S,.ref I],[]⟩) R s:=by
 have sw:S ∉ wr:=λz=>hSf (W.sub _ z);have sub:∀b∈wr,b∈S::wr:=λb z=>Q4 _ z;intro k
 induction k with
 | zero=>
  intro i s e1 e2 st hS q;obtain rfl:i=n:=Ce
  refine Xm Tp ?_;rw [SE Sv _];show WD _ A.in1 (Xo (.ref I) >>=_) _ _ s;exact Wy (W.done s _ _ st λs' m=>WC (q s' (m.mono sub) (hS.stay λo e=>m.heap S o sw e)))
 | succ k ih=>
  intro i s e1 e2 st hS q;have lt:i < n:=Ce
  refine Xm Tp ?_;rw [SE Sv _];show WD _ A.in1 (Xo (.ref I) >>=_) _ _ s;refine Wy (W.item i s _ _ lt st λv s' hP st' m=>?_);obtain⟨t,rfl⟩:=hval i v hP;have hS':=hS.stay (h':=s'.heap) λo e=>m.heap S o sw e;show WD _ A.in1 (X4 [S7 (val i) t] (setAdd S (.str (val i) t)) >>=_) _ _ s';refine Wy (W3 ?_);unfold setAdd;refine W3 (Wy ((strKind P w).pyHash (k:=val i) (strKind_is _ _ _ _) ?_));have rm:(oR val i).length+1 < XC:=by have:=Ee val i;omega
  refine Kw (s:={s' with toks:=s'.toks+1}) hS' rm λh' b sb S2=>?_;rw [<-Ed] at S2;refine WC ⟨XY Sv _,ih (i+1) _ Ce lt (W.frame _ s' _ _ st' (SG _) λb hb o e=>?_) S2 λs2 m2 S3=>?_⟩
  ·rw [sb.2 b (λz:b=S=>hSf (by rw [<-z];exact hb))];exact e
  ·refine q s2 (Moved.trans W.gtrans ((m.mono sub).then_heap (SG _) λb o hb e=>?_) m2) S3;rw [sb.2 b (λz:b=S=>hb (by rw [z];exact RE))];exact e
end
section
variable {P:WM} {w:WO} {A:WR} {E:Wx->WB->Prop} {s:WB}
theorem KA(a:Wx){Q₁:Wx->WB->Prop}
 (h:Q₁ (.ref s.heap.objs.size) {s with heap:=s.heap.push {cls:= .type "set",dict:=none,data:= .set #[] 0 (.fresh 0 0 (!mq w))}}):
 Xt (WE P w) A (.call (.builtin "set.__new__") ⟨[.type "set",a],[]⟩) (wants Q₁ E) s:=by
 refine codeAny_of_tree ?_;show WD _ A.in1 (XG "set.__new__" ⟨[.type "set",a],[]⟩ >>=λ_=>again (.builtin "set.__new__" ⟨[.type "set",a],[]⟩)) _ _ s;refine Wy (XX (PySem.F.newCall_set_1 a) (WC ⟨XY UQ _,Xm PySem.F.entry_set_new ?_⟩));rw [SE UQ _];unfold Builtin.«set.__new__» Builtin.Frozenset.newClass;have hsb:=sub_set_self;obtain⟨hp,g,d,tk,os⟩:=s;dsimp only
 wp_walk
 refine Xv (WC ?_);dsimp only;simp only [newObj];exact Wy (wpAny_alloc (WC (WC h)))
theorem kO.fresh{h:WL}{a:WA}(e:h.get? a=some {cls:= .type "set",dict:=none,data:= .set #[] 0 (.fresh 0 0 (!mq w))}):kO P w h a []:=by
 refine⟨_,e,⟨rfl,rfl,rfl⟩,#[],0,_,rfl,λe he=>by simp at he,⟨[],.nil,.refl _⟩,tx,rfl,?_,λz=>absurd rfl z⟩;cases hb:mq w with
 | true=>exact .inl rfl
 | false=>exact .inr rfl
theorem KC{l:WA}{items:Array Wx}{ss:List Str}{Q:Wx->WB->Prop}
 (hh:A.handled=none)(hl:s.heap.IsList l items)(hi:W6 items.toList ss)(hb:items.size+1 < XC)
 (h:∀(h':WL) (tk:Nat),kO P w h' s.heap.objs.size (ss.foldl kD [])->(∀b o,s.heap.get? b=some o->h'.get? b=some o)->Q (.ref s.heap.objs.size) {s with heap:=h',toks:=tk}):
 WD (WE P w) A (call (.type "set") [.ref l]) Q E s:=by
 obtain⟨c,tl,hmro⟩:=PySem.F.called_set.mro;have hmade:=PySem.F.called_set.made;have hsub:=PySem.F.called_set.sub;refine XT (codeAny_of_tree ?_);show WD _ _ (callAny (.type "set") _) _ _ _;refine WC ⟨To _ td,Xm PySem.F.entry_type_call ?_⟩;rw [Around.under_plain (weight_type_call_type "set" [.ref l] []) rfl];have h1:=PySem.F.called_set.notType;have h2:=PySem.F.called_set.canCreate;have hct:=PySem.F.typeCall_set_1 (.ref l)
 repeat (any_goals (first | assumption | wp_step))
 generalize hob:({cls:= .type "set",dict:=none,data:= .set #[] 0 (.fresh 0 0 (!mq w))}:Obj)=ob;refine Xj (KA (P:=P) (w:=w) (.ref l) (E:=E) (Q₁:=λu s₁=>u= .ref s.heap.objs.size/\s₁={s with heap:=s.heap.push ob}) (by subst hob;exact⟨rfl,rfl⟩)) λr s₁ hr=>?_;cases r with
 | error e=>exact hr
 | ok fl=>
  cases fl with
  | ret u=>
   obtain⟨rfl,rfl⟩:=hr;have hS:(s.heap.push ob).get? s.heap.objs.size=some ob:=Qi _ (by subst hob;rfl);have hT:Shared.TypeIs {s with heap:=s.heap.push ob} (.ref s.heap.objs.size) "set":=⟨_,hS,by subst hob;rfl⟩;have hli:=PySem.F.called_set.init.lookup;have hbi:=PySem.F.called_set.init.bind (.ref s.heap.objs.size)
   repeat (any_goals (first | assumption | wp_step))
   refine Xj (Xg (R:=wants (λr s₂=>r= .none/\∃h' tk,s₂={s with heap:=h',toks:=tk}/\kO P w h' s.heap.objs.size (ss.foldl kD [])/\∀b o,s.heap.get? b=some o->h'.get? b=some o) E)
    PySem.F.called_set.init.plain PySem.F.entry_set_init (check_set_init_1 hT ?_)) λr₂ s₂ hr₂=>?_
   ·obtain⟨ol,o1,c1,nl,d1⟩:=hl;obtain⟨oc,od,oda,osl⟩:=ol;simp only at c1 d1;subst c1;subst d1;have o2:(s.heap.push ob).get? l=some {cls:= .type "list",dict:=od,data:= .seq items nl,slots:=osl}:=PB _ o1;have q1:=PySem.F.sub_list_set;have q2:=PySem.F.sub_list_frozenset;have q3:(S9 "list"==S9 "dict")=false:=tx
    have l1:(s.heap.push ob).IsList l items:=⟨_,o2,rfl,nl,rfl⟩;subst hob;unfold Builtin.«set.__init__» noKeywords Builtin.Frozenset.updateFrom;generalize hPI:pyIter=PI
    wp_walk
    subst hPI;refine Yo l1 ?_;refine Wy (wpAny_runValue ?_);have ll:l < s.heap.objs.size:=PX o1;have sz:∀ob:Obj,(s.heap.push ob).objs.size=s.heap.objs.size+1:=λ_=>RY _ _;have n1:∀ob:Obj,l≠(s.heap.push ob).objs.size:=λ_=>by rw [sz];exact QN (RN ll)
    have n2:∀ob:Obj,s.heap.objs.size ∉ [(s.heap.push ob).objs.size,l]:=λ_=>by
     rw [sz];simp only [PH,P1,or_false,not_or];exact⟨QN (So _),Su ll⟩
    have hv:∀(i:Nat)(v:Wx),items[i]?=some v->∃t,v= .str ((λi=>(ss[i]?).getD (Pr "")) i) t:=λi v e=>by
     rw [<-UR] at e;have:∀{vs:List Wx}{ss:List Str},W6 vs ss->∀(i:Nat)(v:Wx),vs[i]?=some v->∃t,v= .str ((ss[i]?).getD (Pr "")) t:=by
      intro vs ss x
      induction x with
      | nil=>intro i v e;simp at e
      | cons y t r ih=>
       intro i v e;cases i with
       | zero=>simp at e;exact⟨t,by rw [<-e];rfl⟩
       | succ i=>simp only [PL] at e⊢;exact ih i v e
     exact this hi i v e
    have hm:oR (λi=>(ss[i]?).getD (Pr "")) items.size=ss.foldl kD []:=by
     have e:items.size=ss.length:=by rw [<-tN hi,P2]
     unfold oR;rw [e];congr 1;apply VF Wv;intro i a b;simp at a b⊢;rw [Q1 Ce];rfl
    refine Kz (VN (show A.in1.in1.in1.handled=none by simp [hh]) _ l (n1 _) items).toS s.heap.objs.size (n2 _) _ hv hb (items.size - 0) 0 _ Ce (Rv _)
     ⟨⟨_,Qi _ rfl,rfl,rfl⟩,l1.push _⟩ ?hS0 ?hR
    case hS0=>
     exact kO.fresh (PB _ hS)
    case hR=>
     intro s' m S';rw [hm] at S';obtain⟨h',g',d',tk',os'⟩:=s';obtain rfl:g'=s.gens:=m.gens;obtain rfl:d'=s.drawn:=m.drawn;obtain rfl:os'=s.os:=m.os;show WD _ _ _ _ _ _;refine WC (WC ⟨rfl,h',tk',rfl,S',λb o e=>?_⟩);have hb1:b < s.heap.objs.size:=PX e;refine m.heap b o ?_ (PB _ (PB _ e));rw [sz];simp only [PH,P1,or_false,not_or];exact⟨QN hb1,QN (RN hb1)⟩
   ·cases r₂ with
    | error e=>exact hr₂
    | ok fl₂=>
     cases fl₂ with
     | ret r=>
      obtain⟨rfl,h',tk,rfl,S',k'⟩:=hr₂
      repeat (any_goals (first | assumption | wp_step))
      exact h _ _ S' k'
     | _=>exact hr₂.elim
  | _=>exact hr.elim
end
theorem nR:Slot "set_iterator" "__next__" "set_iterator.__next__":=
 .of (owner:="set_iterator") (n:="__next__") (by rw [typeLookup_type,builtinLookup_eq_fast];kernel_rfl) td td td
  (by first | exact .inl td | exact .inr td) (by rw [isSubtype_type];kernel_rfl)
theorem vc:entryFor table "set_iterator.__next__"=some Builtin.«set_iterator.__next__»:=entryFor_of_tree (by kernel_rfl)
theorem Ef:Manifest.owners.lookup (String.ofList ['r','o','t','a','r','e','t','i','_','t','e','s'].reverse)=some Manifest.sig_set_iterator:=by kernel_rfl
theorem vd(a:Wx):argsOk "set_iterator.__next__" ⟨[a],[]⟩:=by
 unfold argsOk;rw [signature?_of (id:="set_iterator.__next__") (n:=['_','_','t','x','e','n','_','_']) (o:=['r','o','t','a','r','e','t','i','_','t','e','s']) (by kernel_rfl) Ef];kernel_rfl
theorem KD:entryFor table "set.__iter__"=some Builtin.«frozenset.__iter__»:=entryFor_alias (id':="frozenset.__iter__") (by kernel_rfl) rfl td (by kernel_rfl)
theorem Aw{α:Type}:∀{l:List α}{i:Nat}(h:i < l.length),(l[i]::l.eraseIdx i).Perm l
 | a::l,0,h=>.refl _
 | a::l,i+1,h=>by
  have:=Aw (l:=l) (i:=i) (by simpa using h);simp only [List.getElem_cons_succ,List.eraseIdx_cons_succ];exact(List.Perm.swap _ _ _).trans (this.cons a)
theorem Eg{α:Type}(next:Nat->Nat):∀(f k:Nat)(left:List α)(out:Array α),f=left.length->(pickOrder.go next f k left out).toList.Perm (out.toList++left)
 | 0,k,left,out,e=>by
  rw [SW e.symm];unfold pickOrder.go;simp
 | f+1,k,left,out,e=>by
  unfold pickOrder.go;have hlt:next k % left.length < left.length:=Nat.mod_lt _ Ce;rw [Q1 hlt];refine(Eg next f (k+1) _ _ (by rw [Ud hlt];omega)).trans ?_;rw [Vv,Uk];exact List.Perm.append_left _ (Aw hlt)
theorem KG{α:Type}(next:Nat->Nat)(xs:Array α):(Yj next xs).toList.Perm xs.toList:=by
 have:=Eg next xs.size 0 xs.toList #[] Wv;simpa [Yj] using this
section
variable {P:WM} {w:WO} {A:WR} {E:Wx->WB->Prop}
theorem Ei{α:Type}:∀(n:Nat)(xs:List α)(s:WB)(Q:List α->WB->Prop),n=xs.length->(∀ys d,ys.Perm xs->Q ys {s with drawn:=d})->WD (WE P w) A (drawOrder n xs) Q E s
 | 0,xs,s,Q,e,q=>by
  rw [SW e.symm] at q⊢;unfold drawOrder;exact WC (q [] s.drawn (.refl _))
 | n+1,[],s,Q,e,q=>by cases e
 | n+1,x::xs,s,Q,e,q=>by
  unfold drawOrder;refine Wy ?_;intro Γ p hΓ;refine⟨Wv,?_⟩;generalize hi:(WE P w).w.draws .order (s.drawn.get .order)% (x::xs).length=i;have hlt:i < (x::xs).length:=by rw [<-hi];exact Nat.mod_lt _ Wv
  have key:WD (WE P w) A (match (x::xs)[i]? with | some y=>(do return y::(<-drawOrder n ((x::xs).eraseIdx i))) | none=>unsupported "internal:drawOrder") Q E {s with drawn:=s.drawn.bump .order}:=by
   rw [Q1 hlt];refine Wy (Ei n _ _ _ (by rw [Ud hlt];simp at e⊢;omega) λys d hp=>WC (q _ d ?_));exact(hp.cons _).trans (Aw hlt)
  exact key
end
def mr(h:WL)(it:WA)(f:Wx)(i:Nat)(a:WA)(n ep:Nat):Prop:=∃o,h.get? it=some o/\o.cls= .type "set_iterator"/\o.data= .fields #[f,.int i 0,.ref a,.int n 0,.int ep 0]
theorem mr.typeIs{s:WB}{it f i a n ep}(x:mr s.heap it f i a n ep):s.TypeIs (.ref it) "set_iterator":=let ⟨o,h,c,_⟩:=x;⟨o,h,c⟩
section
variable {P:WM} {w:WO} {A:WR} {E:Wx->WB->Prop} {s:WB} {a:WA} {o:Obj} {es:Array (Int×Wx)} {ep:Nat} {t:XQ}
theorem Ej{slot i:Nat}{Q:Option (Wx×Nat)->WB->Prop}(hb:mq w=true)(o1:s.heap.get? a=some o)(d1:o.data= .set es ep t)(f1:t.fits es.size=true)
 (h:Q (((Yj (w.params.setOrder a ep) es)[i]?).map λe=>(e.2,slot)) s):WD (WE P w) A (XU a slot i ep) Q E s:=by
 unfold XU setWalk setsByText;refine Wy (Xp o1 d1 f1 (Wy (Wy (Xv (WC ?_)))));rw [Wt (show(WE P w).w.params.followText "set-order"=true from hb)];rw [Ws Wv];refine Wy (Wy (Xp o1 d1 f1 (Wy (Wy (Xv (WC ?_))))));rw [Wt (show(WE P w).w.params.followText "set-order"=true from hb)];exact Wy (Xv (WC (WC h)))
theorem Ek{slot i:Nat}{Q:Option (Wx×Nat)->WB->Prop}(hb:mq w=false)(o1:s.heap.get? a=some o)(d1:o.data= .set es ep t)(f1:t.fits es.size=true)(hd:es.size<=1)(hl:t.led=true)
 (h:Q (match es[Tv t.place slot]?,t.place[Tv t.place slot]? with | some (_,x),some j=>some (x,j+1) | _,_=>none) s):WD (WE P w) A (XU a slot i ep) Q E s:=by
 unfold XU setsByText;refine Wy (Xp o1 d1 f1 (Wy (Wy (Xv (WC ?_)))));rw [Ws (show ¬(WE P w).w.params.followText "set-order"=true from by show ¬mq w=true;rw [hb];decide)];show WD _ _ (if (!t.plain && decide (es.size > 1))=true then _ else _) _ _ _;rw [Ws (by simp;omega)];refine Wy (m:=if (!t.led && !es.isEmpty)=true then unsupported "set:maker-not-led" else pure ()) ?_;rw [Ws (by simp [hl])];exact WC (WC h)
theorem KH{it:WA}{slot slot' i:Nat}{x:Wx}{Q:Option Wx->WB->Prop}(hit:mr s.heap it (.int slot 0) i a es.size ep)(o1:s.heap.get? a=some o)(d1:o.data= .set es ep t)(f1:t.fits es.size=true)
 (nx:∀E' Q',Q' (some (x,slot')) s->WD (WE P w) A.in1 (XU a slot i ep) Q' E' s)
 (hQ:∀h',mr h' it (.int slot' 0) (i+1) a es.size ep->Ss it s.heap h'->Q (some x) {s with heap:=h'}):WD (WE P w) A (Xo (.ref it)) Q E s:=by
 obtain⟨u,u1,c1,e1⟩:=id hit;unfold Xo;refine Wy (XI (WX (name:=Pr "__next__") hit.typeIs nR (W0 nR hit.typeIs vc ?_ (vd _))));unfold Builtin.«set_iterator.__next__»;refine Wy (m:=slotArgs _ _ _) (WC (Wy (Yc u1 e1 ?_)));show WD _ _ (setEntries a >>=_) _ _ s;refine Wy (Xy o1 d1 f1 ?_);rw [Ws Wv];show WD _ _ (XU a ((slot:Int)).toNat ((i:Int)).toNat ((ep:Int)).toNat >>=_) _ _ s;simp only [Q9];refine Wy (nx _ _ ?_);show WD _ _ (setField (.ref it) 0 (Xe (slot':Int)) >>=_) _ _ s;refine Wy (Xi u1 e1 Wv ?_);have g1:=Rm (U5 (·.setIfInBounds 0 (Xe (slot':Int)))) u1 (Sx (RH e1 _));have k1:=RH e1 (·.setIfInBounds 0 (Xe (slot':Int)));refine Wy (Xi g1 k1 Wv (WC ⟨x,rfl,WC (hQ _ ?_ ((RB ..).trans (RB ..)))⟩));refine⟨_,Rm _ g1 (Sx (RH k1 _)),(Tz ..).trans ((Tz ..).trans c1),?_⟩;rw [RH k1];simp [Xe]
theorem KI{it pl:WA}{i k:Nat}{hk:Int}{x:Wx}{ol:Obj}{ps:Array Wx}{nl:Nat}{Q:Option Wx->WB->Prop}(hit:mr s.heap it (.ref pl) i a es.size ep)(o1:s.heap.get? a=some o)(d1:o.data= .set es ep t)(f1:t.fits es.size=true)
 (l1:s.heap.get? pl=some ol)(l2:ol.data= .seq ps nl)(p1:ps[i]?=some (.int (k:Int) 0))(x1:es[k]?=some (hk,x))
 (hQ:∀h',mr h' it (.ref pl) (i+1) a es.size ep->Ss it s.heap h'->Q (some x) {s with heap:=h'}):WD (WE P w) A (Xo (.ref it)) Q E s:=by
 obtain⟨u,u1,c1,e1⟩:=id hit;unfold Xo;refine Wy (XI (WX (name:=Pr "__next__") hit.typeIs nR (W0 nR hit.typeIs vc ?_ (vd _))));unfold Builtin.«set_iterator.__next__»;refine Wy (m:=slotArgs _ _ _) (WC (Wy (Yc u1 e1 ?_)));show WD _ _ (setEntries a >>=_) _ _ s;refine Wy (Xy o1 d1 f1 ?_);rw [Ws Wv];show WD _ _ (seqItems? (.ref pl) >>=_) _ _ s;refine Wy (Xd l1 l2 ?_);simp only [Q9,p1];refine Wy ?_;unfold setNextDrawn;refine Wy (Xp o1 d1 f1 ?_);simp only [Q9];rw [Ws Wv,x1];refine WC (Wy (Xi u1 e1 Wv (WC ⟨x,rfl,WC (hQ _ ?_ (RB ..))⟩)));refine⟨_,Rm _ u1 (Sx (RH e1 _)),(Tz ..).trans c1,?_⟩;rw [RH e1];simp [Xe]
theorem KJ{it:WA}{slot i:Nat}{Q:Option Wx->WB->Prop}(hh:A.handled=none)(hit:mr s.heap it (.int slot 0) i a es.size ep)(o1:s.heap.get? a=some o)(d1:o.data= .set es ep t)(f1:t.fits es.size=true)
 (nx:∀E' Q',Q' none s->WD (WE P w) A.in1 (XU a slot i ep) Q' E' s)
 (hQ:∀h',VA it s.heap h'->Q none {s with heap:=h'}):WD (WE P w) A (Xo (.ref it)) Q E s:=by
 obtain⟨u,u1,c1,e1⟩:=id hit;unfold Xo;refine Wy (XI (WX (name:=Pr "__next__") hit.typeIs nR (W0 nR hit.typeIs vc ?_ (vd _))));unfold Builtin.«set_iterator.__next__»;refine Wy (m:=slotArgs _ _ _) (WC (Wy (Yc u1 e1 ?_)));show WD _ _ (setEntries a >>=_) _ _ s;refine Wy (Xy o1 d1 f1 ?_);rw [Ws Wv];show WD _ _ (XU a ((slot:Int)).toNat ((i:Int)).toNat ((ep:Int)).toNat >>=_) _ _ s;simp only [Q9];refine Wy (nx _ _ ?_);show WD _ _ (setField (.ref it) 2 .none >>=_) _ _ s;refine Wy (Xi u1 e1 Wv ?_);refine Wy (m:=newExc (.type "StopIteration") []) ?_;simp only [newExc,newTuple];refine Wy (WV ?_ (by size_fits));refine Wy (m:=XE _ _) (XX (a:=RX) (by first | rfl | (simp only [XE];rfl)) ?_);refine WV ?_ (by size_fits);simp only [raiseNew];refine Wy (wpAny_handled ?_);rw [show A.in1.handled=none from hh];refine Wy (WC (wpAny_throw ?_));refine Wy (X2 (T:="StopIteration") (b:=true) ⟨_,Qi _ rfl,rfl⟩ isSubtype_stop ?_);exact WC (hQ _ (((RB ..).extBut.push _).push _))
theorem KL{it pl:WA}{i:Nat}{ol:Obj}{ps:Array Wx}{nl:Nat}{Q:Option Wx->WB->Prop}(hh:A.handled=none)(hit:mr s.heap it (.ref pl) i a es.size ep)(o1:s.heap.get? a=some o)(d1:o.data= .set es ep t)(f1:t.fits es.size=true)
 (l1:s.heap.get? pl=some ol)(l2:ol.data= .seq ps nl)(p1:ps[i]?=none)
 (hQ:∀h',VA it s.heap h'->Q none {s with heap:=h'}):WD (WE P w) A (Xo (.ref it)) Q E s:=by
 obtain⟨u,u1,c1,e1⟩:=id hit;unfold Xo;refine Wy (XI (WX (name:=Pr "__next__") hit.typeIs nR (W0 nR hit.typeIs vc ?_ (vd _))));unfold Builtin.«set_iterator.__next__»;refine Wy (m:=slotArgs _ _ _) (WC (Wy (Yc u1 e1 ?_)));show WD _ _ (setEntries a >>=_) _ _ s;refine Wy (Xy o1 d1 f1 ?_);rw [Ws Wv];show WD _ _ (seqItems? (.ref pl) >>=_) _ _ s;refine Wy (Xd l1 l2 ?_);simp only [Q9,p1];show WD _ _ (setField (.ref it) 0 (Xe 0) >>=_) _ _ s;refine Wy (Xi u1 e1 Wv ?_);have g1:=Rm (U5 (·.setIfInBounds 0 (Xe 0))) u1 (Sx (RH e1 _));have k1:=RH e1 (·.setIfInBounds 0 (Xe 0));refine Wy (Xi g1 k1 Wv ?_);refine Wy (m:=newExc (.type "StopIteration") []) ?_;simp only [newExc,newTuple];refine Wy (WV ?_ (by size_fits));refine Wy (m:=XE _ _) (XX (a:=RX) (by first | rfl | (simp only [XE];rfl)) ?_);refine WV ?_ (by size_fits);simp only [raiseNew];refine Wy (wpAny_handled ?_);rw [show A.in1.handled=none from hh];refine Wy (WC (wpAny_throw ?_));refine Wy (X2 (T:="StopIteration") (b:=true) ⟨_,Qi _ rfl,rfl⟩ isSubtype_stop ?_);exact WC (hQ _ ((((RB ..).trans (RB ..)).extBut.push _).push _))
end
theorem El:Slot "set_iterator" "__iter__" "set_iterator.__iter__":=
 .of (owner:="set_iterator") (n:="__iter__") (by rw [typeLookup_type,builtinLookup_eq_fast];kernel_rfl) td td td
  (by first | exact .inl td | exact .inr td) (by rw [isSubtype_type];kernel_rfl)
theorem KN:entryFor table "set_iterator.__iter__"=some Builtin.«dict_keyiterator.__iter__»:=entryFor_alias (id':="dict_keyiterator.__iter__") (by kernel_rfl) rfl td (by kernel_rfl)
theorem KO(a:Wx):argsOk "set_iterator.__iter__" ⟨[a],[]⟩:=by
 unfold argsOk;rw [signature?_of (id:="set_iterator.__iter__") (n:=['_','_','r','e','t','i','_','_']) (o:=['r','o','t','a','r','e','t','i','_','t','e','s']) (by kernel_rfl) Ef];kernel_rfl
theorem mr.at{h h':WL}{it f i a n ep}(x:mr h it f i a n ep)(e:∀o,h.get? it=some o->h'.get? it=some o):mr h' it f i a n ep:=let ⟨o,ho,r⟩:=x;⟨o,e _ ho,r⟩
section
variable {P:WM} {w:WO} {A:WR} {E:Wx->WB->Prop} {s:WB} {a:WA} {o:Obj} {es:Array (Int×Wx)} {ep:Nat} {t:XQ}
theorem Em{it:WA}{f:Wx}{i n:Nat}{Q:Wx->WB->Prop}(hit:mr s.heap it f i a n ep)(h:Q (.ref it) s):WD (WE P w) A (pyIter (.ref it)) Q E s:=by
 refine wpAny_pyIter_slot hit.typeIs El (W0 El hit.typeIs KN ?_ (KO _));exact Wy (m:=slotArgs _ _ _) (WC (WC ⟨_,rfl,"set_iterator",_,hit.typeIs,nR.lookup,h⟩))
theorem En(hh:A.handled=none)(it:WA)(hne:a≠it)(d1:o.data= .set es ep t)(f1:t.fits es.size=true)(vs:List Wx)(hl:vs.length=es.size)(sl:Nat->Nat)
 (nx:∀(s:WB) (i:Nat) (h:i < vs.length) E' Q',s.heap.get? a=some o->Q' (some (vs[i],sl (i+1))) s->WD (WE P w) A.in1 (XU a (sl i) i ep) Q' E' s)
 (nd:∀(s:WB) E' Q',s.heap.get? a=some o->Q' none s->WD (WE P w) A.in1 (XU a (sl es.size) es.size ep) Q' E' s):
 Walks P w A it [it,a] [it] es.size (λi v=>vs[i]?=some v) (λi h=>mr h it (.int (sl i:Nat) 0) i a es.size ep/\h.get? a=some o) where
 sub:=λb hb=>by rw [Rc] at hb;simp [hb]
 frame:=λ_ _ _ st hk=>⟨st.1.at λo e=>hk it Wv o e,hk a Wv o st.2⟩
 item:=λi s Q E hi st hQ=>by
  have hi':i < vs.length:=Ce
  refine KH st.1 st.2 d1 f1 (λE' Q' q=>nx s i hi' E' Q' st.2 q) λh' it' sb=>?_;exact hQ _ h' s.toks (by simp [hi']) ⟨it',by rw [sb.2 a hne];exact st.2⟩ λb u hb e=>sb.extBut b u (λz=>hb (by simp [z])) e
 done:=λs Q E st hQ=>KJ hh st.1 st.2 d1 f1 (λE' Q' q=>nd s E' Q' st.2 q) λh' he=>hQ h' s.toks λb u hb e=>he b u (λz=>hb (by simp [z])) e
 self:=λ_ _ _ _ st hQ=>Em st.1 hQ
theorem KP(hh:A.handled=none)(it pl:WA)(hne:a≠it)(hnp:pl≠it)(d1:o.data= .set es ep t)(f1:t.fits es.size=true)(vs:List Wx)(ks:List Nat){ol:Obj}{nl:Nat}(l2:ol.data= .seq (ks.map λ(k:Nat)=>TQ (k:Int) 0).toArray nl)
 (hl:ks.length=es.size)(hv:∀i k:Nat,ks[i]?=some k->∃h x,es[k]?=some (h,x)/\vs[i]?=some x):
 Walks P w A it [it,a,pl] [it] es.size (λi v=>vs[i]?=some v) (λi h=>mr h it (.ref pl) i a es.size ep/\h.get? a=some o/\h.get? pl=some ol) where
 sub:=λb hb=>by rw [Rc] at hb;simp [hb]
 frame:=λ_ _ _ st hk=>⟨st.1.at λo e=>hk it Wv o e,hk a Wv o st.2.1,hk pl Wv ol st.2.2⟩
 item:=λi s Q E hi st hQ=>by
  have hi':i < ks.length:=Ce
  obtain⟨h,x,e1,e2⟩:=hv i ks[i] (by simp [hi']);refine KI st.1 st.2.1 d1 f1 st.2.2 l2 (k:=ks[i]) (by simp [hi']) e1 λh' it' sb=>?_;exact hQ _ h' s.toks e2 ⟨it',by rw [sb.2 a hne];exact st.2.1,by rw [sb.2 pl hnp];exact st.2.2⟩ λb u hb e=>sb.extBut b u (λz=>hb (by simp [z])) e
 done:=λs Q E st hQ=>KL hh st.1 st.2.1 d1 f1 st.2.2 l2 (by simp [hl]) λh' he=>hQ h' s.toks λb u hb e=>he b u (λz=>hb (by simp [z])) e
 self:=λ_ _ _ _ st hQ=>Em st.1 hQ
theorem Eo{j k:Nat}:Tv #[j] k=if j < k then 1 else 0:=by
 unfold Tv;show Vw #[j] k 1 0 1=_;simp [Vw]
theorem KQ{ss:List Str}{Q:Wx->WB->Prop}(hh:A.handled=none)(hS:kO P w s.heap a ss)
 (q:∀(I:WA) (h1:WL) (d1:Drawn) (vs:List Wx) (fp wr:List WA) (n:Nat) (St:Nat->WL->Prop),(∀b u,s.heap.get? b=some u->h1.get? b=some u)->(∃ss',W6 vs ss'/\ss'.Perm ss)->n=ss.length->
  Walks P w A I fp wr n (λi v=>vs[i]?=some v) St->St 0 h1->(∀b∈fp,b=a\/s.heap.objs.size<=b)->(∀b∈wr,s.heap.objs.size<=b)->vs.length=n->(∀b∈fp,b < h1.objs.size)->Q (.ref I) {s with heap:=h1,drawn:=d1}):
 WD (WE P w) A (pyIter (.ref a)) Q E s:=by
 obtain⟨o,o1,x1,es,ep,t,d1,el,⟨ss',s1,s2⟩,b1,f1,l1,p1⟩:=hS;have hT:s.TypeIs (.ref a) "set":=⟨o,o1,x1.1⟩;have la:a < s.heap.objs.size:=PX o1;have ln:es.size=ss.length:=by rw [<-s2.length_eq,<-tN s1,PD,P2]
 refine wpAny_pyIter_slot hT US (W0 US hT KD ?_ (PySem.F.args_set_iter_1 _));unfold Builtin.«frozenset.__iter__»;refine Wy (m:=Builtin.Frozenset.slot0 _ _) (WC ?_);refine Wy (m:=Builtin.Frozenset.sizeOf a) (Wy (Xy o1 d1 f1 (WC ?_)));refine Wy (m:=setDrawn a) ?_;unfold setDrawn setsByText;refine Wy (Xp o1 d1 f1 (Wy (Wy (Xv (WC (WC ?_))))));show WD _ _ (if (!(mq w) && (!t.plain && decide (es.size > 1)))=true then _ else _) _ _ _;have lastly:∀(f:Wx)(h1:WL)(d:Drawn),h1.get? a=some o->(∀I h2,h2=h1.push {cls:= .type "set_iterator",data:= .fields #[f,.int (0:Nat) 0,.ref a,.int es.size 0,.int ep 0]}->I=h1.objs.size->Q (.ref I) {s with heap:=h2,drawn:=d})->
  WD (WE P w) A.in1 (setEpoch a >>=λe=>newFields "set_iterator" [f,Xe 0,.ref a,Xe es.size,Xe e] >>=λv=>ret v)
   (λfin s'=>∃v,fin= .done (.ret v)/\∃T' r,s'.TypeIs v T'/\typeLookup (.type T') "__next__"=pure (some r)/\Q v s') E {s with heap:=h1,drawn:=d}:=by
  intro f h1 d e1 k;refine Wy (wpAny_setEpoch_of (s:={s with heap:=h1,drawn:=d}) e1 d1 f1 ?_);refine Wy (WV (WC ?_));exact⟨_,rfl,"set_iterator",_,⟨_,Qi _ rfl,rfl⟩,nR.lookup,k _ _ rfl rfl⟩
 have szp:∀(h:WL)(ob:Obj),(h.push ob).objs.size=h.objs.size+1:=λ_ _=>RY _ _;have n0:a≠s.heap.objs.size:=QN la;by_cases hdr:(!(mq w) && (!t.plain && decide (es.size > 1)))=true
 ·rw [Wt hdr];refine Wy (Ei es.size (Rz es.size) s _ Wv λks d hp=>Wy (m:=newTuple _) (WV ?_ ?_))
  ·have lk:ks.length=es.size:=by rw [hp.length_eq,SY]
   refine lastly _ (s.heap.push _) d (PB _ o1) λI h2 e2 eI=>?_;subst e2 eI;have k1:a≠(s.heap.push {cls:= .type "tuple",data:= .seq (ks.map λ(i:Nat)=>Xe i).toArray}).objs.size:=by rw [szp];exact QN (RN la)
   have k2:s.heap.objs.size≠(s.heap.push {cls:= .type "tuple",data:= .seq (ks.map λ(i:Nat)=>Xe i).toArray}).objs.size:=by rw [szp];exact QN (So _)
   have pm:(ks.map λk=>((es[k]?).map (·.2)).getD .none).Perm (es.toList.map (·.2)):=by
    refine(hp.map _).trans (.of_eq ?_);apply VF Wv;intro i a b;simp at a b⊢;rw [Tg a];rfl
   obtain⟨ss2,q3,q4⟩:=vb pm s1;refine q _ _ d _ _ _ es.size _ (λb u e=>PB _ (PB _ e)) ⟨ss2,q3,q4.trans s2⟩ ln
    (KP hh _ _ k1 k2 d1 f1 _ ks rfl lk (λi k e=>?_)) ⟨⟨_,Qi _ rfl,rfl,rfl⟩,PB _ (PB _ o1),PB _ (Qi _ rfl)⟩ (λb hb=>?_) (λb hb=>?_) (by simp [lk]) (λb hb=>?_)
   ·have hk:k < es.size:=by
     have:=hp.mem_iff.mp (Rr e);simpa using this
    refine⟨es[k].1,es[k].2,by simp [hk],?_⟩;rw [Rx,e];simp [hk]
   ·simp only [PH,P1,or_false] at hb;rcases hb with rfl | rfl | rfl
    ·right;rw [szp];exact SG _
    ·left;rfl
    ·right;exact PQ _
   ·rw [Rc] at hb;rw [hb,szp];exact SG _
   ·simp only [PH,P1,or_false] at hb;rw [szp,szp];rcases hb with rfl | rfl | rfl
    ·rw [szp];exact So _
    ·exact RN (RN la)
    ·exact RN (So _)
  ·unfold sizeOk;simp [hp.length_eq];have:XC=4096:=rfl;have:WG=16777216:=by first | rfl | exact WN
   omega
 ·rw [Ws hdr];refine Wy (WC ?_);have e0:s={s with heap:=s.heap,drawn:=s.drawn}:=by cases s;rfl
  show WD _ _ _ _ _ {s with heap:=s.heap,drawn:=s.drawn};refine lastly _ s.heap s.drawn o1 λI h2 e2 eI=>?_;subst e2 eI;have fpa:∀b∈[s.heap.objs.size,a],b=a\/s.heap.objs.size<=b:=λb hb=>by
   simp only [PH,P1,or_false] at hb;rcases hb with rfl | rfl
   ·right;exact PQ _
   ·left;rfl
  have wra:∀b∈[s.heap.objs.size],s.heap.objs.size<=b:=λb hb=>by rw [Rc] at hb;rw [hb];exact PQ _
  have fpl:∀(ob:Obj),∀b∈[s.heap.objs.size,a],b < (s.heap.push ob).objs.size:=λob b hb=>by
   rw [szp];simp only [PH,P1,or_false] at hb;rcases hb with rfl | rfl
   ·exact So _
   ·exact RN la
  cases hb:mq w with
  | true=>
   have pm:=KG (w.params.setOrder a ep) es;obtain⟨ss2,q3,q4⟩:=vb (pm.map (·.2)) s1;have lp:((Yj (w.params.setOrder a ep) es).toList.map (·.2)).length=es.size:=by rw [PD,pm.length_eq,P2]
   refine q _ _ s.drawn _ _ _ es.size _ (λb u e=>PB _ e) ⟨ss2,q3,q4.trans s2⟩ ln
    (En hh _ n0 d1 f1 _ lp (λ_=>0) (λs i hi E' Q' g z=>Ej hb g d1 f1 ?_) (λs E' Q' g z=>Ej hb g d1 f1 ?_)) ⟨⟨_,Qi _ rfl,rfl,rfl⟩,PB _ o1⟩ fpa wra lp (fpl _)
   ·have hi':i < (Yj (w.params.setOrder a ep) es).size:=by rw [<-P2,<-PD (f:=(·.2))];exact hi
    rw [Tg hi'];simpa using z
   ·have:(Yj (w.params.setOrder a ep) es).size=es.size:=by rw [<-P2,pm.length_eq,P2]
    rw [TL Ce];exact z
  | false=>
   have hled:t.led=true:=by
    rcases l1 with l1 | l1
    ·rw [hb] at l1;cases l1
    ·exact l1
   have hsz:es.size<=1:=by
    rcases Vj 1 es.size with z | z
    ·exfalso;apply hdr;rw [hb,p1 Ce];simpa using z
    ·exact z
   have hpl:t.place.size=es.size:=by
    simp only [SetTable.fits,Qh,beq_iff_eq] at f1;exact f1.1
   have lp:(es.toList.map (·.2)).length=es.size:=by rw [PD,P2]
   refine q _ _ s.drawn _ _ _ es.size _ (λb u e=>PB _ e) ⟨ss',s1,s2⟩ ln
    (En hh _ n0 d1 f1 _ lp (λi=>if i=0 then 0 else t.place.getD 0 0+1) (λs i hi E' Q' g z=>Ek hb g d1 f1 hsz hled ?_) (λs E' Q' g z=>Ek hb g d1 f1 hsz hled ?_)) ⟨⟨_,Qi _ rfl,rfl,rfl⟩,PB _ o1⟩ fpa wra lp (fpl _)
   ·have i0:i=0:=Ce
    subst i0;have h1:es.size=1:=Ce
    obtain⟨j,hj⟩:∃j,t.place=#[j]:=by
     have:t.place.toList.length=1:=by rw [P2];omega
     match hq:t.place.toList,this with
     | [j],_=>exact⟨j,by rw [<-U1 (xs:=t.place),hq]⟩
    rw [hj] at z⊢;rw [Wt rfl,Eo,Ws Ce];have:es[0]?=some es[0]:=by simp [h1]
    rw [this];simpa using z
   ·have hn:es[Tv t.place (if es.size=0 then 0 else t.place.getD 0 0+1)]?=none:=by
     by_cases h0:es.size=0
     ·rw [TL Ce]
     ·have h1:es.size=1:=Ce
      obtain⟨j,hj⟩:∃j,t.place=#[j]:=by
       have:t.place.toList.length=1:=by rw [P2];omega
       match hq:t.place.toList,this with
       | [j],_=>exact⟨j,by rw [<-U1 (xs:=t.place),hq]⟩
      rw [hj,Ws h0,Eo,Wt Wv];rw [TL Ce]
    rw [hn];exact z
end
section
variable {P:WM} {w:WO} {A:WR} {E:Wx->WB->Prop} {s:WB} {a:WA}
theorem KR{Q:Bool->WB->Prop}(hT:s.TypeIs (.ref a) "set")(h:Q false s):WD (WE P w) A (T5 (.ref a)) Q E s:=by
 unfold T5;refine Wy (wpAny_specialOf hT PySem.F.slot_set_len.lookup ?_);generalize hid:("set.__len__":String)=id0
 wp_delta
 rw [show splitId id0=some ("set","__len__") from by subst hid;decide+kernel];subst hid;refine Wy (X2 (T:="set") (b:=true) hT (by rw [isSubtype_type];kernel_rfl) ?_);refine Ya (λz=>absurd z tx) (λ_=>?_);refine Ya (λ_=>?_) (λz=>absurd td z);exact Wy (X9 hT (WC h))
theorem KS{ss:List Str}{R:Yh->WB->Prop}(hh:A.handled=none)(hS:kO P w s.heap a ss)(S:WA)(hSa:S≠a)(res:Wx)(c₀:Nat)(l1:s.heap.get? S=some {cls:= .type "list",data:= .seq #[] c₀})(hn:ss.length<=4096)
 (hR:∀h' tk d acc c',(∀b u,b≠S->s.heap.get? b=some u->h'.get? b=some u)->h'.get? S=some {cls:= .type "list",dict:=none,data:= .seq acc c',slots:=#[]}->(∃ss',W6 acc.toList ss'/\ss'.Perm ss)->R (.ok (.ret res)) {s with heap:=h',toks:=tk,drawn:=d}):
 WD (WE P w) A.in1 (T6 (.ref S) (.ref a) res)
  (λfin s'=>match fin with | .done f=>R (.ok f) s' | .again c'=>c'.quiet=true/\Xt (WE P w) A c' R s') (λe s'=>R (.error e) s') s:=by
 obtain⟨o,o1,x1,rest⟩:=id hS;have hT:s.TypeIs (.ref a) "set":=⟨o,o1,x1.1⟩;have lS:S < s.heap.objs.size:=PX l1;unfold T6;refine Wy (X9 hT ?_);have e1:Uw (.ref S) (.ref a)=false:=by simp [Uw,hSa]
 have e2:(S9 "set"==S9 "list")=false:=tx
 have e3:(S9 "set"==S9 "tuple")=false:=tx
 simp only [e1,e2,e3,QB,PZ,if_false];refine Wy (KQ (A:=A.in1) hh hS λI h1 d1 vs fp wr n St k1 sv en W st hf hw hlv hfl=>?_);have nf:S ∉ fp:=λz=>by
  rcases hf S z with e | e
  ·exact hSa e
  ·exact absurd lS (Nat.not_lt.mpr e)
 have key:∀(h:WL)(c₁ tk:Nat),St 0 h->(∀b u,b≠S->s.heap.get? b=some u->h.get? b=some u)->
  h.get? S=some {cls:= .type "list",data:= .seq #[] c₁}->Xt (WE P w) A (.builtin "list.extend.loop" ⟨[.ref S,.ref I,res],[]⟩) R {s with heap:=h,toks:=tk,drawn:=d1}:=by
  intro h c₁ tk hst hk g;refine codeAny_extend_loopS W.toS (Qz (by omega:n<=4096) tx) S nf res n 0 _ #[] c₁ rfl (Rv _) hst g (ItemsOf.nil _) λs' acc c' m gq hacc=>?_;obtain⟨h',g',d',tk',os'⟩:=s';obtain rfl:g'=s.gens:=m.gens;obtain rfl:d'=d1:=m.drawn;obtain rfl:os'=s.os:=m.os;refine hR h' tk' d' acc c' (λb u hb e=>m.heap b u (λz=>?_) (hk b u hb e)) gq ?_
  ·rcases PH.mp z with e' | z
   ·exact hb e'
   ·exact absurd (PX e) (Nat.not_lt.mpr (hw b z))
  ·have ea:acc.toList=vs:=by
    apply List.ext_getElem?;intro i;rcases Vj i n with z | z
    ·have hz:i < acc.size:=by rw [hacc.1];exact z
     have:acc[i]?=some acc[i]:=Tg hz;rw [UR,this,hacc.2 i _ this]
    ·rw [Sf (by rw [P2,hacc.1];exact z),Sf Ce]
   rw [ea];exact sv
 have g1:=k1 S _ l1;refine Wy (W3 (KR (s:={s with heap:=h1,drawn:=d1}) ⟨o,k1 a o o1,x1.1⟩ ?_));refine Ya (λ_=>?_) (λ_=>WC ⟨XY Uq _,key _ c₀ _ st (λb u _ e=>k1 b u e) g1⟩);refine Wy (XF (Wy ?_));show WD _ _ (updateSeq S (·.push .none) >>=λ_=>updateSeq S (·.pop)) _ _ {s with heap:=h1,drawn:=d1};refine Wy (wpAny_updateSeq g1 rfl ?_);have g2:=Rm (Tt (·.push RX)) g1 rfl;refine wpAny_updateSeq (hz:=by seq_fits) g2 rfl ?_;have g3:=Rm (Tt (·.pop)) g2 rfl;refine WC ⟨XY Uq _,key _ _ _ (W.frame 0 _ _ st λb hb u e=>?_) (λb u hb e=>?_) g3⟩
 ·have hbS:b≠S:=λz=>nf (z▸hb);exact(RI _ _ (Ne.symm hbS)).trans ((RI _ _ (Ne.symm hbS)).trans e)
 ·exact(RI _ _ (Ne.symm hb)).trans ((RI _ _ (Ne.symm hb)).trans (k1 b u e))
theorem KU{ss:List Str}{R:List Wx->WB->Prop}(hh:A.handled=none)(hS:kO P w s.heap a ss)(hn:ss.length<=4096)
 (h:∀(h':WL) (tk:Nat) (d:Drawn) (vs:List Wx),(∀b u,s.heap.get? b=some u->h'.get? b=some u)->(∃ss',W6 vs ss'/\ss'.Perm ss)->R vs {s with heap:=h',toks:=tk,drawn:=d}):
 WD (WE P w) A (collect (.ref a)) R E s:=by
 have la:a < s.heap.objs.size:=by obtain⟨o,o1,_⟩:=id hS;exact PX o1
 unfold collect;refine Wy (wpAny_runValue (Xm entry_proto_collect' ?_));rw [SE PySem.F.plain_proto_collect _];refine Wy (m:=newList []) (WV ?_);refine WC ⟨XY UA _,Xm entry_list_iadd' ?_⟩;rw [SE UA _];have g1:(s.heap.push {cls:= .type "list",data:= .seq ([]:List Wx).toArray}).get? s.heap.objs.size=some {cls:= .type "list",data:= .seq #[]}:=Qi _ rfl;have key:=KS (A:=A) (s:={s with heap:=s.heap.push {cls:= .type "list",data:= .seq ([]:List Wx).toArray}})
  (R:=λ(q:Yh) (s':WB)=>∃(h':WL)(tk:Nat)(d:Drawn)(acc:Array Wx)(c':Nat),q= .ok (.ret (.ref s.heap.objs.size))/\s'={s with heap:=h',toks:=tk,drawn:=d}/\
   (∀b u,s.heap.get? b=some u->h'.get? b=some u)/\h'.get? s.heap.objs.size=some {cls:= .type "list",dict:=none,data:= .seq acc c',slots:=#[]}/\(∃ss',W6 acc.toList ss'/\ss'.Perm ss))
  hh (hS.stay λu e=>PB _ e) s.heap.objs.size (Su la) (.ref s.heap.objs.size) 0 g1 hn
  (λh' tk d acc c' hk g' hacc=>⟨h',tk,d,acc,c',rfl,rfl,λb u e=>hk b u (QN (PX e)) (PB _ e),g',hacc⟩)
 refine WW key (λfin s' x=>?_) λe s' x=>?_
 ·cases fin with
  | done f=>
   obtain⟨h',tk,d,acc,c',e,rfl,hk,g',hacc⟩:=x;cases e;exact Wy (m:=load s.heap.objs.size) (wpAny_load g' (WC (h h' tk d acc.toList hk hacc)))
  | again c₁=>
   refine⟨x.1,Xj x.2 λq s₂ y=>?_⟩;obtain⟨h',tk,d,acc,c',rfl,rfl,hk,g',hacc⟩:=y;exact Wy (m:=load s.heap.objs.size) (wpAny_load g' (WC (h h' tk d acc.toList hk hacc)))
 ·obtain⟨_,_,_,_,_,e',_⟩:=x;cases e'
theorem KW{ss:List Str}{Q:Wx->WB->Prop}(hh:A.handled=none)(hS:kO P w s.heap a ss)(hn:ss.length < 64)
 (h:∀(h' h2:WL) (tk:Nat) (d:Drawn) (out:Array Wx) (e:Nat) (ss':List Str),(∀b o,s.heap.get? b=some o->h'.get? b=some o)->(∀b o,h'.get? b=some o->h2.get? b=some o)->h2.get? h'.objs.size=some (seqObj "list" out e)->W6 out.toList ss'->ss'.Perm ss->sortedS ss'=true->Q (.ref h'.objs.size) {s with heap:=h2,toks:=tk,drawn:=d}):
 WD (WE P w) A (call (.builtin "sorted") [.ref a]) Q E s:=by
 refine Calls.call_function_entry kind_sorted plain_sorted entry_sorted (args_sorted1 _) ?_;unfold Builtin.«sorted»;refine Wy (m:=checkCount "sorted" 1 1 _) (WC ?_);refine Wy (KU (A:=A.in1) hh hS Ce λh' tk d vs hk ⟨s1,sv,sp⟩=>?_);have hl:vs.length=ss.length:=by rw [tN sv,sp.length_eq]
 refine Wy (wpAny_newList ?_);have hoL:(h'.push (seqObj "list" vs.toArray 0)).get? h'.objs.size=some (seqObj "list" vs.toArray 0):=Qi _ rfl;refine Wy (W3 (W0 slot_list_sort ⟨_,hoL,rfl⟩ entry_list_sort (list_sort_treeK (s:={s with heap:=h'.push (seqObj "list" vs.toArray 0),toks:=tk,drawn:=d}) strKind_oneLt hoL sv.keysOf (λv₁ v₂ rest e=>keyKind_strs (by rw [<-e];exact sv)) (by rw [hl];exact hn) λst' a1 a2=>⟨_,rfl,?_⟩) (args_list_sort _)));obtain⟨ss',h1,h2,h3⟩:=sorted_out_str sv a1 a2;obtain⟨e,he⟩:=sortedHeap_at (n:=0) (vs:=vs) (out:=(arrOf st').map (·.2)) hoL;refine WC ⟨_,rfl,h h' _ tk d _ e ss' hk (λb o q=>?_) he h1 (h2.trans sp) h3⟩;have hlt:b < h'.objs.size:=PX q;rw [sortedHeap_old (QN hlt) (by rw [size_push'];exact RN hlt),Heap.get?_push_ne _ _ _ (QN hlt)];exact q
end
def Ax(P:WM)(w:WO)(a:WA)(ss:List Str):HO:= .ext λh=>kO P w h a ss
theorem ag.drw{X:Cx}{Ys:List (WA×Obj)}{σ:List (Option V)}{H:Hp}{s:WB}{d:Drawn}(I:ag X Ys σ H s):ag X Ys σ H {s with drawn:=d}:=⟨I.ok,I.os,I.bare,I.base,I.loc,I.cell,I.free,I.freeC,I.pin,I.hok,I.len⟩
theorem KY{X:Cx}:kB X (.type "set") (λxs H Q=>X.calm=true/\∃(p:WA)(ss:List Str),xs=[.ref p]/\bg X.K H p (ss.map V.str)/\ss.length < 64/\∀l,H l=none->Q (.ref l) (ao H l (Ax X.prog X.w l (ss.foldl kD [])))):=by
 intro Ys s σ H xs us Q I r h;obtain⟨hc,p,ss,rfl,hq,h64,q⟩:=h;obtain⟨u,rfl,rx⟩:=lj r;cases rx;obtain⟨its,rv,pl,hz⟩:=I.list hq;have hlen:=rv.length;rw [PD] at hlen;refine KC (I.ok.hd hc) pl.isList (by simpa using Ak rv) (by have:XC=4096:=rfl;simp;omega) λh' tk S' k'=>?_;refine⟨.ref _,_,I.laid (t':=tk) (o:=Ax X.prog X.w _ (ss.foldl kD [])) k' (PQ _) ?_,rfl,q _ (I.hok.fresh (PQ _))⟩;obtain⟨o,e,_⟩:=id S';exact⟨S',⟨o,e⟩,λh1 h2 x k=>x.stay k⟩
theorem KZ{X:Cx}:kB X (.builtin "sorted") (λxs H Q=>X.calm=true/\∃(a:WA)(ss:List Str),xs=[.ref a]/\H a=some (Ax X.prog X.w a ss)/\ss.length < 64/\∀l,H l=none->Q (.ref l) (ao H l (.lst ((kY ss).map V.str)))):=by
 intro Ys s σ H xs us Q I r h;obtain⟨hc,a,ss,rfl,ha,h64,q⟩:=h;obtain⟨u,rfl,rx⟩:=lj r;cases rx;obtain⟨hS,_⟩:=I.hok a _ ha;refine KW (I.ok.hd hc) hS h64 λh' h2 tk d out e ss' k1 k2 at2 s1 s2 s3=>?_;have es:ss'=kY ss:=Aj s2 (DC _ s3);subst es;have hl2:(kY ss).length=ss.length:=s2.length_eq;have I1:ag X Ys σ H {s with heap:=h',toks:=tk,drawn:=d}:=(I.kept (t':=tk) k1).drw;refine⟨.ref _,_,I1.laid (t':=tk) (o:= .lst ((kY ss).map V.str)) k2 (PQ _) ?_,rfl,q _ (I1.hok.fresh (PQ _))⟩;refine⟨by rw [PD,hl2];exact Qz (S0 h64) tx,out.toList,e,Al s1,?_⟩;rw [at2]
theorem Ep:∀(l ss:List Str),(l.foldl kD ss).length<=ss.length+l.length
 | [],ss=>by simp
 | a::l,ss=>by
  have:=Ep l (kD ss a);have h:(kD ss a).length<=ss.length+1:=by unfold kD;split <;> simp
  simp only [R5,Px];omega
theorem K0:WU "set"=some (.type "set"):=td
section
variable {X:Cx} {H0:Hp} {O0:Ex}
def fE(t:DA):DA:=λδ Q=>t δ λds=>∃ss:List Str,ds=[.list (ss.map .str)]/\ss.length < 64/\Q ((kY (ss.foldl kD [])).map .str)
theorem K1{a:WI}{t:DA}{np p np' p':Pos}(hc:X.calm=true)(hg:Gl X "sorted")(hm:X.mg "sorted"=none)(hv:WU "sorted"=some (.builtin "sorted"))(hg':Gl X "set")(hm':X.mg "set"=none)(ha:PA X [a] (mF X.K H0 O0 t))
 (he:WH [a] X.env=(false,eval a X.env)::WH [] X.env:=by rfl)(hpl:(WZ p' (WH [] X.env)).any (·.1)=false:=by rfl)
 (he':WH [.Call (.Name "set" np') [a] [] p'] X.env=(false,eval (.Call (.Name "set" np') [a] [] p') X.env)::WH [] X.env:=by rfl)(hpl':(WZ p (WH [] X.env)).any (·.1)=false:=by rfl):
 FE X H0 O0 (.Call (.Name "sorted" np) [.Call (.Name "set" np') [a] [] p'] [] p) (fE t):=
 (aR KZ hg hm hv (aQ (cE KY hg' hm' K0 ha (he:=he) (hpl:=hpl)) bM he') (he:=he') (hpl:=hpl')).imp λσ H Q ⟨O,δ,Qd,w,q,k⟩=>⟨O,δ,_,w,q,λds vs H1 uu10 s1 r1=>by
  obtain⟨ss,e,h64,q1⟩:=uu10;subst e;cases r1 with
  | cons h r=>
   cases r;obtain⟨a,us,rfl,h1,d1⟩:=h.lst;cases d1.strs;refine⟨hc,a,ss,rfl,h1,h64,λl hl=>⟨hc,l,_,rfl,bx,by have:=Ep ss [];simp at this;omega,λl2 hl2=>?_⟩⟩;exact k _ _ _ _ q1 (s1.trans (aq.new hl)) hl2 (au.ofStrs _)⟩
def jy(i:Nat)(t:DA):DS:=λE δ=>∃ds,δ[i]?=some (some (.o ds))/\t δ λes=>ds.length+es.length<=WG/\E.nx (δ.set i (some (.o (ds++es))))
end
theorem au.intsL{K:Pt}{H:Hp}{O:Ex}:∀{ns:List Int}{vs:List V},au K H O vs (ns.map PV)->vs=ns.map V.int
 | [],_,r=>by rw [Qf] at r;cases r;rfl
 | b::bs,_,r=>by
  rw [Py] at r;cases r with
  | cons h r=>cases h;rw [Py,au.intsL r]
def jz:List Ww->(Ww->Prop)->Prop:=λds Q=>∃ns:List Int,ds=[.list (ns.map .int)]/\ns≠[]/\∀M,M∈ns->(∀a∈ns,a<=M)->Q (.int M)
section
variable {X:Cx} {H0:Hp} {O0:Ex}
def jA(i:Nat)(dg:DG)(tb:DS):DS:=λE δ=>∃kd,δ[i]?=some (some (.k kd))/\pB dg tb E (kd.map λp=>pJ p.1) (δ.set i none)
end
def cX:List (DT×DT)->Dl->(List (Ww×Ww)->Prop)->Prop
 | [],_,Q=>Q []
 | (a,b)::r,δ,Q=>a δ λx=>b δ λy=>cX r δ λps=>Q ((x,y)::ps)
section
variable {X:Cx} {H0:Hp} {O0:Ex}
def jB(trs:List (DT×DT)):tM:=λδ Q=>cX trs δ λps=>∃kd:List (br×Ww),ps=kd.map (λp=>(pJ p.1,p.2))/\kd.length<=15/\(∀p∈kd,cx p.2=true)/\Q (kd.foldl (λa p=>D8 a p.1 p.2) [])
def jC(i j k:Nat)(t:DA):DS:=λE δ=>t δ λds=>∃x y z,ds=[x,y,z]/\E.nx (((δ.set i (some (.v x))).set j (some (.v y))).set k (some (.v z)))
end
def Ay(p q:Int×Str):Bool:=decide (p.1 < q.1) || (decide (p.1=q.1) && decide (p.2.cps.toList < q.2.cps.toList))
section
variable {X:Cx} {Ys:List (WA×Obj)} {σ:St} {H:Hp} {s:WB}
theorem ag.track{o:HO}{D:WA}{ch:List WA}{t':Nat}{h':WL}(I:ag X Ys σ H s)(hD:D∈ch)(f:∀b∈ch,mQ X Ys H b)(k:∀b u,b ∉ ch->s.heap.get? b=some u->h'.get? b=some u)(new:bL X.prog X.w (ao H D o) h' D o):ag X Ys σ (ao H D o) {s with heap:=h',toks:=t'}:=by
 have nC:∀b u,H b=some u->b ∉ ch:=λb u e z=>by rw [(f b z).1] at e;cases e
 have nD:∀b u,H b=some u->b≠D:=λb u e z=>nC b u e (by rw [z];exact hD);refine I.step (g':=s.gens) (d':=s.drawn) (ch:=ch) (λb hb=>?_) (λb o _ _ hc e _=>k b o hc e) (λb o _ _ hc e _=>⟨o.slots,k b o hc e⟩) (λb o hc _ n=>by rw [ay (λz=>hc (by rw [z];exact hD))];exact n)
  (λb o hc e=>⟨o,k b o hc e⟩) (λb xs e=>by rw [ay (nD _ _ e)];exact e) (λb u xs e=>by rw [ay (nD _ _ e)];exact e) (λb ps e=>⟨#[],by rw [ay (nD _ _ e),e];simp⟩) (λm hm=>hm.at' λo e=>k _ o (λz=>(f _ z).2.1 rfl) e) (λb u e=>?_) I.bare
 ·obtain⟨f0,f1,f2,f3,f4,f5⟩:=f b hb;exact⟨f3,f1,f4,f5⟩
 ·by_cases hb:b=D
  ·subst hb;rw [bx] at e;cases e;exact new
  ·rw [ay hb] at e;refine(I.hok b u e).stay (λc v hc q=>k c v (λz=>?_) q) (λc q=>by rw [ay (nD _ _ q)];exact q) (λc xs q=>by rw [ay (nD _ _ q)];exact q) (λc xs q=>by rw [ay (nD _ _ q)];exact q);rcases hc with r | r
   ·subst r;exact nC _ _ e z
   ·exact nC _ _ r z
def tO(p:Int×Str):Ww:= .tuple [.int p.1,.str p.2]
end
section
variable {X:Cx} {H0:Hp} {O0:Ex}
def jD(t:DA):DA:=λδ Q=>t δ λds=>∃ps:List (Int×Str),ds=[.list (ps.map tO)]/\ps.length < 64/\ps.Nodup/\∀ps':List (Int×Str),ps'.Perm ps->ps'.Pairwise (λa b=>Ay a b=true)->Q (ps'.map tO)
def jE(F:List Ww->(Ww->Prop)->Prop)(kf:Ww->Int×Str)(t:DA):DA:=λδ Q=>t δ λds0=>∃ds,ds0=[.list ds]/\(∀d∈ds,∀R:Ww->Prop,R (tO (kf d))->F [d] R)/\ds.length < 64/\(ds.map kf).Nodup/\∀ds',ds'.Perm ds->ds'.Pairwise (λa b=>Ay (kf a) (kf b)=true)->Q ds'
end
section
open PySem.SeqAt
open PySem.AutoSeq1 (wpAny_loadPart')
open PySem.MeetsSeq PySem.MeetsSeq2 PySem.MeetsSeq3
end
def jF:Ww->Ww->(Ww->Prop)->Prop:=λx y Q=>∃p q:Int×Str,x=tO p/\y=tO q/\Q (.bool (Ay p q))
section
variable {X:Cx} {H0:Hp} {O0:Ex}
def K2(tc:DB)(tb:DS):DS:=λE δ=>∃W:Nat->Dl->Prop,(∃m,W m δ)/\∀m δ,W m δ->tc δ λb=>if b=true then tb {E with nx:=λδ'=>∃m',m' < m/\W m' δ',ct:=λδ'=>∃m',m' < m/\W m' δ',bk:=E.nx} δ else E.nx δ
theorem Az{c:WI}{body:List WQ}{tc:DB}{tb:DS}{pos:Pos}(hp:XO (WE X.prog X.w) X.A X.env X.xe)(hc:PT X c (j6 X.K H0 O0 tc))(hb:bG X body (cF X.K H0 O0 tb)):PS X (.While c body [] pos) (cF X.K H0 O0 (K2 tc tb)):=
 (B4 hp hc hb).imp λD σ H uu11=>by
  obtain⟨O,δ,E,w,⟨W,⟨m0,w0⟩,st⟩,k1,k2,k3,k4⟩:=uu11;refine⟨λm σ' H'=>∃O' δ',Wd X.K H0 O0 H' O' σ' δ'/\aX H H' O O'/\W m δ',⟨m0,O,δ,w,aX.refl _ _,w0⟩,λm σ1 H1 ⟨O1,δ1,w1,S1,q1⟩=>⟨O1,δ1,_,w1,st m δ1 q1,λb H2 q2 s2=>?_⟩⟩;cases b with
  | false=>
   rw [Ws Wv] at q2⊢;exact k1 O1 δ1 σ1 H2 q2 (w1.mono s2) (S1.trans (.same s2))
  | true=>
   rw [Wt rfl] at q2⊢;refine⟨λσ' H'=>∃O' δ' m',m' < m/\Wd X.K H0 O0 H' O' σ' δ'/\aX H H' O O'/\W m' δ',λσ' H' uu13=>by obtain⟨O',δ',m',lt,w',S',q'⟩:=uu13;exact⟨m',lt,O',δ',w',S',q'⟩,O1,δ1,_,w1.mono s2,q2,?_,k2,?_,?_⟩
   ·rintro O' δ' σ' H' ⟨m',lt,q'⟩ w' S';exact⟨O',δ',m',lt,w',S1.trans ((aX.same s2).trans S'),q'⟩
   ·intro O' δ' σ' H' q' w' S';exact k1 O' δ' σ' H' q' w' (S1.trans ((aX.same s2).trans S'))
   ·rintro O' δ' σ' H' ⟨m',lt,q'⟩ w' S';exact⟨O',δ',m',lt,w',S1.trans ((aX.same s2).trans S'),q'⟩
abbrev Er(ks:List Str)(ds:List Ww):Ww:=C6 (ks.map .str) ds
def jG(i:Nat)(t:DS):DS:=λE δ=>∃kd,δ[i]?=some (some (.k kd))/\∃ks:List Str,kd.map (·.1)=ks.map Tr/\t E (δ.set i (some (.v (Er ks (kd.map (·.2))))))
def AA:List Str->List Ww->Str->Option Ww
 | k::ks,d::ds,z=>if k=z then some d else AA ks ds z
 | _,_,_=>none
def jH(to tk:DT):DT:=λδ Q=>to δ λx=>∃ks ds,x=Er ks ds/\tk δ λy=>∃z,y= .str z/\∃d,AA ks ds z=some d/\Q d
def jI(to t:DT):DT:=λδ Q=>to δ λx=>∃ss:List Str,x= .list (ss.map .str)/\t δ λy=>∃z,y= .str z/\z∈ss/\Q (.int (ss.idxOf z:Nat))
def jJ(t:DA):DA:=λδ Q=>t δ λds=>∃n k:Int,ds=[.int 0,.int n,.int k]/\0<=n/\n < 1000/\0 < k/\k < 1000/\∀js:List Int,(∀j∈js,0<=j/\j < n)->js.length<=1000->Q (js.map .int)
def jK(t:DT)(g:DG)(tc:DB)(te:DT)(k:Nat)(fr:List Nat):DA:=λδ Q=>cI t g tc te k fr δ Q\/cR t g tc te k fr δ Q
end
theorem K3{fr:List Nat}{σ:St}{v u:Option V}:ph (bF 2 fr σ) (((bF 2 fr σ).set 0 v).set 1 u):=by
 refine⟨Wv,λi w h=>?_⟩
 match i with
 | 0=>simp [bF,PK] at h
 | 1=>simp [bF,PK] at h
 | i+2=>simpa [bF,PK] using h
theorem K4{K:Pt}{n:Nat}:oE (sF K n (qN (ni 0) (qN (ni 1) sE))) 2:=λfr σ v H' R uu14=>by obtain⟨a,xs,e,h1,h2,x,r,e1,y,r2,e2,e3,h⟩:=uu14;exact⟨a,xs,e,h1,h2,x,r,e1,y,r2,e2,e3,K3,h⟩
section
variable {X:Cx} {H0:Hp} {O0:Ex}
theorem mL{T:String}{a c:WI}{t:DT}{np p:Pos}{K':Pt}(hK:X.K=K')(hg:Gl X "isinstance")(hm:X.mg "isinstance"=none)(hv:WU "isinstance"=some (.builtin "isinstance"))(ha:DF X H0 O0 a t)(hc:PE X c (tC (.ty T)))
 (hs:WH [a,c] X.env=(false,eval a X.env)::WH [c] X.env:=by rfl)(hs2:WH [c] X.env=[(false,eval c X.env)]:=by rfl)(hb:(WZ p (WH [c] X.env)).any (·.1)=false:=by rfl):DE X H0 O0 (.Call (.Name "isinstance" np) [a,c] [] p) (cT K' T t):=by
 subst hK;exact Jt hg hm hv ha hc hs hs2 hb
end
def Es(K:Pt):R2:=λx y H Q=>∃a b xs ys,x= .ref a/\y= .ref b/\aZ K H a xs/\aZ K H b ys/\xs.length+ys.length<=WG/\(xs=[]->Q (.ref b) H)/\(xs≠[]->xT K x y H Q)
theorem nS{X:Cx}:bD X (Xc .Add) (Es X.K):=by
 intro Ys s σ H x y v u Q I rx ry h;obtain⟨a,b,xs,ys,rfl,rfl,ha,hb,hz,q0,q1⟩:=h;by_cases hx:xs=[]
 ·subst hx;cases rx;cases ry;obtain⟨its,r1,⟨⟨c1,d1,da1,s1⟩,o1,k1,n1,e1⟩,_⟩:=I.tuple ha;obtain⟨its2,r2,⟨⟨c2,d2,da2,s2⟩,o2,k2,n2,e2⟩,_⟩:=I.tuple hb;simp only at k1 e1 k2 e2;subst k1 e1 k2 e2;cases r1;exact concat_meets ⟨_,o1,rfl⟩ ⟨_,o2,rfl⟩ Yp seq_tuple_add TH Tw (Tj _ _)
   (tuple_addW0 a b _ its2.toArray n1 n2 d1 d2 s1 s2 Wv) ⟨o1,o2,.ref b,H,I,rfl,q0 rfl⟩
 ·exact HV Ys s σ H _ _ v u Q I rx ry (q1 hx)
def fF:Ww->Ww->(Ww->Prop)->Prop:=λx y Q=>∃xs ys,x= .tuple xs/\y= .tuple ys/\xs.length+ys.length<=WG/\Q (.tuple (xs++ys))
theorem nT{K:Pt}:j7 K (Es K) fF:=λH O x y dx dy Qd R tr hx hy uu15 k=>by
 obtain⟨xs,ys,e1,e2,hz,q⟩:=uu15;subst e1 e2;have hx0:=hx;have hy0:=hy;obtain⟨a,vs,rfl,h1,d1⟩:=hx.tup;obtain⟨b,us,rfl,h2,d2⟩:=hy.tup;refine⟨a,b,vs,us,rfl,rfl,h1,h2,by rw [d1.length,d2.length];exact hz,λz=>?_,λz=>?_⟩
 ·subst z;cases d1;rw [P6] at q;cases hy0 with
  | dt hy0=>exact k _ _ H q (aq.refl _) hy0
 ·exact Jq H O _ _ _ _ Qd R tr hx0 hy0 ⟨xs,ys,rfl,rfl,λe=>z (by subst e;cases d1;rfl),hz,q⟩ k
def Et(f:Str)(d:Ww):List (Str×Ww)->List (Str×Ww)
 | []=>[(f,d)]
 | (g,x)::r=>if g=f then(g,d)::r else(g,x)::Et f d r
section
variable {X:Cx} {H0:Hp} {O0:Ex}
def jL(C:WA)(i:Nat)(f:Str)(t:DT):DS:=λE δ=>t δ λd=>∃l fd,δ[i]?=some (some (.i l C fd))/\fd.length < 1000/\E.nx (δ.set i (some (.i l C (Et f d fd))))
end
section
variable {X:Cx} {H0:Hp} {O0:Ex}
def jM(C:WA)(f:Str)(t:DT):DT:=λδ Q=>t δ λx=>∃ks ds d,x=C5 C (ks.map .str) ds/\AA ks ds f=some d/\Q d
end
def K5(ss:List Int)(x:Int):List Int:=if x∈ss then ss else ss++[x]
section
variable {X:Cx} {H0:Hp} {O0:Ex}
def jN(t:DA):DA:=λδ Q=>t δ λds=>∃ss:List Int,ds=[.list (ss.map .int)]/\ss.length < 4000/\(ss.foldl K5 []).length < 64/\∀ns:List Int,(∀z,z∈ns↔z∈ss)->ns.Pairwise (· < ·)->Q (ns.map .int)
end
def AB(K:Pt)(a:WA):It:=
 ⟨λi H=>∃xs x,bg K H a xs/\xs[i]?=some x,λi H x H'=>∃p v,H p=none/\x= .ref p/\H'=ao H p (.tup [.int (i:Int),v])/\∀xs,bg K H a xs->xs[i]?=some v,λi H=>∃xs,bg K H a xs/\xs.length<=i⟩
theorem K6{P:WM}{w:WO}{K:Pt}{elts:List WI}{k0}{pos:Pos}(a it e:WA)(hei:e≠it):pZ P w K (.Tuple elts k0 pos) (AB K a) [e,it] e (λi h=>(∃old,IsEnum h e it (i:Int) old)/\h.IsListIter it a i) where
 mem:=Wv
 obj:=λi h st b hb=>by
  simp only [PH,P1,or_false] at hb;obtain⟨⟨old,he⟩,o,eo,c,d⟩:=st;rcases hb with rfl | rfl
  ·exact⟨_,he,λv z=>by cases z⟩
  ·exact⟨o,eo,λv z=>by rw [d] at z;cases z⟩
 keep:=λi h h' st k=>⟨let ⟨old,he⟩:=st.1;⟨old,k e Wv _ he⟩,st.2.at λo q=>k it Wv o q⟩
 item:=by
  intro X hP hw hK hc i Ys s σ H E I hf st hg;subst hP hw hK;obtain⟨xs,x,hq,hx⟩:=hg;obtain⟨its,rv,p,hz⟩:=I.list hq;obtain⟨u,hu,ru⟩:=rv.get hx;obtain⟨⟨old,he⟩,hit⟩:=st;refine wpAny_pyNext_enum_item he hit p.isList (x:=u) (by simpa using hu) hei λh' ho hit' hT hsz hk=>?_;have hT0:H s.heap.objs.size=none:=I.hok.fresh (PQ _);have lte:e < s.heap.objs.size:=PX he;have lti:it < s.heap.objs.size:=by obtain⟨_,q,_⟩:=hit;exact PX q
  have I1:ag X Ys σ (ao H s.heap.objs.size (.tup [.int (i:Int),x])) {s with heap:=h',toks:=s.toks+1}:=by
   refine I.track (t':=s.toks+1) (ch:=[s.heap.objs.size,e,it]) Wv (λb hb=>?_) (λb v hb q=>hk b v (λz=>hb (by simp [z])) (λz=>hb (by simp [z])) q) ?_
   ·rcases PH.mp hb with z | z
    ·rw [z];exact I.fpOk (PQ _) hT0
    ·exact hf b z
   ·exact⟨by rw [WN,Px,Px,P5];decide,[.int (i:Int) s.toks,u],.cons ⟨_,rfl⟩ (.cons ru .nil),_,hT,rfl,0,rfl⟩
  refine⟨_,rfl,wpAny_letOwnedTupleGo_enum ho λh2 he2 sb=>?_⟩;obtain⟨f0,f1,f2,f3,f4,f5⟩:=hf e Wv;have ne:s.heap.objs.size≠e:=Su lte;have I2:ag X Ys σ (ao H s.heap.objs.size (.tup [.int (i:Int),x])) {s with heap:=h2,toks:=s.toks+1}:=I1.turned (t':=s.toks+1) (λb o hb q=>(sb.2 b hb).trans q) (by rw [ay (Ne.symm ne)];exact f0) f1 f3 f4 f5;refine⟨.ref s.heap.objs.size,_,I2,rfl,⟨_,x,hT0,rfl,rfl,λys hy=>by rw [I.list_inj hy hq];exact hx⟩,⟨⟨_,by simpa using he2⟩,hit'.at λo q=>(sb.2 it (Ne.symm hei)).trans q⟩,λb hb=>?_⟩;rw [ay λz=>?_]
  ·exact(hf b hb).1
  ·simp only [PH,P1,or_false] at hb;rcases hb with y | y
   ·rw [<-z,y] at lte;exact RR _ lte
   ·rw [<-z,y] at lti;exact RR _ lti
 done:=by
  intro X hP hw hK hc i Ys s σ H E I hf st hg;subst hP hw hK;obtain⟨xs,hq,hx⟩:=hg;obtain⟨its,rv,p,hz⟩:=I.list hq;obtain⟨⟨old,he⟩,hit⟩:=st;obtain⟨f0,f1,f2,f3,f4,f5⟩:=hf it Wv;have hl:=rv.length;exact wpAny_pyNext_enum_end (I.ok.hd hc) he hit p.isList (by simp;omega) λh' eb=>⟨rfl,I.turned (t':=s.toks) (λb o hb e=>eb b o hb e) f0 f1 f3 f4 f5⟩
 self:=λA i s Q E st h=>by
  obtain⟨⟨old,he⟩,_⟩:=st;exact wpAny_pyIter_enum he h
def K7(K:Pt)(ta:TA):TI:=λσ H R=>ta σ H λvs H1=>∃a xs,vs=[.ref a]/\Rd H1 a (.lst xs)/\R (AB K a) H1
theorem K8{X:Cx}{elts:List WI}{k0}{tp:Pos}{a:WI}{ta:TA}{p pos:Pos}(hg:Gl X "enumerate")(hm:X.mg "enumerate"=none)(ha:PA X [a] ta)(hs:WH [a] X.env=[(false,eval a X.env)]:=by rfl):PI X (.Tuple elts k0 tp) (.Call (.Name "enumerate" p) [a] [] pos) (K7 X.K ta):=by
 intro Ys s σ H R I h;refine Call_ (pY I hg hm boot_enumerate (R4 (aC (ha pos Ys s σ H _ I h) λus s1 ⟨vs,H1,I1,r1,q1⟩=>?_) hs rfl));obtain⟨b,xs,e,hr,q⟩:=q1;subst e;cases r1 with
 | cons r rr=>
  cases rr;cases r;have ho:∃(its:List Wx)(n:Nat),s1.heap.get? b=some {cls:= .type "list",dict:=none,data:= .seq its.toArray n,slots:=#[]}:=by
   rcases hr with hr | ⟨o,hr⟩
   ·obtain⟨_,its,n,_,z⟩:=I1.hok b _ hr;exact⟨its,n,z⟩
   ·obtain⟨_,_,its,n,_,z⟩:=I1.hok b _ hr;exact⟨its,n,z⟩
  obtain⟨its,n,ho⟩:=ho;refine call_enumerate_1 ho λh' he hit hsz hk=>wpAny_pyIter_enum he ?_;have I2:ag X Ys σ H1 {s1 with heap:=h'}:=I1.kept (t':=s1.toks) hk;refine⟨s1.heap.objs.size+1,[s1.heap.objs.size+1,s1.heap.objs.size],_,_,H1,rfl,I2,K6 b s1.heap.objs.size (s1.heap.objs.size+1) (Su (So _)),⟨⟨_,he⟩,hit⟩,λc hc=>?_,q⟩;simp only [PH,P1,or_false] at hc;rcases hc with rfl | rfl
  ·exact I1.fpOk (SG _) (I1.hok.fresh (SG _))
  ·exact I1.fpOk (PQ _) (I1.hok.fresh (PQ _))
def nU:Nat->List Ww->List Ww
 | _,[]=>[]
 | k,x::r=>.tuple [.int (k:Int),x]::nU (k+1) r
theorem ve:∀(k:Nat)(xs:List Ww),(nU k xs).length=xs.length
 | _,[]=>rfl
 | k,x::r=>by rw [nU,Px,ve,Px]
theorem vf:∀(k:Nat)(xs:List Ww)(i:Nat),(nU k xs)[i]?=(xs[i]?).map λx=>.tuple [.int ((k+i:Nat):Int),x]
 | _,[],i=>by simp [nU]
 | k,x::r,0=>by simp [nU]
 | k,x::r,i+1=>by
  rw [nU,PL,PL,vf (k+1) r i,show k+1+i=k+(i+1) by omega]
theorem K9{K:Pt}{H0:Hp}{O0:Ex}{a:WA}{vs:List V}{xs:List Ww}{g:TG}{dg:DG}{tb:DS}{D:nJ}{E:pz}{σ:St}{H:Hp}{O:Ex}{δ:Dl}(hr:Rd H a (.lst vs))(ho:¬O a)(gd:GD K g dg)
 (r:au K H O vs xs)(w:Wd K H0 O0 H O σ δ)(q:pB dg tb E (nU 0 xs) δ)
 (k1:∀O' δ' σ' H',E.nx δ'->Wd K H0 O0 H' O' σ' δ'->aX H H' O O'->D.nx σ' H')(k2:∀d v H',E.rt d->aq H0 H'->Dt K H' O0 v d->D.rt v H'):FR (AB K a) g (cF K H0 O0 tb) D σ H:=by
 obtain⟨Iv,q0,qs,qe⟩:=q;have hl:=r.length;have sq:∀H' O',aX H H' O O'->bg K H' a vs:=λH' O' S=>.inl (hr.same λo e=>S.keep _ o e ho);refine⟨λi m σ' H'=>∃O' δ',m=vs.length - i/\i<=vs.length/\Wd K H0 O0 H' O' σ' δ'/\aX H H' O O'/\Iv i δ',⟨vs.length,O,δ,Wv,Rv _,w,aX.refl _ _,q0⟩,?_⟩;rintro i m σ1 H1 ⟨O1,δ1,rfl,hi,w1,S1,q1⟩;by_cases hlt:i < vs.length
 ·refine .inr ⟨⟨vs,vs[i],sq _ _ S1,by simp [hlt]⟩,λσ' H'=>∃O' δ',Wd K H0 O0 H' O' σ' δ'/\aX H H' O O'/\Iv (i+1) δ',λσ' H' uu17=>by obtain⟨O',δ',w',S',q'⟩:=uu17;exact⟨vs.length - (i+1),Ce,O',δ',rfl,hlt,w',S',q'⟩,λx H' y=>?_⟩;obtain⟨p,v,hp,rfl,rfl,hv⟩:=y;obtain⟨d,ed,rd⟩:=r.get (hv vs (sq _ _ S1));have sm:aq H1 (ao H1 p (.tup [.int (i:Int),v])):=aq.new hp;have w2:=w1.mono sm;have np:¬O1 p:=λz=>w1.trk p z hp;have dt:Dt K (ao H1 p (.tup [.int (i:Int),v])) O1 (.ref p) (.tuple [.int (i:Int),d]):= .tup (.inl bx) np (.cons (.int _) (.cons ((rd.step S1).mono sm) .nil));have S2:aX H (ao H1 p (.tup [.int (i:Int),v])) O O1:=S1.trans (.same sm);have e2:(nU 0 xs)[i]?=some (.tuple [.int (i:Int),d]):=by rw [vf,ed];simp
  refine gd H0 O0 _ O1 σ1 δ1 _ _ _ _ w2 dt (qs i _ δ1 e2 q1) λδ2 σ2 q2 w2=>?_;exact⟨O1,δ2,_,w2,q2,λO' δ' σ' H' z w' S'=>⟨O',δ',w',S2.trans S',z⟩,k2,λO' δ' σ' H' z w' S'=>k1 O' δ' σ' H' z w' (S2.trans S'),λO' δ' σ' H' z w' S'=>⟨O',δ',w',S2.trans S',z⟩⟩
 ·have e:i=vs.length:=Ce
  subst e;refine .inl ⟨⟨vs,sq _ _ S1,PQ _⟩,?_⟩;rw [hl,<-ve 0 xs] at q1;exact k1 O1 δ1 σ1 H1 (qe δ1 q1) w1 S1
section
variable {X:Cx} {H0:Hp} {O0:Ex}
def fG(t:DA)(g:DG)(tb:DS):DS:=λE δ=>t δ λds=>∃xs,ds=[.list xs]/\pB g tb E (nU 0 xs) δ
theorem Eu{elts:List WI}{k0}{tp:Pos}{a:WI}{body:List WQ}{p pos pos':Pos}{ta:DA}{g:TG}{dg:DG}{tb:DS}(hp:XO (WE X.prog X.w) X.A X.env X.xe)(hc:X.calm=true)(hgl:Gl X "enumerate")(hm:X.mg "enumerate"=none)(ha:PA X [a] (mE X.K H0 O0 ta))(hg:PG X (.Tuple elts k0 tp) g)(gd:GD X.K g dg)(hb:bG X body (cF X.K H0 O0 tb))
 (hst:WH [a] X.env=[(false,eval a X.env)]:=by rfl)(hs:∀x,WT (.Call (.Name "enumerate" p) [a] [] pos') X.env x=pure x:=by intro _;rfl):
 PS X (.For (.Tuple elts k0 tp) (.Call (.Name "enumerate" p) [a] [] pos') body [] pos) (cF X.K H0 O0 (fG ta dg tb)):=
 (sM hp hc (K8 hgl hm ha hst) hg hb hs).imp λD σ H uu18=>by obtain⟨O,δ,E,w,q,k1,k2,k3,k4⟩:=uu18;exact⟨O,δ,_,w,q,λds vs H1 uu19 s1 r1=>by
  obtain⟨xs,e,q1⟩:=uu19;subst e;cases r1 with
  | cons h r=>
   cases r;cases h with
   | lst h n r=>
    exact⟨_,_,rfl,h,K9 h n gd r (w.mono s1) q1 (λO' δ' σ' H' z w' S=>k1 O' δ' σ' H' z w' (aX.trans (.same s1) S)) k2⟩⟩
end
def jO:List Ww->(Ww->Prop)->Prop:=λds Q=>∃i j:Int,ds=[.int i,.int j]/\bZ i j/\Q (.tuple [.int (i / j),.int (i % j)])
def fH:List Ww->(Ww->Prop)->Prop:=λds Q=>∃ns:List Int,ds=[.list (ns.map .int)]/\Q (.int ns.sum)
theorem Ew{K:Pt}:nr K (λxs H Q=>∃(a:WA)(ns:List Int),xs=[.ref a]/\bg K H a (ns.map V.int)/\Q (.int ns.sum) H) fH:=λH O xs ds Qd R tr hs uu20 k=>by
 obtain⟨ns,e,q⟩:=uu20;subst e;cases hs with
 | cons h r=>
  cases r;obtain⟨a,vs,rfl,h1,d1⟩:=h.lst;cases d1.intsL;exact⟨a,ns,rfl,h1,k _ _ H q (aq.refl _) (.int _)⟩
def jP:List Ww->(Ww->Prop)->Prop:=λds Q=>∃ns:List Int,ds=[.list (ns.map .int)]/\ns≠[]/\∀M,M∈ns->(∀a∈ns,M<=a)->Q (.int M)
def jQ(c:Int->Int->Prop):Ww->Ww->(Ww->Prop)->Prop:=λx y Q=>∃i j:Int,x= .int i/\y= .int j/\c i j/\∀r:Int,Q (.int r)
section
variable {X:Cx} {H0:Hp} {O0:Ex}
def jR(n:Nat)(t:DA):DA:=λδ Q=>t δ λds=>ds.length<=1000/\Q (PK n ds).flatten
theorem au.rep{K:Pt}{H:Hp}{O:Ex}{vs:List V}{ds:List Ww}(h:au K H O vs ds):∀n:Nat,au K H O (PK n vs).flatten (PK n ds).flatten
 | 0=>.nil
 | n+1=>by rw [R7,R7,R3,R3];exact h.append (au.rep h n)
def jS(i:Nat)(t:DT):DS:=λE δ=>∃ds,δ[i]?=some (some (.o ds))/\t δ λd=>∃es,d= .list es/\ds.length+es.length<=WG/\E.nx (δ.set i (some (.o (ds++es))))
end
end L2
namespace Day
def nH(y:Int):Bool:=decide (y % 400=0) || (decide (y % 4=0) && !decide (y % 100=0))
def ld(y:Int):Int:=if nH y=true then 1 else 0
def AD:List Int:=[31,28,31,30,31,30,31,31,30,31,30,31]
def bj(y m:Int):Int:=if m=2/\nH y=true then 29 else AD.getD (m - 1).toNat 0
def lb(y:Int):Int:=(y - 1)/ 4 - (y - 1)/ 100+(y - 1)/ 400
def bu(y:Int):Int:=365*(y - 2000)+lb y - lb 2000
def aL(y m:Int):Int:=((Rz (m - 1).toNat).map λ(i:Nat)=>bj y (1+(i:Int))).sum
def lW(y m n:Int):Int:=bu y+aL y m+n - 1
structure lI (d y m n:Int):Prop where
 m1:1<=m
 m12:m<=12
 n1:1<=n
 nl:n<=bj y m
 eq:lW y m n=d
theorem La(y:Int):0<=ld y/\ld y<=1:=by unfold ld;split <;> omega
theorem AE(y:Int):nH y=true↔(y % 400=0\/(y % 4=0/\y % 100≠0)):=by
 unfold nH;simp
theorem vg(y:Int):bu (y+1)=bu y+365+ld y:=by
 unfold bu lb ld;by_cases h:nH y=true
 ·rw [Wt h];have:=(AE y).mp h;omega
 ·rw [Ws h];have:=mt (AE y).mpr h;omega
theorem vh{a b:Int}(h:a+1<=b):bu (a+1)<=bu b:=by
 unfold bu lb;omega
theorem AF(y:Int):bj y 2=28+ld y:=by
 unfold bj ld;by_cases h:nH y=true
 ·rw [Wt ⟨rfl,h⟩,Wt h];rfl
 ·rw [Ws (λz=>h z.2),Ws h];rfl
theorem Ey{y m:Int}(h:m≠2):bj y m=AD.getD (m - 1).toNat 0:=by
 unfold bj;rw [Ws (λz=>h z.1)]
theorem vi(y:Int):bj y 1=31/\bj y 3=31/\bj y 4=30/\bj y 5=31/\bj y 6=30/\bj y 7=31/\bj y 8=31/\bj y 9=30/\bj y 10=31/\bj y 11=30/\bj y 12=31:=by
 refine⟨?_,?_,?_,?_,?_,?_,?_,?_,?_,?_,?_⟩ <;> (rw [Ey tx];rfl)
theorem AG{m:Int}(h1:1<=m)(h2:m<=12):m=1\/m=2\/m=3\/m=4\/m=5\/m=6\/m=7\/m=8\/m=9\/m=10\/m=11\/m=12:=by
 obtain⟨k,e⟩:=Q2 (show 0<=m - 1 by omega);have e:m=(k:Int)+1:=Ce
 have hk:k < 12:=Ce
 have key:∀k:Fin 12,((k.1:Nat):Int)+1=1\/((k.1:Nat):Int)+1=2\/((k.1:Nat):Int)+1=3\/((k.1:Nat):Int)+1=4\/((k.1:Nat):Int)+1=5\/((k.1:Nat):Int)+1=6\/((k.1:Nat):Int)+1=7\/((k.1:Nat):Int)+1=8\/((k.1:Nat):Int)+1=9\/((k.1:Nat):Int)+1=10\/((k.1:Nat):Int)+1=11\/((k.1:Nat):Int)+1=12:=td
 rw [e];exact key ⟨k,hk⟩
theorem rC{y m:Int}(h1:1<=m)(h2:m<=12):28<=bj y m/\bj y m<=31:=by
 obtain⟨m1,m3,m4,m5,m6,m7,m8,m9,m10,m11,m12⟩:=vi y;have m2:28<=bj y 2/\bj y 2<=31:=by
  have:=La y;rw [AF];clear m1 m3 m4 m5 m6 m7 m8 m9 m10 m11 m12 h1 h2;omega
 have k:∀{z:Int},z=31\/z=30->28<=z/\z<=31:=λh=>by rcases h with h | h <;> rw [h] <;> decide
 rcases AG h1 h2 with h | h | h | h | h | h | h | h | h | h | h | h <;> subst h
 ·exact k (.inl m1)
 ·exact m2
 ·exact k (.inl m3)
 ·exact k (.inr m4)
 ·exact k (.inl m5)
 ·exact k (.inr m6)
 ·exact k (.inl m7)
 ·exact k (.inl m8)
 ·exact k (.inr m9)
 ·exact k (.inl m10)
 ·exact k (.inr m11)
 ·exact k (.inl m12)
theorem rD(y:Int):aL y 1=0:=rfl
theorem lC{y m:Int}(h:1<=m):aL y (m+1)=aL y m+bj y m:=by
 unfold aL;have e:(m+1 - 1).toNat=(m - 1).toNat+1:=Ce
 rw [e,SS,RG,UG];have e2:(1:Int)+(((m - 1).toNat:Nat):Int)=m:=Ce
 simp only [Py,Qf,Sa,Vm,e2];omega
theorem Lb{a b c:Int}(l:Int)(h:a+b=c):a+(b+l)=c+l:=Ce
theorem nV{a b c:Int}(l:Int)(h:a+b=c):a+l+b=c+l:=Ce
theorem tP(y:Int):aL y 1=0/\aL y 2=31/\aL y 3=59+ld y/\aL y 4=90+ld y/\aL y 5=120+ld y/\aL y 6=151+ld y/\aL y 7=181+ld y/\aL y 8=212+ld y/\aL y 9=243+ld y/\aL y 10=273+ld y/\aL y 11=304+ld y/\aL y 12=334+ld y/\aL y 13=365+ld y:=by
 obtain⟨m1,m3,m4,m5,m6,m7,m8,m9,m10,m11,m12⟩:=vi y;have e2:aL y 2=31:=by rw [show aL y 2=aL y 1+bj y 1 from lC (m:=1) tx,m1];rfl
 have e3:aL y 3=59+ld y:=by rw [show aL y 3=aL y 2+bj y 2 from lC (m:=2) tx,e2,AF];exact Lb _ rfl
 have e4:aL y 4=90+ld y:=by rw [show aL y 4=aL y 3+bj y 3 from lC (m:=3) tx,e3,m3];exact nV _ rfl
 have e5:aL y 5=120+ld y:=by rw [show aL y 5=aL y 4+bj y 4 from lC (m:=4) tx,e4,m4];exact nV _ rfl
 have e6:aL y 6=151+ld y:=by rw [show aL y 6=aL y 5+bj y 5 from lC (m:=5) tx,e5,m5];exact nV _ rfl
 have e7:aL y 7=181+ld y:=by rw [show aL y 7=aL y 6+bj y 6 from lC (m:=6) tx,e6,m6];exact nV _ rfl
 have e8:aL y 8=212+ld y:=by rw [show aL y 8=aL y 7+bj y 7 from lC (m:=7) tx,e7,m7];exact nV _ rfl
 have e9:aL y 9=243+ld y:=by rw [show aL y 9=aL y 8+bj y 8 from lC (m:=8) tx,e8,m8];exact nV _ rfl
 have e10:aL y 10=273+ld y:=by rw [show aL y 10=aL y 9+bj y 9 from lC (m:=9) tx,e9,m9];exact nV _ rfl
 have e11:aL y 11=304+ld y:=by rw [show aL y 11=aL y 10+bj y 10 from lC (m:=10) tx,e10,m10];exact nV _ rfl
 have e12:aL y 12=334+ld y:=by rw [show aL y 12=aL y 11+bj y 11 from lC (m:=11) tx,e11,m11];exact nV _ rfl
 have e13:aL y 13=365+ld y:=by rw [show aL y 13=aL y 12+bj y 12 from lC (m:=12) tx,e12,m12];exact nV _ rfl
 exact⟨rD y,e2,e3,e4,e5,e6,e7,e8,e9,e10,e11,e12,e13⟩
theorem Ez{y m:Int}(h1:1<=m):∀k:Nat,m+k<=13->aL y m<=aL y (m+k)
 | 0,_=>by simp
 | k+1,h=>by
  have ih:=Ez (y:=y) h1 k Ce;have e:m+((k+1:Nat):Int)=(m+k)+1:=Ce
  rw [e,lC Ce];have:=rC (y:=y) (m:=m+k) Ce Ce;omega
theorem AH{y m m':Int}(h1:1<=m)(h2:m<=m')(h3:m'<=13):aL y m<=aL y m':=by
 have:=Ez (y:=y) h1 (m' - m).toNat Ce;rw [show m+(((m' - m).toNat:Nat):Int)=m' by omega] at this;exact this
theorem vj{y m:Int}(h1:1<=m)(h2:m<=12):0<=aL y m/\aL y m+bj y m<=365+ld y:=by
 have a:=AH (y:=y) (m:=1) (m':=m) tx h1 Ce;have b:=AH (y:=y) (m:=m+1) (m':=13) Ce Ce tx;rw [lC h1] at b;have c:=(tP y).1;have e:=(tP y).2.2.2.2.2.2.2.2.2.2.2.2;omega
theorem EA{y m m':Int}(h1:1<=m)(h2:m < m')(h3:m'<=12):aL y m+bj y m<=aL y m':=by
 have b:=AH (y:=y) (m:=m+1) (m':=m') Ce Ce Ce;rw [lC h1] at b;exact b
theorem lI.in{d y m n:Int}(h:lI d y m n):bu y<=d/\d < bu (y+1):=by
 have:=vj (y:=y) h.m1 h.m12;have:=h.n1;have:=h.nl;have e:=h.eq;have:=vg y;unfold lW at e;omega
theorem lI.uniq{d y m n y' m' n':Int}(h:lI d y m n)(h':lI d y' m' n'):y=y'/\m=m'/\n=n':=by
 have a:=h.in;have b:=h'.in;have ey:y=y':=by
  rcases Vx y y' with z | z | z
  ·have:=vh (a:=y) (b:=y') Ce;omega
  ·exact z
  ·have:=vh (a:=y') (b:=y) Ce;omega
 subst ey;have e:=h.eq;have e':=h'.eq;unfold lW at e e';have em:m=m':=by
  rcases Vx m m' with z | z | z
  ·have:=EA (y:=y) h.m1 z h'.m12;have:=h.nl;have:=h'.n1;omega
  ·exact z
  ·have:=EA (y:=y) h'.m1 z h.m12;have:=h'.nl;have:=h.n1;omega
 subst em;exact⟨rfl,rfl,Ce⟩
def qx(d:Int):Int:=
 if d < bu (2000+d*400 / 146097) then 2000+d*400 / 146097 - 1
 else if bu (2000+d*400 / 146097+1)<=d then 2000+d*400 / 146097+1
 else 2000+d*400 / 146097
theorem EB(d:Int):bu (qx d)<=d/\d < bu (qx d+1):=by
 unfold qx;have e:2000+d*400 / 146097 - 1+1=2000+d*400 / 146097:=Ce
 by_cases h:d < bu (2000+d*400 / 146097)
 ·rw [Wt h,e];refine⟨?_,h⟩;unfold bu lb at*;omega
 ·rw [Ws h];by_cases h2:bu (2000+d*400 / 146097+1)<=d
  ·rw [Wt h2];refine⟨h2,?_⟩;unfold bu lb at*;omega
  ·rw [Ws h2];omega
theorem Lc(y:Int):365*(y - 2000)+(y - 2000+3)/ 4 - (y - 2000+99)/ 100+(y - 2000+399)/ 400=bu y:=by
 unfold bu lb;omega
theorem Ld{d:Int}(h:0<=d):bu (2000+d / 366)<=d:=by
 unfold bu lb;omega
theorem vk{d y m n:Int}(h:lI d y m n)(h0:0<=d)(h1:d < bu 10000):2000<=y/\y<=9999:=by
 have a:=h.in;have e0:bu 2000=0:=tx
 constructor
 ·by_cases z:2000<=y
  ·exact z
  ·have:=vh (a:=y) (b:=2000) Ce;omega
 ·by_cases z:y<=9999
  ·exact z
  ·have m1:bu 10000<=bu y:=by
    have:=vh (a:=9999) (b:=y) Ce;exact this
   omega
end Day
namespace L2
open PySem PySem.Spec PyProof.Rows PySem.W
def d2(m:Nat):List Nat:=[48+m / 10,48+m % 10]
def d4(y:Nat):List Nat:=[48+y / 1000,48+y / 100 % 10,48+y / 10 % 10,48+y % 10]
theorem AI:∀m:Fin 100,Txt.zfill (Pr (toString (m.val:Int))) 2=⟨(d2 m.val).toArray⟩:=td
theorem rE:∀m:Fin 100,Tu ⟨(d2 m.val).toArray⟩=some (m.val:Int):=td
theorem Le:∀d:Fin 10,(V4 d.val).toNat=48+d.val:=tx
theorem vm{d:Nat}(h:d < 10):(V4 d).toNat=48+d:=Le ⟨d,h⟩
theorem vn{y:Nat}(h1:1000<=y)(h2:y < 10000):Pr (toString (y:Int))=⟨(d4 y).toArray⟩:=by
 have e:=KIN.signs_num y;rw [Tx tx Ce,Tx tx Ce,Tx tx Ce,Nat.toDigits_of_lt_base Ce] at e;simp only [Qa,P6,Py,Qf] at e;rw [vm Ce,vm Ce,vm Ce,vm Ce] at e;rw [show y / 10 / 10 / 10=y / 1000 by omega,show y / 10 / 10 % 10=y / 100 % 10 by omega] at e;show _=(⟨(d4 y).toArray⟩:Str);cases hs:Pr (toString (y:Int)) with
 | mk c=>
  rw [hs] at e;congr 1;apply VO;rw [e];rfl
theorem AJ{y:Nat}(h1:1000<=y)(h2:y < 10000):Tu ⟨(d4 y).toArray⟩=some (y:Int):=by
 rw [<-vn h1 h2];exact KIN.num_reads Ce Ce
def rF(y m n:Nat):List Nat:=d4 y++45::(d2 m++45::d2 n)
def lD(y m n:Int):Str:=⟨(rF y.toNat m.toNat n.toNat).toArray⟩
theorem Str.ext_list{a b:Str}(h:a.cps.toList=b.cps.toList):a=b:=by
 cases a;cases b;congr 1;exact VO h
theorem AK(a b:Str):(a++b).cps.toList=a.cps.toList++b.cps.toList:=by
 show(a.cps++b.cps).toList=_;exact Sn
theorem Lf{y m n:Int}(hy:1000<=y/\y < 10000)(hm:0<=m/\m < 100)(hn:0<=n/\n < 100):
 TR++Pr (toString y)++Pr "-"++Txt.zfill (Pr (toString m)) 2++Pr "-"++Txt.zfill (Pr (toString n)) 2=lD y m n:=by
 obtain⟨y,rfl⟩:=Q2 (show 0<=y by omega);obtain⟨m,rfl⟩:=Q2 hm.1;obtain⟨n,rfl⟩:=Q2 hn.1;have e1:=vn (y:=y) Ce Ce;have e2:=AI ⟨m,Ce⟩;have e3:=AI ⟨n,Ce⟩;simp only at e2 e3;rw [e1,e2,e3];apply Str.ext_list;simp only [AK];have h1:(Pr "-").cps.toList=[45]:=td
 have h2:Str.empty.cps.toList=[]:=rfl;rw [h1,h2];simp [lD,rF]
def kE(c:Nat):List Nat->List (List Nat)
 | []=>[[]]
 | x::xs=>if x=c then []::kE c xs else match kE c xs with | []=>[[x]] | p::ps=>(x::p)::ps
def lJ(c:Nat):List (List Nat)->List Nat
 | []=>[]
 | [p]=>p
 | p::q::r=>p++c::lJ c (q::r)
theorem AL(c:Nat):∀l,kE c l≠[]
 | []=>by simp [kE]
 | x::xs=>by
  unfold kE;split
  ·simp
  ·split <;> simp
theorem AM(c:Nat):∀p:List Nat,c ∉ p->kE c p=[p]
 | [],_=>rfl
 | x::xs,h=>by
  have hx:x≠c:=λe=>h (by simp [e]);have hr:c ∉ xs:=λe=>h (by simp [e]);unfold kE;rw [Ws hx,AM c xs hr]
theorem vo(c:Nat)(l:List Nat):∀p:List Nat,c ∉ p->kE c (p++c::l)=p::kE c l
 | [],_=>by show kE c (c::l)=_;rw [kE,Wt rfl]
 | x::xs,h=>by
  have hx:x≠c:=λe=>h (by simp [e]);have hr:c ∉ xs:=λe=>h (by simp [e]);show kE c (x::(xs++c::l))=_;rw [kE,Ws hx,vo c l xs hr]
theorem AN(c:Nat):∀ps:List (List Nat),ps≠[]->(∀p∈ps,c ∉ p)->kE c (lJ c ps)=ps
 | [],h,_=>absurd rfl h
 | [p],_,h=>AM c p (h p Wv)
 | p::q::r,_,h=>by
  show kE c (p++c::lJ c (q::r))=_;rw [vo c _ p (h p Wv),AN c (q::r) Wv (λx hx=>h x (by simp at hx⊢;exact .inr hx))]
theorem qy(c:Nat):∀ps:List Str,(SM ⟨#[c]⟩ ps).cps.toList=lJ c (ps.map λp=>p.cps.toList)
 | []=>rfl
 | [p]=>rfl
 | p::q::r=>by
  have ih:=qy c (q::r);show((p++⟨#[c]⟩++SM ⟨#[c]⟩ (q::r)):Str).cps.toList=_;rw [AK,AK,ih];show p.cps.toList++[c]++lJ c _=p.cps.toList++c::lJ c _;simp
theorem rG(x:Str)(c:Nat):(Txt.split x ⟨#[c]⟩).map (λp=>p.cps.toList)=kE c x.cps.toList:=by
 have hj:=T7 x ⟨#[c]⟩;have hf:=StrLaws.split_free x c;by_cases hn:Txt.split x ⟨#[c]⟩=[]
 ·exfalso
  revert hn
  unfold Txt.split;split
  ·simp
  ·split
   ·simp
   ·intro h;have:=T7 x ⟨#[c]⟩;have hl:=congrArg Td h;rw [PyProof.Rows.len_partsBetween] at hl;simp at hl
 ·rw [<-hj,qy,AN c _ (by simpa using hn) (λp hp=>by
   obtain⟨q,hq,rfl⟩:=QO.mp hp;exact hf q hq)]
  rw [hj]
theorem Lg{y m n:Int}:Txt.split (lD y m n) (Pr "-")=[⟨(d4 y.toNat).toArray⟩,⟨(d2 m.toNat).toArray⟩,⟨(d2 n.toNat).toArray⟩]:=by
 have e:Pr "-"=⟨#[45]⟩:=td
 rw [e];have h:=rG (lD y m n) 45;have e2:(lD y m n).cps.toList=d4 y.toNat++45::(d2 m.toNat++45::d2 n.toNat):=by simp [lD,rF]
 rw [e2,vo 45 _ _ (by simp [d4];omega),vo 45 _ _ (by simp [d2];omega),AM 45 _ (by simp [d2];omega)] at h;have inj:∀{a b:List Str},a.map (λp=>p.cps.toList)=b.map (λp=>p.cps.toList)->a=b:=λ{a b} h=>by
  induction a generalizing b with
  | nil=>cases b with
   | nil=>rfl
   | cons _ _=>simp at h
  | cons x xs ih=>cases b with
   | nil=>simp at h
   | cons z zs=>
    simp only [Py,PJ] at h;rw [Str.ext_list h.1,ih h.2]
 exact inj (h.trans Wv)
theorem EC(y m n:Int):(lD y m n).length=10:=by simp [lD,rF,d4,d2,Str.length]
section
variable {X:Cx} {H0:Hp} {O0:Ex}
theorem Lh:sT X "str.join" (λx xs H Q=>∃(O:Ex)(z:Str)(a:V)(ys:List Str),x= .str z/\xs=[a]/\Sh X.K H O a (.tuple (ys.map .str))/\(ys.map (·.length)).sum+ys.length*z.length<=16777216/\Q (.str (Txt.join z ys)) H):=by
 intro Ys s σ H x xs v us Q I rx rs h;obtain⟨O,z,a,ys,rfl,rfl,ha,hz,q⟩:=h;obtain⟨t,rfl⟩:=rx;obtain⟨u,rfl,ru⟩:=lj rs;obtain⟨l,vs,rfl,hl,dl⟩:=ha.tup;cases ru;obtain⟨its,rv,pl,_⟩:=I.tuple hl;exact join_tuple pl (by simpa using Dm dl rv) hz λt' k=>⟨.str _,H,I.tok _,⟨_,rfl⟩,q⟩
def fJ(to:DT)(t:DT):DT:=λδ Q=>to δ λx=>∃z:Str,x= .str z/\t δ λy=>∃(ys:List Str),y= .tuple (ys.map .str)/\(ys.map (·.length)).sum+ys.length*z.length<=16777216/\Q (.str (Txt.join z ys))
theorem ED{o e:WI}{to t:DT}{apos cpos:Pos}(ho:DE X H0 O0 o to)(ha:DF X H0 O0 e t)(hbase:Xn o "join" X.env (eval o X.env)=eval o X.env:=by rfl)
 (hfew:((WZ cpos (WH [e] X.env)).all (λx=>!x.1) && (Yb cpos (XM [] X.env)).all (λx=>x.1.isSome) && decide ([e].length+([]:List XA).length+(if ([]:List XA).isEmpty then 0 else 1) < 30))=true:=by rfl)
 (hline:(apos.endLine==cpos.line)=true:=by rfl)(hst:WH [e] X.env=(false,eval e X.env)::WH [] X.env:=by rfl)(hplain:(WZ cpos (WH [] X.env)).any (·.1)=false:=by rfl):
 DE X H0 O0 (.Call (.Attribute o "join" apos) [e] [] cpos) (fJ to t):=
 (sU SV UM UN Lh ho (aQ ha bM hst) hbase hfew hline hst hplain).imp λσ H Q uu21=>by obtain⟨O,δ,Qd,w,q,k⟩:=uu21;exact⟨O,δ,_,w,q,λx v H1 uu22 s1 r1=>by
  obtain⟨z,e,q1⟩:=uu22;subst e;cases r1;exact⟨rfl,O,δ,_,w.mono s1,q1,λy u H2 uu23 s2 r2=>by obtain⟨ys,e,hz,q2⟩:=uu23;subst e;exact⟨O,z,u,ys,rfl,rfl,r2,hz,k _ _ H2 q2 (s1.trans s2) (.str _)⟩⟩⟩
def fK(t:DA)(u:DT):DA:=λδ Q=>t δ λds=>ds.length<=1000/\u δ λy=>∃i:Int,y= .int i/\0<=i/\i<=1000/\Q (PK i.toNat ds).flatten
theorem Li{e f:WI}{t:DA}{u:DT}{pos:Pos}(h:FE X H0 O0 e t)(hf:DE X H0 O0 f u):FE X H0 O0 (.BinOp e .Mult f pos) (fK t u):=
 (cw Ip h hf).imp λσ H Q ⟨O,δ,Qd,w,q,k⟩=>⟨O,δ,_,w,q,λds vs p H1 q1 s1 hp r1=>⟨O,δ,_,w.mono (s1.trans (aq.new hp)),q1.2,λy v H2 uu25 s2 r2=>by
  obtain⟨i,e,i0,i1,q2⟩:=uu25;subst e;cases r2;refine⟨p,i,vs,rfl,rfl,s2 _ _ bx,Ce,Ce,?_,λp' hp'=>k _ _ p' _ q2 ((s1.trans (aq.new hp)).trans s2) hp' ((r1.rep i.toNat).mono ((aq.new hp).trans s2))⟩;have h1:=r1.length;have h2:(WG:Nat)=16777216:=tx
  have h3:=q1.1;have h4:vs.length*i.toNat<=1000*1000:=Nat.mul_le_mul Ce Ce;omega⟩⟩
end
open PySem PySem.Spec PyProof.Rows PySem.W PySem.Calls
section
variable {prog:WM} {w:WO} {A:WR} {E:Wx->WB->Prop} {s:WB}
theorem EF{j t:WA}{i:Nat}{its:Array Wx}{x:Wx}{Q:Wx->WB->Prop}(hi:s.heap.IsTupleIter j t i)(ht:s.heap.IsTuple t its)(hx:its[i]?=some x)
 (k:∀h2,h2.IsTupleIter j t (i+1)->Ss j s.heap h2->Q x {s with heap:=h2}):WD (WE prog w) A (RL (.ref j)) Q E s:=by
 obtain⟨oi,e1,c1,d1⟩:=id hi;obtain⟨ot,e2,_,n2,d2⟩:=ht;unfold RL;refine Wy (WX (name:=Pr "__next__") hi.typeIs F.slot_tuple_iterator_next (W0 F.slot_tuple_iterator_next hi.typeIs F.entry_tuple_iterator_next ?_ (F.args_tuple_iterator_next_1 _)))
 (show WD _ _ (field (.ref j) 0 >>=_) _ _ s);refine Wy (W4 e1 d1 (x:= .ref t) rfl ?_)
 (show WD _ _ (if (QJ t==RX)=true then _ else _) _ _ s);rw [Ws (show ¬((QJ t==RX)=true) from Qx)]
 (show WD _ _ (field (.ref j) 1 >>=_) _ _ s);refine Wy (W4 e1 d1 (x:= .int i 0) rfl ?_)
 (show WD _ _ (seqItems? (.ref t) >>=_) _ _ s);refine Wy (Xd e2 d2 ?_)
 simp only [Q9,hx];refine Wy (Xi e1 d1 Wv (WC ⟨x,rfl,WC (k _ ?_ (RB ..))⟩));exact⟨_,Rm _ e1 (Sx (RH d1 _)),(Tz ..).trans c1,by rw [RH d1];simp [Xe]⟩
theorem Lj{j t:WA}{i:Nat}{its:Array Wx}{Q:Wx->WB->Prop}(hh:A.handled=none)(hi:s.heap.IsTupleIter j t i)(ht:s.heap.IsTuple t its)(hx:its[i]?=none)
 (k:∀h2 e,VA j s.heap h2->(∃o,h2.get? e=some o/\o.cls= .type "StopIteration")->E (.ref e) {s with heap:=h2}):WD (WE prog w) A (RL (.ref j)) Q E s:=by
 obtain⟨oi,e1,c1,d1⟩:=id hi;obtain⟨ot,e2,_,n2,d2⟩:=ht;unfold RL;refine Wy (WX (name:=Pr "__next__") hi.typeIs F.slot_tuple_iterator_next (W0 F.slot_tuple_iterator_next hi.typeIs F.entry_tuple_iterator_next ?_ (F.args_tuple_iterator_next_1 _)))
 (show WD _ _ (field (.ref j) 0 >>=_) _ _ s);refine Wy (W4 e1 d1 (x:= .ref t) rfl ?_)
 (show WD _ _ (if (QJ t==RX)=true then _ else _) _ _ s);rw [Ws (show ¬((QJ t==RX)=true) from Qx)]
 (show WD _ _ (field (.ref j) 1 >>=_) _ _ s);refine Wy (W4 e1 d1 (x:= .int i 0) rfl ?_)
 (show WD _ _ (seqItems? (.ref t) >>=_) _ _ s);refine Wy (Xd e2 d2 ?_)
 simp only [Q9,hx];refine Wy (XF (Wy (Xi e1 d1 Wv ?_)))
 (show WD _ _ (newExc (.type "StopIteration") [] >>=_) _ _ _);refine Wy ?_;simp only [newExc,newTuple]
 refine Wy (WV ?_ (by size_fits));refine Wy (m:=XE _ _) (XX (a:=RX) (by first | rfl | (simp only [XE];rfl)) ?_);refine WV ?_ (by size_fits);simp only [raiseNew];refine Wy (wpAny_handled ?_)
 first | rw [show A.in1.handled=none from hh] | rw [hh]
 refine Wy (WC (wpAny_throw ?_));exact k _ _ (((RB ..).extBut.push _).push _) ⟨_,Qi _ rfl,rfl⟩
theorem Lk{z TI TO i1 i2 l1 l2:WA}{k1 k2:Nat}{xs ys:Array Wx}{x y a b:Wx}{Q:Wx->WB->Prop}(D:Yd z TI TO i1 i2 l1 l2)
 (hz:XN s.heap z TI TO .none)(hI:Xh s.heap TI (.ref i1) (.ref i2))(hO:Xh s.heap TO a b)(h1:s.heap.IsTupleIter i1 l1 k1)(h2:s.heap.IsTupleIter i2 l2 k2)(t1:s.heap.IsTuple l1 xs)(t2:s.heap.IsTuple l2 ys)(hx:xs[k1]?=some x)(hy:ys[k2]?=some y)
 (k:∀g,XN g z TI TO (Xe s.heap.objs.size)->Xh g TO x y->g.IsTupleIter i1 l1 (k1+1)->g.IsTupleIter i2 l2 (k2+1)->Xh g s.heap.objs.size x y->g.objs.size=s.heap.objs.size+1->
  (∀c o,c≠z->c≠TO->c≠i1->c≠i2->s.heap.get? c=some o->g.get? c=some o)->Q (.ref s.heap.objs.size) {s with heap:=g}):
 WD (WE prog w) A (Builtin.«zip.__next__» ⟨[.ref z],[]⟩) (λfin s'=>∃v,fin= .done (.ret v)/\Q v s') E s:=by
 (show WD _ _ (field (.ref z) 2 >>=_) _ _ _);refine Wy (W4 hz rfl (x:= .bool false) rfl ?_)
 (show WD _ _ (field (.ref z) 3 >>=_) _ _ _);refine Wy (W4 hz rfl (x:= .ref TI) rfl ?_);refine Wy (Xd hI rfl ?_)
 (show WD _ _ (RZ (.ref z) >>=_) _ _ _);refine Wy ?_;unfold RZ
 refine Wy (W4 hz rfl (x:= .none) rfl (WC ?_));simp only [if_true];refine Wy (XF ?_);refine Wy (W4 hz rfl (x:= .ref TO) rfl ?_);refine Wy (XD hz Wv λg1 z1 b1=>?_)
 replace z1:XN g1 z TI TO .ellipsis:=z1
 refine Wy ?_;simp only [VG,VQ,UE,UL];refine Wy (Wy (Yn ?_));(show WD _ _ (RL (.ref i1) >>=_) _ _ _);refine Wy (EF (h1.extBut b1.extBut D.i1z) (t1.extBut b1.extBut D.l1z) hx λg2 j2 b2=>WC ?_);have o2:Xh g2 TO a b:=b2.extBut _ _ D.TOi1 (b1.extBut _ _ D.TOz hO);refine Wy (Xd o2 rfl ?_);refine Wy (wpAny_updateSeq_pair o2 λg3 o3 b3=>?_)
 replace o3:Xh g3 TO x b:=o3
 refine Wy (wpAny_letGo (WC ?_));refine Wy (Wy (Yn ?_));(show WD _ _ (RL (.ref i2) >>=_) _ _ _);refine Wy (EF (((h2.extBut b1.extBut D.i2z).extBut b2.extBut D.i12.symm).extBut b3.extBut D.TOi2.symm) (((t2.extBut b1.extBut D.l2z).extBut b2.extBut D.l2i1).extBut b3.extBut D.l2TO) hy λg4 j4 b4=>WC ?_);have o4:Xh g4 TO x b:=b4.extBut _ _ D.TOi2 o3;refine Wy (Xd o4 rfl ?_);refine Wy (wpAny_updateSeq_pair o4 λg5 o5 b5=>?_)
 replace o5:Xh g5 TO x y:=o5
 refine Wy (wpAny_letGo (WC (WC ?_)));refine Wy (Xd o5 rfl ?_);refine Wy (wpAny_newTuple ?_);have sz:g5.objs.size=s.heap.objs.size:=by rw [b5.1,b4.1,b3.1,b2.1,b1.1]
 have z5:XN g5 z TI TO .ellipsis:=b5.extBut _ _ D.TOz.symm (b4.extBut _ _ D.i2z.symm (b3.extBut _ _ D.TOz.symm (b2.extBut _ _ D.i1z.symm z1)));have k5:∀c o,c≠z->c≠TO->c≠i1->c≠i2->s.heap.get? c=some o->g5.get? c=some o:=λc o c1 c2 c3 c4 e=>b5.extBut _ _ c2 (b4.extBut _ _ c4 (b3.extBut _ _ c2 (b2.extBut _ _ c3 (b1.extBut _ _ c1 e))));have j15:g5.IsTupleIter i1 l1 (k1+1):=((j2.extBut b3.extBut D.TOi1.symm).extBut b4.extBut D.i12).extBut b5.extBut D.TOi1.symm;have j25:g5.IsTupleIter i2 l2 (k2+1):=j4.extBut b5.extBut D.TOi2.symm;have zl:z < g5.objs.size:=PX z5
 (show WD _ _ (Tq (.ref z) (.ref g5.objs.size) >>=_) _ _ _);refine Wy ?_;unfold Tq
 have z6:XN (g5.push {cls:= .type "tuple",data:= .seq #[x,y]}) z TI TO .ellipsis:=PB _ z5;refine Wy (XD z6 Wv λg7 z7 b7=>?_)
 replace z7:XN g7 z TI TO (Xe g5.objs.size):=z7
 refine XD z7 Wv λg8 z8 b8=>?_
 replace z8:XN g8 z TI TO (Xe g5.objs.size):=z8
 have up:∀c o,c≠z->g5.get? c=some o->g8.get? c=some o:=λc o c1 e=>b8.extBut _ _ c1 (b7.extBut _ _ c1 (PB _ e));have p8:Xh g8 g5.objs.size x y:=b8.extBut _ _ (Su zl) (b7.extBut _ _ (Su zl) (Qi _ rfl));have s8:g8.objs.size=g5.objs.size+1:=by rw [b8.1,b7.1,RY]
 rw [sz] at z8 p8 s8;refine WC ⟨_,rfl,?_⟩;(show Q (.ref g5.objs.size) _);rw [sz];have at1:∀{j t i},g5.IsTupleIter j t i->j≠z->g8.IsTupleIter j t i:=λh hj=>let ⟨o,e,r⟩:=h;⟨o,up _ o hj e,r⟩
 exact k g8 z8 (up _ _ D.TOz o5) (at1 j15 D.i1z) (at1 j25 D.i2z) p8 s8 λc o c1 c2 c3 c4 e=>up c o c1 (k5 c o c1 c2 c3 c4 e)
theorem Ll{z TI TO i1 i2 l1 l2:WA}{k1:Nat}{xs:Array Wx}{Q:Fin->WB->Prop}(hh:A.handled=none)(D:Yd z TI TO i1 i2 l1 l2)
 (hz:XN s.heap z TI TO .none)(hI:Xh s.heap TI (.ref i1) (.ref i2))(h1:s.heap.IsTupleIter i1 l1 k1)(t1:s.heap.IsTuple l1 xs)(hx:xs[k1]?=none)
 (k:∀g e,(∀c o,c≠z->c≠i1->s.heap.get? c=some o->g.get? c=some o)->(∃o,g.get? e=some o/\o.cls= .type "StopIteration")->E (.ref e) {s with heap:=g}):
 WD (WE prog w) A (Builtin.«zip.__next__» ⟨[.ref z],[]⟩) Q E s:=by
 (show WD _ _ (field (.ref z) 2 >>=_) _ _ _);refine Wy (W4 hz rfl (x:= .bool false) rfl ?_)
 (show WD _ _ (field (.ref z) 3 >>=_) _ _ _);refine Wy (W4 hz rfl (x:= .ref TI) rfl ?_);refine Wy (Xd hI rfl ?_)
 (show WD _ _ (RZ (.ref z) >>=_) _ _ _);refine Wy ?_;unfold RZ
 refine Wy (W4 hz rfl (x:= .none) rfl (WC ?_));simp only [if_true];refine Wy (XF ?_);refine Wy (W4 hz rfl (x:= .ref TO) rfl ?_);refine Wy (XD hz Wv λg1 z1 b1=>?_)
 replace z1:XN g1 z TI TO .ellipsis:=z1
 refine Wy ?_;simp only [VG,VQ,UE,UL];refine Wy (Wy (Yn ?_));(show WD _ _ (RL (.ref i1) >>=_) _ _ _);refine Wy (Lj hh (h1.extBut b1.extBut D.i1z) (t1.extBut b1.extBut D.l1z) hx λg2 e b2 he=>?_);obtain⟨oe,hoe,hce⟩:=he;have z2:XN g2 z TI TO .ellipsis:=b2 _ _ D.i1z.symm z1;have ez:e≠z:=λq=>by subst q;rw [z2] at hoe;cases hoe;simp at hce
 exact XD z2 Wv λg3 _ b3=>k g3 e (λc o c1 c3 q=>b3.extBut _ _ c1 (b2 _ _ c3 (b1.extBut _ _ c1 q))) ⟨oe,b3.extBut _ _ ez hoe,hce⟩
theorem Lm{z TI TO i1 i2 l1 l2:WA}{k1 k2:Nat}{xs ys:Array Wx}{x y a b:Wx}{Q:Option Wx->WB->Prop}(D:Yd z TI TO i1 i2 l1 l2)
 (hz:XN s.heap z TI TO .none)(hI:Xh s.heap TI (.ref i1) (.ref i2))(hO:Xh s.heap TO a b)(h1:s.heap.IsTupleIter i1 l1 k1)(h2:s.heap.IsTupleIter i2 l2 k2)(t1:s.heap.IsTuple l1 xs)(t2:s.heap.IsTuple l2 ys)(hx:xs[k1]?=some x)(hy:ys[k2]?=some y)
 (k:∀g,XN g z TI TO (Xe s.heap.objs.size)->Xh g TO x y->g.IsTupleIter i1 l1 (k1+1)->g.IsTupleIter i2 l2 (k2+1)->Xh g s.heap.objs.size x y->g.objs.size=s.heap.objs.size+1->
  (∀c o,c≠z->c≠TO->c≠i1->c≠i2->s.heap.get? c=some o->g.get? c=some o)->Q (some (.ref s.heap.objs.size)) {s with heap:=g}):WD (WE prog w) A (Xo (.ref z)) Q E s:=by
 have ty:s.TypeIs (.ref z) "zip":=⟨_,hz,rfl⟩;unfold Xo;exact Wy (XI (WX (name:=Pr "__next__") ty F.slot_zip_next (W0 F.slot_zip_next ty F.entry_zip_next (Lk D hz hI hO h1 h2 t1 t2 hx hy λg a1 a2 a3 a4 a5 a6 a7=>WC (k g a1 a2 a3 a4 a5 a6 a7)) (F.args_zip_next_1 _))))
theorem Ln{z TI TO i1 i2 l1 l2:WA}{k1:Nat}{xs:Array Wx}{Q:Option Wx->WB->Prop}(hh:A.handled=none)(D:Yd z TI TO i1 i2 l1 l2)
 (hz:XN s.heap z TI TO .none)(hI:Xh s.heap TI (.ref i1) (.ref i2))(h1:s.heap.IsTupleIter i1 l1 k1)(t1:s.heap.IsTuple l1 xs)(hx:xs[k1]?=none)
 (k:∀g,(∀c o,c≠z->c≠i1->s.heap.get? c=some o->g.get? c=some o)->Q none {s with heap:=g}):WD (WE prog w) A (Xo (.ref z)) Q E s:=by
 have ty:s.TypeIs (.ref z) "zip":=⟨_,hz,rfl⟩;unfold Xo;refine Wy (XI (WX (name:=Pr "__next__") ty F.slot_zip_next (W0 F.slot_zip_next ty F.entry_zip_next (Ll hh D hz hI h1 t1 hx λg e kk he=>?_) (F.args_zip_next_1 _))));obtain⟨oe,eo,ce⟩:=he;refine Wy (X2 (T:="StopIteration") (b:=true) ⟨oe,eo,ce⟩ isSubtype_stop ?_);exact WC (k _ kk)
abbrev vp(h:WL)(a:WA):WL:=h.push {cls:= .type "tuple_iterator",data:= .fields #[.ref a,.int 0 0]}
abbrev vq(h:WL)(a b:WA):WL:=(vp h a).push {cls:= .type "tuple_iterator",data:= .fields #[.ref b,.int 0 0]}
abbrev vt(h:WL)(a b:WA):WL:=(vq h a b).push {cls:= .type "tuple",data:= .seq #[.ref h.objs.size,.ref (vp h a).objs.size]}
abbrev vv(h:WL)(a b:WA):WL:=(vt h a b).push {cls:= .type "tuple",data:= .seq #[.none,.none]}
abbrev rH(h:WL)(a b:WA):WL:=(vv h a b).push {cls:= .type "zip",data:= .fields #[.none,.bool false,.bool false,.ref (vq h a b).objs.size,.ref (vt h a b).objs.size]}
theorem Lo(a b:WA)(xs ys:Array Wx):Meets (Builtin.«zip.__new__» ⟨[.type "zip",.ref a,.ref b],[]⟩) (λ_ R s=>s.heap.IsTuple a xs/\s.heap.IsTuple b ys/\R (.ok (.ret (.ref (vv s.heap a b).objs.size))) {s with heap:=rH s.heap a b}):=
 .of_wp λprog w A R s h=>by
  obtain⟨hp,g,d,tk,os⟩:=s;obtain⟨u1,u2,h⟩:=h;have hsub:=sub_zip;have v1:Wa (Wk ⟨hp,g,d,tk,os⟩) a xs:=u1;have v2:Wa (Wk ⟨hp.push {cls:= .type "tuple_iterator",data:= .fields #[.ref a,.int 0 0]},g,d,tk,os⟩) b ys:=Wa.push u2 _
  wp_walk using Yg v1,Yg v2
  exact⟨_,rfl,h⟩
theorem Lp{a b:WA}{xs ys:Array Wx}{Q:Wx->WB->Prop}(ha:s.heap.IsTuple a xs)(hb:s.heap.IsTuple b ys)
 (k:∀g,XN g (s.heap.objs.size+4) (s.heap.objs.size+2) (s.heap.objs.size+3) .none->Xh g (s.heap.objs.size+2) (.ref s.heap.objs.size) (.ref (s.heap.objs.size+1))->Xh g (s.heap.objs.size+3) .none .none->
  g.IsTupleIter s.heap.objs.size a 0->g.IsTupleIter (s.heap.objs.size+1) b 0->(∀c o,s.heap.get? c=some o->g.get? c=some o)->Q (.ref (s.heap.objs.size+4)) {s with heap:=g}):WD (WE prog w) A (call (.type "zip") [.ref a,.ref b]) Q E s:=by
 refine callType_new F.called_zip tx (F.typeCall_zip_2 _ _) (F.newCall_zip_2 _ _) (λobj=>F.args_object_init_3 obj _ _) F.entry_zip_new (Lo a b xs ys) ⟨ha,hb,?_⟩;have n1:(vp s.heap a).objs.size=s.heap.objs.size+1:=RY ..;have n2:(vq s.heap a b).objs.size=s.heap.objs.size+2:=by rw [RY,n1]
 have n3:(vt s.heap a b).objs.size=s.heap.objs.size+3:=by rw [RY,n2]
 have n4:(vv s.heap a b).objs.size=s.heap.objs.size+4:=by rw [RY,n3]
 have ps:∀{h:WL}{x:Obj}{c:WA}{o:Obj},h.get? c=some o->(h.push x).get? c=some o:=λe=>PB _ e;have g5:(rH s.heap a b).get? (vv s.heap a b).objs.size=some _:=Qi _ rfl;have g4:(rH s.heap a b).get? (vt s.heap a b).objs.size=some _:=ps (Qi _ rfl);have g3:(rH s.heap a b).get? (vq s.heap a b).objs.size=some _:=ps (ps (Qi _ rfl));have g2:(rH s.heap a b).get? (vp s.heap a).objs.size=some _:=ps (ps (ps (Qi _ rfl)));have g1:(rH s.heap a b).get? s.heap.objs.size=some _:=ps (ps (ps (ps (Qi _ rfl))));show _/\_;rw [n2,n3,n4] at g5;rw [n1,n2] at g3;rw [n3] at g4;rw [n1] at g2;rw [n4];exact⟨⟨_,g5,rfl⟩,k _ g5 g3 g4 ⟨_,g1,rfl,rfl⟩ ⟨_,g2,rfl,rfl⟩ λc o e=>ps (ps (ps (ps (ps e))))⟩
end
section
variable {X:Cx} {Ys:List (WA×Obj)} {σ:St} {H:Hp} {s:WB}
theorem ag.still{ch:List WA}{t':Nat}{h':WL}(I:ag X Ys σ H s)(f:∀b∈ch,mQ X Ys H b)(k:∀b u,b ∉ ch->s.heap.get? b=some u->h'.get? b=some u):ag X Ys σ H {s with heap:=h',toks:=t'}:=by
 have nC:∀b u,H b=some u->b ∉ ch:=λb u e z=>by rw [(f b z).1] at e;cases e
 refine I.step (g':=s.gens) (d':=s.drawn) (ch:=ch) (λb hb=>?_) (λb o _ _ hc e _=>k b o hc e) (λb o _ _ hc e _=>⟨o.slots,k b o hc e⟩) (λb o hc _ n=>n) (λb o hc e=>⟨o,k b o hc e⟩) (λb xs e=>e) (λb u xs e=>e) (λb ps e=>⟨#[],by rw [e];simp⟩) (λm hm=>hm.at' λo e=>k _ o (λz=>(f _ z).2.1 rfl) e) (λb u e=>?_) I.bare
 ·obtain⟨f0,f1,f2,f3,f4,f5⟩:=f b hb;exact⟨f3,f1,f4,f5⟩
 ·refine(I.hok b u e).stay (λc v hc q=>k c v (λz=>?_) q) (λc q=>q) (λc xs q=>q) (λc xs q=>q);rcases hc with r | r
  ·rw [r] at z;exact nC _ _ e z
  ·exact nC _ _ r z
end
def AO(K:Pt)(a b:WA):It:=
 ⟨λi H=>∃xs ys x y,aZ K H a xs/\aZ K H b ys/\xs[i]?=some x/\ys[i]?=some y,λi H x H'=>∃p v u,H p=none/\x= .ref p/\H'=ao H p (.tup [v,u])/\(∀xs,aZ K H a xs->xs[i]?=some v)/\∀ys,aZ K H b ys->ys[i]?=some u,λi H=>∃xs,aZ K H a xs/\xs.length<=i⟩
theorem Lq{P:WM}{w:WO}{K:Pt}{elts:List WI}{k0}{pos:Pos}(a b z TI TO i1 i2:WA)(D:Yd z TI TO i1 i2 a b):pZ P w K (.Tuple elts k0 pos) (AO K a b) [z,TI,TO,i1,i2] z
 (λi h=>XN h z TI TO .none/\Xh h TI (.ref i1) (.ref i2)/\(∃u v,Xh h TO u v)/\h.IsTupleIter i1 a i/\h.IsTupleIter i2 b i) where
 mem:=Wv
 obj:=λi h st c hc=>by
  simp only [PH,P1,or_false] at hc;obtain⟨a1,a2,⟨u,v,a3⟩,⟨o4,e4,c4,d4⟩,o5,e5,c5,d5⟩:=st;rcases hc with rfl | rfl | rfl | rfl | rfl
  ·exact⟨_,a1,λv z=>by cases z⟩
  ·exact⟨_,a2,λv z=>by cases z⟩
  ·exact⟨_,a3,λv z=>by cases z⟩
  ·exact⟨o4,e4,λv z=>by rw [d4] at z;cases z⟩
  ·exact⟨o5,e5,λv z=>by rw [d5] at z;cases z⟩
 keep:=λi h h' st k=>by
  obtain⟨a1,a2,⟨u,v,a3⟩,⟨o4,e4,r4⟩,o5,e5,r5⟩:=st;exact⟨k _ Wv _ a1,k _ Wv _ a2,⟨u,v,k _ Wv _ a3⟩,⟨o4,k _ Wv _ e4,r4⟩,o5,k _ Wv _ e5,r5⟩
 item:=by
  intro X hP hw hK hc i Ys s σ H E I hf st hg;subst hP hw hK;obtain⟨xs,ys,x,y,qa,qb,hx,hy⟩:=hg;obtain⟨ia,ra,pa,_⟩:=I.tuple qa;obtain⟨ib,rb,pb,_⟩:=I.tuple qb;obtain⟨u,hu,ru⟩:=ra.get hx;obtain⟨v,hv,rv⟩:=rb.get hy;obtain⟨a1,a2,⟨_,_,a3⟩,a4,a5⟩:=st;refine Lm D a1 a2 a3 a4 a5 (show s.heap.IsTuple a ia.toArray from pa) (show s.heap.IsTuple b ib.toArray from pb) (x:=u) (y:=v) (by simpa using hu) (by simpa using hv) λg b1 b2 b3 b4 b5 b6 hk=>?_;have T0:H s.heap.objs.size=none:=I.hok.fresh (PQ _);have lts:∀c∈[z,TI,TO,i1,i2],c < s.heap.objs.size:=λc hc=>by
   simp only [PH,P1,or_false] at hc;rcases hc with rfl | rfl | rfl | rfl | rfl
   ·exact PX a1
   ·exact PX a2
   ·exact PX a3
   ·obtain⟨_,e,_⟩:=a4;exact PX e
   ·obtain⟨_,e,_⟩:=a5;exact PX e
  have I1:ag X Ys σ (ao H s.heap.objs.size (.tup [x,y])) {s with heap:=g}:=by
   refine I.track (t':=s.toks) (ch:=[s.heap.objs.size,z,TO,i1,i2]) Wv (λc hc=>?_) (λc o hc e=>hk c o (λq=>hc (by simp [q])) (λq=>hc (by simp [q])) (λq=>hc (by simp [q])) (λq=>hc (by simp [q])) e) ?_
   ·rcases PH.mp hc with q | q
    ·rw [q];exact I.fpOk (PQ _) T0
    ·refine hf c ?_;simp only [PH,P1,or_false] at q⊢;rcases q with q | q | q | q <;> simp [q]
   ·exact⟨by rw [WN,Px,Px,P5];decide,[u,v],.cons ru (.cons rv .nil),_,b5,rfl,0,rfl⟩
  refine⟨_,rfl,wpAny_letOwnedTupleGo_zip b1 λg2 z2 sb=>?_⟩;obtain⟨f0,f1,f2,f3,f4,f5⟩:=hf z Wv;have nz:s.heap.objs.size≠z:=Su (lts z Wv);have I2:ag X Ys σ (ao H s.heap.objs.size (.tup [x,y])) {s with heap:=g2}:=I1.turned (t':=s.toks) (λc o hc q=>(sb.2 c hc).trans q) (by rw [ay (Ne.symm nz)];exact f0) f1 f3 f4 f5;have at2:∀{j t i},g.IsTupleIter j t i->j≠z->g2.IsTupleIter j t i:=λh hj=>let ⟨o,e,r⟩:=h;⟨o,(sb.2 _ hj).trans e,r⟩
  refine⟨.ref s.heap.objs.size,_,I2,rfl,⟨_,x,y,T0,rfl,rfl,λus hus=>by rw [I.tuple_inj hus qa];exact hx,λus hus=>by rw [I.tuple_inj hus qb];exact hy⟩,⟨z2,(sb.2 _ D.TIz).trans (hk _ _ D.TIz D.TITO D.TIi1 D.TIi2 a2),⟨_,_,(sb.2 _ D.TOz).trans b2⟩,at2 b3 D.i1z,at2 b4 D.i2z⟩,λc hc=>?_⟩;rw [ay λq=>?_]
  ·exact(hf c hc).1
  ·have:=lts c hc;rw [q] at this;exact RR _ this
 done:=by
  intro X hP hw hK hc i Ys s σ H E I hf st hg;subst hP hw hK;obtain⟨xs,qa,hx⟩:=hg;obtain⟨ia,ra,pa,_⟩:=I.tuple qa;obtain⟨a1,a2,_,a4,_⟩:=st;have hl:=ra.length;obtain⟨f0,f1,f2,f3,f4,f5⟩:=hf z Wv;obtain⟨e0,e1,e2,e3,e4,e5⟩:=hf i1 Wv;refine Ln (I.ok.hd hc) D a1 a2 a4 (show s.heap.IsTuple a ia.toArray from pa) (by simp;omega) λg hk=>⟨rfl,?_⟩;exact I.still (ch:=[z,i1]) (t':=s.toks) (λc hc=>by
   simp only [PH,P1,or_false] at hc;rcases hc with rfl | rfl
   ·exact hf _ Wv
   ·exact hf _ Wv) λc o hc e=>hk c o (λq=>hc (by simp [q])) (λq=>hc (by simp [q])) e
 self:=λA i s Q E st h=>wpAny_pyIter_zip st.1 h
theorem Lr{n u v:Nat}(hu:u < n)(hv:v < n):Yd (n+4) (n+2) (n+3) n (n+1) u v:=by constructor <;> (intro q;have q:(_:Nat)=_:=q;omega)
def Lu(K:Pt)(ta:TA):TI:=λσ H R=>ta σ H λvs H1=>∃a b xs ys,vs=[.ref a,.ref b]/\aZ K H1 a xs/\aZ K H1 b ys/\R (AO K a b) H1
theorem Lv{X:Cx}{elts:List WI}{k0}{tp:Pos}{a b:WI}{ta:TA}{p pos:Pos}(hg:Gl X "zip")(hm:X.mg "zip"=none)(ha:PA X [a,b] ta)(hs:WH [a,b] X.env=(false,eval a X.env)::WH [b] X.env:=by rfl)(hpl:(WZ pos (WH [b] X.env)).any (·.1)=false:=by rfl):PI X (.Tuple elts k0 tp) (.Call (.Name "zip" p) [a,b] [] pos) (Lu X.K ta):=by
 intro Ys s σ H R I h;refine Call_ (pY I hg hm boot_zip (R4 (aC (ha pos Ys s σ H _ I h) λus s1 ⟨vs,H1,I1,r1,q1⟩=>?_) hs hpl));obtain⟨u,v,xs,ys,e,qa,qb,q⟩:=q1;subst e;cases r1 with
 | cons r rr=>
  cases rr with
  | cons r2 rr=>
   cases rr;cases r;cases r2;obtain⟨ia,ra,pa,_⟩:=I1.tuple qa;obtain⟨ib,rb,pb,_⟩:=I1.tuple qb;have la:u < s1.heap.objs.size:=by obtain⟨o,e,_⟩:=(show s1.heap.IsTuple u ia.toArray from pa);exact PX e
   have lb:v < s1.heap.objs.size:=by obtain⟨o,e,_⟩:=(show s1.heap.IsTuple v ib.toArray from pb);exact PX e
   refine Lp (show s1.heap.IsTuple u ia.toArray from pa) (show s1.heap.IsTuple v ib.toArray from pb) λg z1 z2 z3 z4 z5 hk=>wpAny_pyIter_zip z1 ?_;have I2:ag X Ys σ H1 {s1 with heap:=g}:=I1.kept (t':=s1.toks) hk;have D:Yd (s1.heap.objs.size+4) (s1.heap.objs.size+2) (s1.heap.objs.size+3) s1.heap.objs.size (s1.heap.objs.size+1) u v:=Lr la lb;refine⟨_,_,_,_,H1,rfl,I2,Lq u v _ _ _ _ _ D,⟨z1,z2,⟨_,_,z3⟩,z4,z5⟩,λc hc=>?_,q⟩;have le:s1.heap.objs.size<=c:=by
    simp only [PH,P1,or_false] at hc;rcases hc with rfl | rfl | rfl | rfl | rfl <;> omega
   exact I1.fpOk le (I1.hok.fresh le)
def pK(xs ys:List Ww):List Ww:=List.zipWith (λx y=>.tuple [x,y]) xs ys
theorem EG{K:Pt}{H H':Hp}{a:WA}{xs:List V}(s:∀o,H a=some o->H' a=some o)(h:aZ K H a xs):aZ K H' a xs:=by
 rcases h with h | h
 ·exact .inl (h.same s)
 ·exact .inr h
theorem Lw{K:Pt}{H0:Hp}{O0:Ex}{a b:WA}{vs us:List V}{xs ys:List Ww}{g:TG}{dg:DG}{tc:TT}{dc:DB}{te:TE}{de:DT}{k:Nat}{fr:List Nat}{σ:St}{H:Hp}{O:Ex}{δ:Dl}{Qd:List Ww->Prop}{Q:VK}(qa:aZ K H a vs)(qb:aZ K H b us)(gd:GD K g dg)(hf:fr.Nodup)
 (hk:∀v:V,∀σ':St,∀H':Hp,∀R:St->Hp->Prop,g v (bF k fr σ) H' R->g v (bF k fr σ) H' λσ2 H2=>ph (bF k fr σ) σ2/\R σ2 H2)
 (hc:∀σ H Q,j6 K H0 O0 dc σ H Q->tc σ H Q)(he:∀σ H Q,up K H0 O0 de σ H Q->te σ H Q)
 (r1:au K H O vs xs)(r2:au K H O us ys)(hl:vs.length=us.length)(w:Wd K H0 O0 H O σ δ)(hz:vs.length<=WG)(q:mG dg dc de (bp k fr δ) (pK xs ys) Qd)
 (k1:∀ds us p H',Qd ds->aq H H'->H' p=none->au K H' O us ds->Q (.ref p) (ao H' p (.lst us))):pk (AO K a b) g tc te k fr σ H Q:=by
 obtain⟨Iv,q0,qs,qe⟩:=q;intro D hD;have w0:Wd K H0 O0 H O (bF k fr σ) (bp k fr δ):=w.comp hf;have nD:¬O D:=λz=>w.trk D z hD;have D0:H0 D=none:=by
  cases e:H0 D with
  | none=>rfl
  | some o=>rw [w.same _ _ e] at hD;cases hD
 have ex:∀H',nN D H H'->H' D≠none->Wd K H0 O0 H' (λa=>O a\/a=D) (bF k fr σ) (bp k fr δ):=λH' s' hd=>by
  have S':aX H H' O (λa=>O a\/a=D):=⟨λb o e _=>s' b o e (kz e hD),λb hb hn z=>z.elim hn λq=>hb (by rw [q];exact hD)⟩;refine⟨λb o e=>s' b o (w.same b o e) (λz=>by rw [z,D0] at e;cases e),λl z=>.inl (w.sub l z),λl z=>z.elim (w.new l) λq=>.inr (by rw [q];exact D0),λl z=>?_,w0.len,λj y e=>?_,w0.dis⟩
  ·by_cases ql:l=D
   ·rw [ql];exact hd
   ·have hl:=w.trk l (z.resolve_right ql);cases e:H l with
    | none=>exact absurd e hl
    | some o=>rw [s' l o e ql];exact λz=>nomatch z
  ·exact(w0.sl j y e).go S' (λl o _ _ a1 _ a3=>⟨.inl a1,s' _ _ a3 (λz=>nD (by rw [<-z];exact a1))⟩) (λa o u a1 _ a3=>⟨.inl a1,s' _ _ a3 (λz=>nD (by rw [<-z];exact a1))⟩) λa o a1 a3=>s' _ _ a3 (λz=>nD (by rw [<-z];exact w.sub _ a1))
 have zl:(pK xs ys).length=vs.length:=by unfold pK;rw [List.length_zipWith,<-r1.length,<-r2.length,<-hl];exact Nat.min_self _
 have sq:∀H',nN D H H'->aZ K H' a vs/\aZ K H' b us:=λH' s'=>⟨EG (λo e=>s' _ _ e (kz e hD)) qa,EG (λo e=>s' _ _ e (kz e hD)) qb⟩;refine⟨λi m H'=>∃acc ws,m=vs.length - i/\i<=vs.length/\nN D H H'/\H' D=some (.lst ws)/\ws.length<=i/\au K H' (λa=>O a\/a=D) ws acc/\Iv i acc,⟨vs.length,[],[],Wv,Rv _,λb o e n=>by rw [ay n];exact e,bx,Rv _,.nil,q0⟩,?_⟩;rintro i m H1 ⟨acc,ws,rfl,hi,s1,e1,hy,ra,q1⟩;obtain⟨sa,sb⟩:=sq H1 s1;by_cases hlt:i < vs.length
 ·refine .inr ⟨⟨vs,us,vs[i],us[i]'Ce,sa,sb,by simp [hlt],by simp [show i < us.length by omega]⟩,λx H' y=>?_⟩;obtain⟨p,v,u,hp,rfl,rfl,hv,hu⟩:=y;obtain⟨d,ed,rd⟩:=r1.get (hv vs sa);obtain⟨e,ee,re⟩:=r2.get (hu us sb);have pD:p≠D:=λz=>by rw [z,e1] at hp;cases hp
  have s2:nN D H (ao H1 p (.tup [v,u])):=λb o e n=>by
   have e':=s1 b o e n;rw [ay (λz=>by rw [z,hp] at e';cases e')];exact e'
  have e2:(ao H1 p (.tup [v,u])) D=some (.lst ws):=by rw [ay (Ne.symm pD)];exact e1
  have w1:=ex _ s2 (by rw [e2];exact λz=>nomatch z);have sm:aq H1 (ao H1 p (.tup [v,u])):=aq.new hp;have S':aX H (ao H1 p (.tup [v,u])) O (λa=>O a\/a=D):=⟨λb o e _=>s2 b o e (kz e hD),λb hb hn z=>z.elim hn λq=>hb (by rw [q];exact hD)⟩;have np:¬(O p\/p=D):=λz=>z.elim (λz=>by
   have:=w.trk p z;cases eh:H p with
   | none=>exact this eh
   | some o=>rw [s1 p o eh pD] at hp;cases hp) pD
  have dt:Dt K (ao H1 p (.tup [v,u])) (λa=>O a\/a=D) (.ref p) (.tuple [d,e]):= .tup (.inl bx) np (.cons (rd.step S') (.cons (re.step S') .nil));have ez:(pK xs ys)[i]?=some (.tuple [d,e]):=by unfold pK;rw [List.getElem?_zipWith,ed,ee]
  refine hk (.ref p) σ _ _ (gd H0 O0 _ _ _ _ (.ref p) _ _ _ w1 dt (qs i _ acc ez q1) λδ2 σ2 q2 w2=>?_);refine hc σ2 _ _ ⟨_,δ2,_,w2,q2,λok H3 q3 s3=>?_⟩;cases ok with
  | true=>
   rw [Wt rfl];refine he σ2 H3 _ ⟨_,δ2,_,w2.mono s3,q3,λd' v' H4 q4 s4 r4=>?_⟩;have e4:=s4 _ _ (s3 _ _ e2);have sD:aX H4 (ao H4 D (.lst (ws++[v']))) (λa=>O a\/a=D) (λa=>O a\/a=D):=⟨λb o e n=>by rw [ay (λz=>n (.inr z))];exact e,λ_ _ n=>n⟩;refine⟨ws,e4,Ce,vs.length - (i+1),Ce,acc++[d'],ws++[v'],rfl,hlt,λb o e n=>by rw [ay n];exact s4 _ _ (s3 _ _ (s2 b o e n)),bx,by simpa using hy,?_,q4⟩;exact((ra.mono ((sm.trans s3).trans s4)).append (.cons r4 .nil)).step sD
  | false=>
   rw [Ws tx];exact⟨vs.length - (i+1),Ce,acc,ws,rfl,hlt,λb o e n=>s3 _ _ (s2 b o e n),s3 _ _ e2,Ce,ra.mono (sm.trans s3),q3⟩
 ·have e:i=vs.length:=Ce
  subst e;refine .inl ⟨⟨vs,sa,PQ _⟩,?_⟩;rw [<-zl] at q1;have hrest:∃H2:Hp,H2 D=none/\aq H H2/\H1=ao H2 D (.lst ws):=by
   refine⟨λb=>if b=D then none else H1 b,Wv,λb o e=>?_,?_⟩
   ·have n:=kz e hD;show(if b=D then none else H1 b)=some o;rw [Ws n];exact s1 b o e n
   ·funext b;by_cases z:b=D
    ·rw [z,bx];exact e1
    ·rw [ay z];show H1 b=if b=D then none else H1 b;rw [Ws z]
  obtain⟨H2,h2,s2,rfl⟩:=hrest;refine k1 acc ws D H2 (qe acc q1) s2 h2 (ra.step ⟨λb o e n=>?_,λb _ n z=>n (.inl z)⟩);rw [ay (λz=>n (.inr z))] at e;exact e
def fL(ta:DA)(g:DG)(tc:DB)(te:DT)(k:Nat)(fr:List Nat):DA:=λδ Q=>ta δ λds=>∃xs ys,ds=[.tuple xs,.tuple ys]/\xs.length=ys.length/\xs.length<=WG/\mG g tc te (bp k fr δ) (pK xs ys) Q
section
variable {X:Cx} {H0:Hp} {O0:Ex} {elts:List WI} {k0:Nat} {tp:Pos} {elt:WI} {ifs:List WI} {scope:W5} {N':List Str} {k:Nat} {fr:List Nat} {g:TG} {dg:DG} {ta:DA} {tc:DB} {te:DT} {pos p ps:Pos} {a b:WI}
theorem Lx(hc:X.calm=true)(S:bR X.env.scope X.N N' k fr scope)(hgl:Gl X "zip")(hm:X.mg "zip"=none)(ha:PA X [a,b] (mF X.K H0 O0 ta))(gd:GD X.K g dg)(hk:oE g k)(hfr:fr.Nodup)
 (hg:∀fp C s H,PG (bW X scope N' fp C s H) (.Tuple elts k0 tp) g)(hf:∀fp C s H,l6 (bW X scope N' fp C s H) ifs (j6 X.K H0 O0 tc))(he:∀fp C s H,PE (bW X scope N' fp C s H) elt (up X.K H0 O0 te))
 (hst:WH [a,b] X.env=(false,eval a X.env)::WH [b] X.env:=by rfl)(hpl:(WZ ps (WH [b] X.env)).any (·.1)=false:=by rfl)(hs:∀x,WT (.Call (.Name "zip" p) [a,b] [] ps) X.env x=pure x:=by intro _;rfl):
 FE X H0 O0 (.ListComp elt [⟨.Tuple elts k0 tp,(.Call (.Name "zip" p) [a,b] [] ps),ifs,0⟩] scope pos) (fL ta dg tc te k fr):=
 (qg hc S (Lv hgl hm ha hst hpl) hg hf he hs).imp λσ H Q uu27=>by obtain⟨O,δ,Qd,w,q,kk⟩:=uu27;exact⟨O,δ,_,w,q,λds vs H1 uu28 s1 r1=>by
  obtain⟨xs,ys,e,hl,hz,q1⟩:=uu28;subst e;cases r1 with
  | cons r1 r2=>
   cases r2 with
   | cons r2 r3=>
    cases r3;obtain⟨u,us,rfl,qa,ra⟩:=r1.tup;obtain⟨v,vs,rfl,qb,rb⟩:=r2.tup;exact⟨u,v,us,vs,rfl,qa,qb,λD hD=>Lw qa qb gd hfr (λv _ H' R h=>hk fr σ v H' R h) (λ_ _ _ z=>z) (λ_ _ _ z=>z) ra rb (by rw [ra.length,rb.length];exact hl) (w.mono s1) (by rw [ra.length];exact hz) q1 (λds us p H' z s' hp r'=>kk ds us p H' z (s1.trans s') hp r') D hD⟩⟩
end
theorem Ly(a b:Int):pd (.int a) (.int b)=true:=rfl
theorem Lz(a b:Str):pd (.str a) (.str b)=true:=rfl
theorem LA(a b:Bool):pd (.bl a) (.bl b)=true:=rfl
theorem LB(b:Int):pd .non (.int b)=true:=rfl
theorem LC(b:Int):pd (.int b) .non=true:=rfl
section
variable {x y z w:Option Sl} {l:Dl} {i j k m:Nat} {P:Ww->Prop}
theorem jT:kL j ((x::l).set 0 y) P=kL j (y::l) P:=rfl
theorem jU:kL j ((x::l).set (i+1) y) P=kL j (x::l.set i y) P:=rfl
theorem jV:kL j (((x::l).set 0 y).set k z) P=kL j ((y::l).set k z) P:=rfl
theorem jW:kL j (((x::l).set (i+1) y).set k z) P=kL j ((x::l.set i y).set k z) P:=rfl
theorem jX:kL j ((((x::l).set 0 y).set k z).set m w) P=kL j (((y::l).set k z).set m w) P:=rfl
theorem jY:kL j ((((x::l).set (i+1) y).set k z).set m w) P=kL j (((x::l.set i y).set k z).set m w) P:=rfl
end
section
variable {K:Pt} {mg:Str->Option Wx} {h:WL} {x q:Str} {st:WQ} {f C:WA} {fd:WJ} {ps:List Str}
structure Fn (K:Pt) (mg:Str->Option Wx) (x:Str) (st:WQ) (f:WA) (fd:WJ) (ps:List Str):Prop where
 F:lK K x x st f fd
 m:mg x=some (.ref f)
 b:mC K fd ps []
structure Mn (K:Pt) (x q:Str) (st:WQ) (f:WA) (fd:WJ) (ps:List Str):Prop where
 F:lK K x q st f fd
 b:mC K fd ps []
structure DfT (K:Pt) (x:Str) (st:WQ) (f:WA) (fd:WJ):Prop where
 a:Qn K WK x=some (some (.ref f))
 F:lK K x x st f fd
structure DmT (K:Pt) (C:WA) (x q:Str) (st:WQ) (f:WA) (fd:WJ):Prop where
 a:Rp K (.ref C) x=some (some (.ref f))
 i:Vn K (.ref f)=true
 F:lK K x q st f fd
theorem DfT.of{oc:Wx}{od an:Option WA}{osl:Array (Option Wx)}{kV doc pm cdv ct:Wx}(a:Qn K WK x=some (some (.ref f)))(l:K.lookup f=some ⟨oc,od,.func (RV x x (nM st) (l3 st) (az st) .none kV doc pm an cdv ct),osl⟩)
 (c:Ts K cdv x=true)(k:Se K (.ref f)=true):DfT K x st f (RV x x (nM st) (l3 st) (az st) .none kV doc pm an cdv ct):=⟨a,CF l c k⟩
theorem DmT.of{oc:Wx}{od an:Option WA}{osl:Array (Option Wx)}{kV doc pm cdv ct:Wx}(a:Rp K (.ref C) x=some (some (.ref f)))(i:Vn K (.ref f)=true)(l:K.lookup f=some ⟨oc,od,.func (RV x q (nM st) (l3 st) (az st) .none kV doc pm an cdv ct),osl⟩)
 (c:Ts K cdv q=true)(k:Se K (.ref f)=true):DmT K C x q st f (RV x q (nM st) (l3 st) (az st) .none kV doc pm an cdv ct):=⟨a,i,CF l c k⟩
theorem DfT.fn(D:DfT K x st f fd)(X:K.In h)(G:h.Ns WK mg)(hb:∀(kV doc pm:Wx) (an:Option WA) (cdv ct:Wx) (us:List Wx),us.length=ps.length->bindArgs (RV x x (nM st) (l3 st) (az st) .none kV doc pm an cdv ct) ⟨us,[]⟩=pure (ps.zip us):=by walk_at "b"):Fn K mg x st f fd ps:=⟨D.F,Q7 X G D.a,D.F.binds hb⟩
theorem DmT.fn(D:DmT K C x q st f fd)(hb:∀(kV doc pm:Wx) (an:Option WA) (cdv ct:Wx) (us:List Wx),us.length=ps.length->bindArgs (RV x q (nM st) (l3 st) (az st) .none kV doc pm an cdv ct) ⟨us,[]⟩=pure (ps.zip us):=by walk_at "b"):Mn K x q st f fd ps:=⟨D.F,D.F.binds hb⟩
theorem Fn.kp(N:Fn K mg x st f fd ps):Se K (.ref f)=true:=N.F.kp
end
section
variable {X:Cx} {k:Nat} {f:WA} {fd:WJ} {ps:List Str} {sp:Sp} {st:WQ} {x:Str} {p pos:Pos} {e:WI} {es:List WI} {t:TA}
theorem lO(F:aF X.prog X.w X.K X.mg X.base CX0 k f fd ps sp)(hr:bQ k X.A)(hg:Gl X x)(N:Fn X.K X.mg x st f fd ps)
 (ha:PA X (e::es) t)(hdb:(x==("__debug__":Str))=false:=by decide)(he:WH (e::es) X.env=(false,eval e X.env)::WH es X.env:=by rfl)(hpl:(WZ pos (WH es X.env)).any (·.1)=false:=by rfl):
 PE X (.Call (.Name x p) (e::es) [] pos) (sQ sp [] E0 t):=HG F hr hg N.m N.kp N.b .nil CD ha hdb he hpl
end
theorem bR.of{sc:W5}{N N':List Str}{k:Nat}{fr:List Nat}{scope:W5}(a:scope.kind= .function:=by rfl)(b:∀y∈scope.names,y.2= .cell->scope.names.lookup y.1=some .cell:=by decide+kernel)(c:∀y∈scope.names,y.2= .local->scope.names.lookup y.1=some .local:=by decide+kernel)(d:N'.Nodup:=by decide+kernel)(e:fr.map (λj=>N[j]?)=(N'.drop k).map some:=by rfl)(f:∀x∈N'.drop k,scope.names.lookup x=some .free:=by decide+kernel)(g:∀y∈scope.names,y.2= .free->sc.names.lookup y.1=some .cell\/sc.names.lookup y.1=some .free:=by decide+kernel)(h:∀x∈N'.drop k,sc.names.lookup x=some .cell\/sc.names.lookup x=some .free:=by decide+kernel)(i:N'.length=k+fr.length:=by rfl):bR sc N N' k fr scope:=⟨a,b,c,d,e,f,g,h,i⟩
theorem aN.of{N P:List Str}{sc:W5}(a:sc.kind= .function:=by rfl)(b:sc.isCoroutine=false:=by rfl)(c:sc.isGenerator=false:=by rfl)(d:N.Nodup:=by decide+kernel)(e:N.take P.length=P:=by rfl)(f:∀x∈P,sc.names.lookup x=some .local\/sc.names.lookup x=some .cell:=by decide+kernel)(g:∀y∈sc.names,y.2≠ .free:=by decide+kernel):aN N P sc:=⟨a,b,c,d,e,f,g⟩
section
variable {X:Cx} {H0:Hp} {O0:Ex} {pos:Pos} {a b e:WI} {es:List WI} {ta tb t:DT} {u:DA} {r:R2} {rd:Ww->Ww->(Ww->Prop)->Prop}
theorem aW{op:Operator}(ho:bD X (Xc op) r)(hd:j7 X.K r rd)(ha:DE X H0 O0 a ta)(hb:DE X H0 O0 b tb):DE X H0 O0 (.BinOp a op b pos) (bB rd ta tb):=Ji ho hd (df ha) (df hb)
theorem aj(ho:qU X r)(hd:j7 X.K r rd)(ha:DE X H0 O0 a ta)(hb:DE X H0 O0 b tb)(hs:∀v u,subscripted b false v u=operate [v,u] (X5 v u):=by intro _ _;rfl):DE X H0 O0 (.Subscript a b pos) (bB rd ta tb):=pC ho hd (df ha) (df hb) hs
theorem aD{op:CmpOp}(ho:bD X (WS op) r)(hd:j7 X.K r rd)(ha:DE X H0 O0 a ta)(hb:DE X H0 O0 b tb)(hm:Xb op b=false):PT X (.Compare a [op] [b] pos) (j6 X.K H0 O0 (bI (bB rd ta tb))):=Jj ho hd (df ha) (df hb) hm
theorem aA(h:DE X H0 O0 e t)(hs:PA X es (mF X.K H0 O0 u))(he:WH (e::es) X.env=(false,eval e X.env)::WH es X.env:=by rfl):PA X (e::es) (mF X.K H0 O0 (cy t u)):=qV (df h) hs he
theorem ar{k j:Nat}{f:WA}{fd:WJ}{ps:List Str}{F:List Ww->(Ww->Prop)->Prop}{st:WQ}{x:Str}{p:Pos}(G:aF X.prog X.w X.K X.mg X.base CX0 k f fd ps (bh X.K F))(hr:bQ j X.A)(N:Fn X.K X.mg x st f fd ps)
 (ha:PA X (e::es) (mE X.K H0 O0 u))(hk:k<=j:=by decide)(hg:Gl X x:=by exact rfl)(hdb:(x==("__debug__":Str))=false:=by decide)(he:WH (e::es) X.env=(false,eval e X.env)::WH es X.env:=by rfl)(hpl:(WZ pos (WH es X.env)).any (·.1)=false:=by rfl):
 DE X H0 O0 (.Call (.Name x p) (e::es) [] pos) (cz F u):=PE.imp (lO G (hr.mono hk) hg N ha hdb he hpl) C9
end
def EH(f:Obj->Obj):Prop:=∀o,(f o).dict=o.dict/\(o.isFreed=false->(f o).isFreed=false)
inductive QT {α:Type}:Sem α->Prop
 | pure (a:α):QT (.pure a)
 | raise (e:Wx):QT (.raise e)
 | uns (w:String):QT (.unsupported w)
 | rule {t:String} {k:Unit->Sem α}:(∀x,QT (k x))->QT (.rule t k)
 | at {p:Pos} {k:Unit->Sem α}:(∀x,QT (k x))->QT (.at p k)
 | load {a:WA} {p:Option Wx} {k:Obj->Sem α}:(∀x,QT (k x))->QT (.load a p k)
 | update {a:WA} {p:Option Wx} {f:Obj->Obj} {k:Unit->Sem α}:EH f->(∀x,QT (k x))->QT (.update a p f k)
 | alloc {o:Obj} {k:WA->Sem α}:(∀x,QT (k x))->QT (.alloc o k)
 | alive {a:WA} {k:Option Obj->Sem α}:(∀x,QT (k x))->QT (.loadIfAlive a k)
 | point {l:List Wx} {k:Unit->Sem α}:(∀x,QT (k x))->QT (.point l k)
 | reg {a:WA} {k:Unit->Sem α}:QT (.register a k)
 | fresh {k:Tok->Sem α}:(∀x,QT (k x))->QT (.fresh k)
 | ask {k:Setting->Sem α}:(∀x,QT (k x))->QT (.ask k)
 | stack {k:List (Code×Pos)->Sem α}:(∀x,QT (k x))->QT (.stack k)
def DK(h h':WL):Prop:=∀b o,h.get? b=some o->∃o',h'.get? b=some o'/\o'.dict=o.dict
theorem DK.refl(h:WL):DK h h:=λb o e=>⟨o,e,rfl⟩
theorem DK.trans{h1 h2 h3:WL}(x:DK h1 h2)(y:DK h2 h3):DK h1 h3:=λb o e=>by
 obtain⟨o',e',d'⟩:=x b o e;obtain⟨o2,e2,d2⟩:=y b o' e';exact⟨o2,e2,d2.trans d'⟩
theorem QT.and{α:Type}{M:XS}{Γ:PySem.Ctx}{E:Wx->Pos->WB->Prop}{Q:α->Pos->WB->Prop}{t:Sem α}(h:QT t):∀{p:Pos}{s:WB},Sw M Γ t Q E p s->Sw M Γ t (λa p' s'=>Q a p' s'/\DK s.heap s'.heap) (λe p' s'=>E e p' s'/\DK s.heap s'.heap) p s:=by
 have lift:∀{t:Sem α}{h0:WL}{p:Pos}{s:WB},DK h0 s.heap->Sw M Γ t (λa p' s'=>Q a p' s'/\DK s.heap s'.heap) (λe p' s'=>E e p' s'/\DK s.heap s'.heap) p s->Sw M Γ t (λa p' s'=>Q a p' s'/\DK h0 s'.heap) (λe p' s'=>E e p' s'/\DK h0 s'.heap) p s:=λhd hw=>
  Sem.wp_mono _ _ _ (λa p' s' z=>⟨z.1,hd.trans z.2⟩) (λa p' s' z=>⟨z.1,hd.trans z.2⟩) _ _ hw
 induction h with
 | pure a=>intro p s w;rw [Sw] at w⊢;exact⟨w,.refl _⟩
 | raise e=>intro p s w;rw [Sw] at w⊢;exact⟨w,.refl _⟩
 | uns e=>intro p s w;rw [Sw] at w;exact w.elim
 | rule _ ih=>intro p s w;rw [Sw] at w⊢;exact ih _ w
 | «at» _ ih=>intro p s w;rw [Sw] at w⊢;exact ih _ w
 | load _ ih=>
  intro p s w;rw [Sw] at w⊢;obtain⟨o,e,w⟩:=w;exact⟨o,e,ih _ w⟩
 | @update a _ f _ hf _ ih=>
  intro p s w;rw [Sw] at w⊢;refine⟨w.1,lift (λb o e=>?_) (ih _ w.2)⟩;by_cases hb:a=b
  ·subst hb;have fo:o.isFreed=false:=(Heap.get?_some_iff.mp e).2;exact⟨f o,Rm f e ((hf o).2 fo),(hf o).1⟩
  ·exact⟨o,(RI _ f hb).trans e,rfl⟩
 | alloc _ ih=>
  intro p s w;rw [Sw] at w⊢;exact lift (λb o e=>⟨o,PB _ e,rfl⟩) (ih _ w)
 | alive _ ih=>intro p s w;rw [Sw] at w⊢;exact ih _ w
 | point _ ih=>intro p s w;rw [Sw] at w⊢;exact ih _ w
 | reg=>intro p s w;rw [Sw] at w;exact w.elim
 | fresh _ ih=>intro p s w;rw [Sw] at w⊢;exact ih _ w
 | ask _ ih=>intro p s w;rw [Sw] at w⊢;exact ih _ w
 | stack _ ih=>intro p s w;rw [Sw] at w⊢;exact ih _ w
theorem QT.bind{α β:Type}{x:Sem α}{f:α->Sem β}(h:QT x)(hf:∀a,QT (f a)):QT (x >>=f):=by
 show QT (Sem.bind x f)
 induction h with
 | pure a=>exact hf a
 | raise e=>exact .raise e
 | uns w=>exact .uns w
 | rule _ ih=>exact .rule ih
 | «at» _ ih=>exact .at ih
 | load _ ih=>exact .load ih
 | update k _ ih=>exact .update k ih
 | alloc _ ih=>exact .alloc ih
 | alive _ ih=>exact .alive ih
 | point _ ih=>exact .point ih
 | reg=>exact .reg
 | fresh _ ih=>exact .fresh ih
 | ask _ ih=>exact .ask ih
 | stack _ ih=>exact .stack ih
theorem LD(f:Array Wx->Array Wx):EH (U5 f):=λo=>by
 obtain⟨c,d,dt,sl⟩:=o;cases dt <;> exact⟨rfl,λh=>h⟩
theorem LG(v:Wx):QT (fieldsOf v):=by
 unfold fieldsOf;split
 ·refine .bind (.load λx=>.pure x) λo=>?_;split
  ·exact .pure _
  ·exact .uns _
 ·exact .uns _
theorem vw(v:Wx)(i:Nat):QT (Wl v i):=by
 unfold Wl;refine .bind (LG v) λvs=>?_;split
 ·exact .pure _
 ·exact .uns _
theorem AQ(v:Wx)(i:Nat)(x:Wx):QT (setField v i x):=by
 unfold setField;split
 ·unfold updateField;refine .bind (.load λx=>.pure x) λo=>?_;split
  ·split
   ·exact .update (LD _) λx=>.pure x
   ·exact .uns _
  ·exact .uns _
 ·exact .uns _
theorem EI:∀l:List Env,QT (readyFrames l)
 | []=>.pure _
 | env::outer=>by
  unfold readyFrames;split
  ·refine .bind (.load λx=>.pure x) λo=>?_;split
   ·exact .pure _
   ·refine .bind ?_ λa=>.bind ?_ λb=>.bind (.update (λo=>⟨rfl,?_⟩) λx=>.pure x) λ_=>EI outer
    ·unfold behindIsImport;split
     ·exact .pure _
     ·split
      ·exact .pure _
      ·exact .bind (vw _ _) λ_=>.pure _
    ·unfold keptBack;split
     ·split
      ·exact .pure _
      ·unfold underTheClaimsCaller;exact .bind (.bind (.stack λx=>.pure x) λ_=>.pure _) λ_=>.pure _
     ·exact .pure _
    ·obtain⟨c,d,dt,sl⟩:=o;cases dt <;> exact λh=>h
  ·exact .uns _
theorem LH(env:Env):QT (U6 env):=by
 unfold U6 frameEnvs;refine .bind (.bind (.stack λx=>.pure x) λ_=>.pure _) λl=>.bind ?_ λo=>?_
 ·generalize l.dropWhile _=m;cases m with
  | nil=>exact .pure _
  | cons a r=>unfold frameObject;exact .bind (EI _) λ_=>.pure _
 ·split
  ·exact .pure _
  ·exact .uns _
theorem LJ(f:WA)(b:Bool):QT (entryPlaceOf f b):=by
 unfold entryPlaceOf;refine .bind (.stack λx=>.pure x) λacts=>?_;split <;> exact .pure _
theorem LK(a b c d e:Wx)(l:List Wx):QT (TZ a b c d e l):=by
 have fin:∀x:Data,QT (newObjAsIs (.type "traceback") x):=λx=>by
  unfold newObjAsIs;exact .bind (.alloc λx=>.pure x) λ_=>.pure _
 have key:∀xs:Array Wx,QT (newObj (.type "traceback") (.fields xs)):=λxs=>by
  unfold newObj;dsimp only;split
  ·exact .bind (.uns _) λ_=>fin _
  ·exact fin _
 unfold TZ newFields;exact key _
theorem EJ(e:Wx)(env:Env):QT (X6 e env):=by
 unfold X6;split
 ·refine .bind (vw _ _) λh=>?_;have tail:∀f:WA,QT (do setField e 1 (<-TZ h (<-U6 env) .none (Xe f) .none (<-entryPlaceOf f (h != .none)))):=λf=>.bind (LH env) λ_=>.bind (LJ _ _) λ_=>.bind (LK ..) λ_=>AQ ..;split
  ·refine .bind (vw _ _) λg=>?_;split
   ·exact .pure _
   ·exact .bind (AQ ..) λ_=>tail _
  ·exact tail _
 ·exact .uns _
theorem EK(e:Wx)(o:Option WA):QT (Yk e o):=by
 unfold Yk;refine .bind (vw _ _) λh=>?_;split
 ·exact AQ ..
 ·exact .pure _
theorem LL(env:Env)(e:Wx):QT (leaving env e):=by
 unfold leaving;exact .bind (EJ _ _) λ_=>EK _ _
theorem LN{M:XS}{A:WR}{env:Env}{e:Wx}{Q:Unit->WB->Prop}{E:Wx->WB->Prop}{s:WB}(h:WD M A (leaving env e) Q E s):WD M A (leaving env e) (λa s'=>Q a s'/\DK s.heap s'.heap) (λv s'=>E v s'/\DK s.heap s'.heap) s:=
 fun Γ p hΓ=>(LL env e).and (h Γ p hΓ)
def kr(P:WM)(w:WO):kT:=λouter H s E ev s'=>∃(e:WA)(cls a0:Wx)(B:WL)(H':Hp),ev= .ref e/\s'.os=s.os/\XR s'.gens/\SJ B outer e cls a0 s'.heap/\bV P w H' B/\
 Un (cY outer) [] H H' s.heap s'.heap/\(∀b o,s.heap.get? b=some o->H b=none->b ∉ cY outer->B.get? b=some o)/\(∀b o,s.heap.get? b=some o->b ∉ cY outer->∃o',B.get? b=some o')/\∃oe,s'.heap.get? e=some oe/\E cls oe.dict H'
def mZ(H:Hp)(e:WA):Hp:=λb=>if b=e then none else H b
theorem rJ{H:Hp}{e b:WA}(h:b≠e):mZ H e b=H b:=Ws h
theorem bV.out{P:WM}{w:WO}{H:Hp}{h:WL}(x:bV P w H h){e:WA}{φ:WL->Prop}(he:H e=some (.ext φ)):bV P w (mZ H e) h:=λa o q=>by
 have ne:a≠e:=λz=>by rw [z] at q;unfold mZ at q;rw [Wt rfl] at q;cases q
 rw [rJ ne] at q;have k:∀b u,H b=some u->(∀φ,u≠ .ext φ)->mZ H e b=some u:=λb u hb hn=>by
  rw [rJ (λz=>by rw [z,he] at hb;cases hb;exact hn φ rfl)];exact hb
 exact(x a o q).stay (λ_ _ _ z=>z) (λb z=>k b _ z λ_ y=>by cases y) (λb xs z=>k b _ z λ_ y=>by cases y) λb z y=>k b _ y λ_ y=>by cases y
section
variable {P:WM} {w:WO} {K:Pt} {mg:Str->Option Wx} {base:WL} {N:List Str} {qual:Str} {scope:W5} {f:WA} {cd:Wx} {A:WR} {outer:List Env} {s:WB} {H:Hp} {E:XK}
theorem LO{Ys:List (WA×Obj)}{σ:St}{H1:Hp}{s1:WB}{e:WA}{oe:Obj}{vs:Array Wx}{a0:Wx}{φ:WL->Prop}
 (I:ag (kc (kr P w) P w K mg base N qual scope f cd A outer s H E) Ys σ H1 s1)(he:s1.heap.get? e=some oe)(hd:oe.data= .fields vs)(h0:vs[0]?=some a0)(h1:vs[1]?=some .none)(ne0:s.heap.get? e=none)(hE:H1 e=some (.ext φ))
 (q:E oe.cls oe.dict (mZ H1 e)):(kc (kr P w) P w K mg base N qual scope f cd A outer s H E).xe (.ref e) s1:=by
 have st:=I.stack;have sf:=I.stkFree;have ub:Un (cY outer) [] H H1 s.heap s1.heap:=I.base;have fo:s1.heap.FunFrames base outer:=I.funs;have hin:∀env∈(kc (kr P w) P w K mg base N qual scope f cd A outer s H E).stack,∀a,env.frame=some a->a∈e::cY (kc (kr P w) P w K mg base N qual scope f cd A outer s H E).stack:=λenv he a hf=>Q4 _ (T2.mpr ⟨env,he,hf⟩);have bn:=hideAll_none (e::cY (kc (kr P w) P w K mg base N qual scope f cd A outer s H E).stack) (h:=s1.heap) (b:=e) RE;show WD (WE P w) _ (leaving _ (.ref e)) _ _ _;refine WW (LN (Q:=λ_ s'=>∃h',s'={s1 with heap:=h'}/\Heap.LeftW (hideAll s1.heap (e::cY (kc (kr P w) P w K mg base N qual scope f cd A outer s H E).stack)) (kc (kr P w) P w K mg base N qual scope f cd A outer s H E).stack e oe.cls a0 s1.heap h') (wpAny_leaving_firstW I.ok.frames (funFrames_hide st hin) rfl he (λb o z=>of_hideAll _ z) bn hd h1 h0 λh' hL=>⟨h',rfl,hL⟩)) (λ_ s' hs=>?_) (λ_ _ z=>z.1);obtain⟨⟨h2,rfl,k1,⟨_,_,k2⟩,k3,k4⟩,dk⟩:=hs;have nst:∀b o,s.heap.get? b=some o->b ∉ cY outer->b ∉ e::cY (kc (kr P w) P w K mg base N qual scope f cd A outer s H E).stack:=λb o eb hb hm=>by
  rcases PH.mp hm with z | hm
  ·rw [z,ne0] at eb;cases eb
  rcases PH.mp (I.stkSub b hm) with z | z
  ·have h1:=PX eb;have h2:=I.ok.above;rw [<-z] at h2;exact absurd (Q0 h1 h2) (RR _)
  ·exact hb z
 have up:∀b∈cY outer,∀o,s1.heap.get? b=some o->∃sl,h2.get? b=some {o with slots:=sl}:=λb hb o eo=>by
  obtain⟨_,o',ho',hd⟩:=fo.mem hb;rw [eo] at ho';cases ho';exact k4 b o eo hd
 have out:∀b o,s.heap.get? b=some o->mZ H1 e b=H1 b:=λb o eb=>rJ λz=>by rw [z,ne0] at eb;cases eb
 have oux:∀b u,H1 b=some u->(∀φ,u≠ .ext φ)->mZ H1 e b=some u:=λb u hb hn=>by
  rw [rJ (λz=>by rw [z,hE] at hb;cases hb;exact hn φ rfl)];exact hb
 obtain⟨oe',he',dd⟩:=dk e oe he;refine⟨e,oe.cls,a0,_,mZ H1 e,rfl,I.os,I.bare,⟨k1,bn,k2,k3⟩,(bV.out I.hok hE).hide (λb hb=>?_),⟨λb o eb n hb hx'=>?_,λb o eb n hb hx'=>?_,λb o eb n hx'=>?_,λb o eb hx'=>?_,λb xs z=>oux b _ (ub.tups b xs z) λ_ y=>(by cases y),λb o u z=>oux b _ (ub.frzs b o u z) λ_ y=>(by cases y),λb ps z=>?_⟩,λb o eb n hb=>?_,λb o eb hb=>?_,oe',he',by rw [dd];exact q⟩
 ·rcases PH.mp hb with z | z
  ·rw [z];exact Wt rfl
  ·unfold mZ;split
   ·rfl
   ·exact sf b z
 ·exact k1 b o (Ye _ (ub.keep b o eb n hb hx') (nst b o eb hb))
 ·obtain⟨sl,es⟩:=ub.slot b o eb n hb hx';obtain⟨sl',es'⟩:=up b hb _ es;exact⟨sl',es'⟩
 ·rw [out b o eb];exact ub.free b o eb n hx'
 ·obtain⟨o',eo'⟩:=ub.there b o eb hx';by_cases hb:b∈cY outer
  ·obtain⟨sl',es'⟩:=up b hb _ eo';exact⟨_,es'⟩
  ·exact⟨o',k1 b o' (Ye _ eo' (nst b o eb hb))⟩
 ·obtain⟨more,hm⟩:=ub.tbls b ps z;exact⟨more,oux b _ hm λ_ y=>(by cases y)⟩
 ·exact Ye _ (ub.keep b o eb n hb Wv) (nst b o eb hb)
 ·obtain⟨o',eo'⟩:=ub.there b o eb Wv;exact⟨o',Ye _ eo' (nst b o eb hb)⟩
end
def kP(e:WA)(C:Wx)(dd:Option WA)(h:WL):Prop:=∃o,h.get? e=some o/\o.cls=C/\o.dict=dd/\notCls o=true
theorem EL{M:XS}{A:WR}{env:Env}{e:Wx}{Q:Unit->WB->Prop}{E:Wx->WB->Prop}{s:WB}(h:WD M A (X6 e env) Q E s):WD M A (X6 e env) (λa s'=>Q a s'/\DK s.heap s'.heap) (λv s'=>E v s'/\DK s.heap s'.heap) s:=
 fun Γ p hΓ=>(EJ e env).and (h Γ p hΓ)
theorem vx{M:XS}{A:WR}{e:Wx}{o:Option WA}{Q:Unit->WB->Prop}{E:Wx->WB->Prop}{s:WB}(h:WD M A (Yk e o) Q E s):WD M A (Yk e o) (λa s'=>Q a s'/\DK s.heap s'.heap) (λv s'=>E v s'/\DK s.heap s'.heap) s:=
 fun Γ p hΓ=>(EK e o).and (h Γ p hΓ)
section
variable {X:Cx} {CX:kT} {k:Nat} {f C C':WA} {fd:WJ} {ps:List Str} {sp:Sp} {x c n:Str} {p cp ep np hp tp:Pos} {a:WI} {as:List WI} {b₀:WQ} {suite:List WQ} {t:TA} {i j:Nat} {ts:TS} {y:Str} {yp:Pos}
def LP(sp:Sp)(t:TA)(C:WA)(i j:Nat)(ts:TS):TS:=λD σ H=>t σ H λvs H1=>sp vs H1 (λv H2=>D.nx (σ.set j (some v)) H2) (λcls dd H2=>cls= .ref C/\∀e,H2 e=none->
 ts {nx:=λσ' H'=>D.nx (σ'.set i none) H',rt:=λ_ _=>False} (σ.set i (some (.ref e))) (ao H2 e (.ext (kP e (.ref C) dd))))
end
open PySem PySem.Spec PyProof.Rows PySem.W PySem.Calls PySem.Builtin.ObjectAttr PySem.Builtin
section
variable {prog:WM} {w:WO} {A:WR} {E:Wx->WB->Prop} {s:WB} {K:Pt} {x C:WA} {ox:Obj} {od:Obj} {name:Str} {v:Wx}
theorem LQ{tk:Tok}{Q:Fin->WB->Prop}(Z:lR K C)(X:K.In s.heap)(J:S4 s.heap x ox C (some od))(hf:findObj K C (some od) name=some (.value v))(hq:Q (.done (.ret v)) s):
 WD (WE prog w) A (Builtin.«object.__getattribute__» ⟨[.ref x,.str name tk],[]⟩) Q E s:=by
 obtain⟨hh,gg,dr,tt,os⟩:=s;have p:kU x (.ref C) hh:=⟨ox,J.at_,J.cls⟩;have L0:=kU.type (M:=WE prog w) p;have LF:=looks_find (M:=WE prog w) X J hf;unfold Builtin.«object.__getattribute__»
 repeat (first | with_reducible refine Wy (L0.at ?_) | with_reducible refine Wy (LF.at ?_) | wp_step)
 exact hq
theorem LR{tk:Tok}{R:Yh->WB->Prop}(Z:lR K C)(X:K.In s.heap)(J:S4 s.heap x ox C (some od))(hf:findObj K C (some od) name=some (.value v))(hq:R (.ok (.ret v)) s):
 Xt (WE prog w) A (.call (.builtin "BaseException.__getattribute__") ⟨[.ref x,.str name tk],[]⟩) R s:=
 Xg F.excAttr_ValueError.ga.plain F.entry_bexc_ga (C3 Z X ⟨ox,J.at_,J.cls⟩ (LQ Z X J hf hq))
theorem LS{tk:Tok}{fill expr:Bool}{Q:Wx->WB->Prop}(Z:lR K C)(X:K.In s.heap)(J:S4 s.heap x ox C (some od))(hf:findObj K C (some od) name=some (.value v))(hv:handedIn v=true)(hq:Q v s):
 WD (WE prog w) A (getAttrBy (.ref x) (.str name tk) fill expr) Q E s:=by
 obtain⟨hh,gg,dr,tt,os⟩:=s;have p:kU x (.ref C) hh:=⟨ox,J.at_,J.cls⟩;have L0:=kU.type (M:=WE prog w) p;have L1:=Xu (M:=WE prog w) X Z.ga;have L2:=Xu (M:=WE prog w) X Z.hk;have f3:=F.excAttr_ValueError.ga.bind (.ref x);have hx0:(expr && onTheHeap (R9 "BaseException.__getattribute__"))=false:=by cases expr <;> rfl
 have hx2:(R9 "BaseException.__getattribute__"==R9 "object.__getattribute__")=false:=td
 have hx1:(onTheHeap (QJ C) && R9 "BaseException.__getattribute__"==R9 "object.__getattribute__")=false:=by rw [hx2];rfl
 repeat (any_goals (first | assumption | with_reducible refine Wy (L0.at ?_) | with_reducible refine Wy (L1.at ?_) | with_reducible refine L2.at ?_ | wp_step))
 refine LR (s:=⟨hh,gg,dr,tt,os⟩) Z X J hf ?_
 repeat (any_goals (first | assumption | wp_step))
 show WD _ _ (handedOut v) _ _ _;rw [handedOut_of hv];exact WC hq
theorem LU{expr:Bool}{Q:Wx->WB->Prop}(Z:lR K C)(X:K.In s.heap)(J:S4 s.heap x ox C (some od))(hf:findObj K C (some od) name=some (.value v))(hv:handedIn v=true)(hq:Q v {s with toks:=s.toks+1}):
 WD (WE prog w) A (getAttr (.ref x) name expr) Q E s:=by
 obtain⟨hh,gg,dr,tt,os⟩:=s;unfold getAttr
 repeat (any_goals (first | assumption | with_reducible apply LS (s:=⟨hh,gg,dr,tt+1,os⟩) Z X J hf hv | wp_step))
end
section
variable {X:Cx}
def AR(K:Pt)(ta:TE)(f:Str):TE:=λσ H Q=>ta σ H λx H1=>∃(e C d:WA)(fs:List (Str×V))(v:V),x= .ref e/\H1 e=some (.ext (kP e (.ref C) (some d)))/\H1 d=some (.xd fs)/\lR K C/\hasDictIn K C=true/\Rp K (.ref C) f=some none/\fs.lookup f=some v/\(∀u,aJ v u->handedIn u=true)/\Q v H1
theorem EM{e:WI}{f:Str}{pos:Pos}{ta:TE}(he:PE X e ta)(hb:Xn e f X.env (eval e X.env)=eval e X.env):PE X (.Attribute e f pos) (AR X.K ta f):=by
 intro Ys s σ H Q I h;refine HB hb (aC (he Ys s σ H _ I h) λu s1 ⟨x,H1,I1,rx,a,C,d,fs,v,ex,ea,ed,Z,hh,ha,l,hv,q⟩=>?_);subst ex;obtain rfl:u=QJ a:=rx;obtain⟨ob,ho,hc,hd,nc⟩:=(show bL X.prog X.w H1 s1.heap a (.ext (kP a (.ref C) (some d))) from I1.hok a _ ea).1;obtain⟨mA,n,r⟩:=(show bL X.prog X.w H1 s1.heap d (.xd fs) from I1.hok d _ ed);obtain⟨w',hw,rw'⟩:=qL.some_of (v:=v) (o:=mA f) (by rw [<-l];exact r f);obtain⟨od,hod,hl⟩:=Cm n;have J:S4 s1.heap a ob C (some od):=⟨ho,hc,nc,by rw [hd];exact hod⟩;exact LU Z I1.kIn J (findObj_own hh ha rfl (by rw [hl,hw])) (hv _ rw') ⟨v,H1,I1.tok _,rw',q⟩
theorem kP.plain{e:WA}{C:Wx}{dd:Option WA}{h:WL}(x:kP e C dd h):kU e C h:=let ⟨o,a,b,_⟩:=x;⟨o,a,b⟩
theorem LV:kB X (.builtin "isinstance") (λxs H Q=>∃(dd:Option WA)(e C:WA)(c:V)(cv:Wx)(b:Bool),xs=[.ref e,c]/\H e=some (.ext (kP e (.ref C) dd))/\lR X.K C/\(∀u,aJ c u->u=cv)/\SH X.K (.ref C) cv=some b/\Q (.bl b) H):=by
 intro Ys s σ H xs us Q I r h;obtain⟨dd0,e,C,c,cv,b,rfl,he,Z,hc,hk,q⟩:=h;obtain⟨u,w',rfl,rx,rt⟩:=p7 r;cases (show u=QJ e from rx);have:=hc _ rt;subst this;have p:kU e (.ref C) s.heap:=(show bL X.prog X.w H s.heap e (.ext (kP e (.ref C) dd0)) from I.hok e _ he).1.plain;exact RF (C4 Z) I.kIn p hk (λz=>nomatch z) λtk=>⟨.bl b,H,I.tok tk,rfl,q⟩
theorem LW:kB X (.builtin "isinstance") (λxs H Q=>∃(dd:Option WA)(e C q:WA)(cs:List WA)(b:Bool),xs=[.ref e,.ref q]/\H e=some (.ext (kP e (.ref C) dd))/\H q=some (.tup (cs.map V.ref))/\lR X.K C/\S5 X.K (.ref C) (cs.map QJ)=some b/\Q (.bl b) H):=by
 intro Ys s σ H xs us Q I r h;obtain⟨dd0,e,C,q,cs,b,rfl,he,hq,Z,hk,k⟩:=h;obtain⟨u,w',rfl,rx,rt⟩:=p7 r;cases (show u=QJ e from rx);cases (show w'=QJ q from rt);have p:kU e (.ref C) s.heap:=(show bL X.prog X.w H s.heap e (.ext (kP e (.ref C) dd0)) from I.hok e _ he).1.plain;obtain⟨its,rv,⟨⟨oc,od,odt,osl⟩,eo,c,n,dd⟩,_⟩:=I.tuple (aZ.of hq);have:=IY rv;subst this;simp only at c dd;subst c dd;exact PySem.W.kia_tup (C4 Z) I.kIn p eo hk (λz=>nomatch z) λtk=>⟨.bl b,H,I.tok tk,rfl,k⟩
end
section
variable {M:XS} {A:WR} {E:Wx->WB->Prop} {env:Env}
variable {nm q:Str} {C N:WA} {bs bm:List Wx} {hdct:Bool} {sn:List Str} {sub:List Wx} {ab:Bool} {col:Option Bool} {dd:Option WA} {k0 k1 k2 k3 k5:Option Wx} {newId:String}
theorem LX{s:WB}{x:Sem Wx}{Q:Flow->WB->Prop}(hbase:bm.contains (.type "BaseException")=true)(hh:A.handled=none)
 (h:WD M A x (λv s₁=>∃e oe vs,v= .ref e/\s₁.heap.get? C=some (Xa nm q C N bs bm hdct sn sub ab col dd k0 k1 k2 k3 k5 newId)/\
  s₁.heap.get? e=some oe/\oe.cls= .ref C/\oe.data= .fields vs/\vs[1]?=some .none/\E (.ref e) s₁) E s):WD M A (raiseStmt env (some x) none) Q E s:=by
 have hcB:(QJ C::bm).contains (.type "BaseException")=true:=by rw [T3,hbase,Uu]
 unfold raiseStmt;refine Wy (WW h (λv s₁ h₁=>?_) λ_ _ x=>x);obtain⟨e,oe,vs,rfl,hC,he,hc,hd,h1,hE⟩:=h₁;obtain⟨hp,g,d,tk,os⟩:=s₁;obtain⟨oc,odc,odt,osl⟩:=oe;dsimp only at hc hd;subst hc hd
 repeat (first | with_reducible refine W2 he ?_ | with_reducible refine W2 hC ?_ | (with_reducible refine Xx hC ?_;rw [hcB]) | wp_step)
 rw [h1]
 repeat (first | wp_step)
 exact wpAny_raiseNew_none hh hE
end
section
variable {prog:WM} {w:WO} {A:WR} {E:Wx->WB->Prop} {h:WL} {g:Array XZ} {d:Drawn} {t:Nat} {os:OsState}
variable {nm q:Str} {C N:WA} {bs bm bmB:List Wx} {hdct:Bool} {sn:List Str} {sub:List Wx} {ab:Bool} {col:Option Bool} {dd:Option WA} {k0 k1 k2 k3 k5:Option Wx} {B newId initId:String}
theorem LY(F:Xw B newId initId bmB)(T:OwnTail h bmB bm){K:Pt}{rest:List Wx}{fI:WA}{Q:Fin->WB->Prop}
 (hC:h.get? C=some (Xa nm q C N bs bm hdct sn sub ab col dd k0 k1 k2 k3 k5 newId))(XK:K.In h)(hi:X7 K (.ref C) "__init__"=some (some (.ref fI)))(hf:typeIn K (.ref fI)=some (.type "function"))(hrest:rest.length<=WG)
 (hq:∀h' e,UT h h' e (.ref C) rest->WD (WE prog w) A (call (.ref fI) (.ref e::rest)) (λr s'=>r= .none/\Q (.done (.ret (.ref e))) s') E ⟨h',g,d,t,os⟩):
 WD (WE prog w) A (Builtin.«type.__call__» ⟨.ref C::rest,[]⟩) Q E ⟨h,g,d,t,os⟩:=by
 repeat (first | with_reducible refine W2 hC ?_ | with_reducible refine wpAny_madeBy_exc hC ?_ | wp_step)
 refine codeAny_call_builtin_code (To _ F.quiet) (wpAny_check_new_subT F T hC (codeAny_exc_new_subT F T hC ?_ hrest));show WD _ _ _ _ _ _;have k:∀b o,h.get? b=some o->((h.push {cls:= .type "tuple",data:= .seq rest.toArray}).push {cls:= .ref C,data:= .fields #[.ref h.objs.size,.none,.none,.none,.bool false,.none]}).get? b=some o:=λb o e=>PB _ (PB _ e);have hget:((h.push {cls:= .type "tuple",data:= .seq rest.toArray}).push {cls:= .ref C,data:= .fields #[.ref h.objs.size,.none,.none,.none,.bool false,.none]}).get? (h.objs.size+1)=some {cls:= .ref C,data:= .fields #[.ref h.objs.size,.none,.none,.none,.bool false,.none]}:=by heap_get
 have htup:((h.push {cls:= .type "tuple",data:= .seq rest.toArray}).push {cls:= .ref C,data:= .fields #[.ref h.objs.size,.none,.none,.none,.bool false,.none]}).get? h.objs.size=some {cls:= .type "tuple",data:= .seq rest.toArray}:=PB _ (Vy rfl rfl);have hcC:(QJ C::bm).contains (.ref C)=true:=Wv
 have made:=λz=>hq ((h.push {cls:= .type "tuple",data:= .seq rest.toArray}).push {cls:= .ref C,data:= .fields #[.ref h.objs.size,.none,.none,.none,.bool false,.none]}) (h.objs.size+1) ⟨k,Ta (SG _),h.objs.size,hget,Ta (PQ _),z⟩;have made:=made htup;have hC₁:=k _ _ hC;have X₁:K.In _:=λa o e=>k a o (XK a o e);have T₁:=T.keeps k;unfold isInstance
 repeat (first | with_reducible refine W2 hget ?_ | (with_reducible refine Xx hC₁ ?_;rw [hcC]) | wp_step)
 show WD _ _ (typeLookup (.ref C) _) _ _ _;refine(Xu (M:=WE prog w) X₁ hi).at ?_;refine W3 (Wy ?_);unfold bindSpecial;refine Wy ((looks_typeIn (M:=WE prog w) X₁ hf).at ?_);rw [Wt tx];refine WC (Wy (WW made (λr s' hr=>?_) λ_ _ x=>x));obtain⟨rfl,hQ⟩:=hr
 wp_walk
 exact hQ
theorem LZ(F:Xw B newId initId bmB)(T:OwnTail h bmB bm){K:Pt}{rest:List Wx}{fI:WA}{Q:Wx->WB->Prop}
 (hC:h.get? C=some (Xa nm q C N bs bm hdct sn sub ab col dd k0 k1 k2 k3 k5 newId))(XK:K.In h)(hi:X7 K (.ref C) "__init__"=some (some (.ref fI)))(hf:typeIn K (.ref fI)=some (.type "function"))(hrest:rest.length<=WG)
 (hq:∀h' e,UT h h' e (.ref C) rest->WD (WE prog w) (A.under (.builtin "type.__call__" ⟨.ref C::rest,[]⟩)) (call (.ref fI) (.ref e::rest)) (λr s'=>r= .none/\Q (.ref e) s') E ⟨h',g,d,t,os⟩):
 WD (WE prog w) A (call (.ref C) rest) Q E ⟨h,g,d,t,os⟩:=by
 have f1:=tc_lookup;have f2:=tc_bind (.ref C);have hT:(⟨h,g,d,t,os⟩:WB).TypeIs (.ref C) "type":=⟨_,hC,rfl⟩;refine XT (codeAny_of_tree ?_);show WD _ _ (callAny (.ref C) _) _ _ _
 repeat (any_goals (first | assumption | with_reducible refine W2 hC ?_ | wp_step))
 refine⟨rfl,codeAny_call_builtin_at (To _ td) entry_typeCall (wpAny_check_type_call_sub hC (LY F T hC XK hi hf hrest λh' e hm=>hq h' e hm))⟩
end
theorem L4{h:WL}{bmB bm:List Wx}(T:OwnTail h bmB bm)(self:Wx)(what:Str):refuseLoop self what bm=refuseLoop self what bmB:=by
 induction T with
 | base=>rfl
 | own _ _ _ _ ih=>rw [refuseLoop_ref,ih]
section
variable {prog:WM} {w:WO} {A:WR} {E:Wx->WB->Prop} {h:WL} {g:Array XZ} {d:Drawn} {t:Nat} {os:OsState} {K:Pt}
variable {nm q:Str} {C N x:WA} {bs bm bmB:List Wx} {sn:List Str} {sub:List Wx} {ab:Bool} {col:Option Bool} {dd:Option WA} {k0 k1 k2 k3 k5:Option Wx} {B newId sa owner:String} {name:Str} {v:Wx} {o:Obj} {vs:Array Wx}
structure AS (h h':WL) (x:WA) (o:Obj) (name:Str) (v:Wx) (dx:WA):Prop where
 at_:h'.get? x=some {cls:=o.cls,dict:=some dx,data:=o.data,slots:=o.slots}
 new:h.get? dx=none
 ne:dx≠x
 ns:h'.Ns1 dx λy=>if y=name then some v else none
 keep:∀b ob,b≠x->h.get? b=some ob->h'.get? b=some ob
theorem L5{tk:Tok}{Q:Fin->WB->Prop}(SF:StoreFacts B bmB sa owner)(X:K.In h)(T:OwnTail h bmB bm)
 (hC:h.get? C=some (Xa nm q C N bs bm true sn sub ab col dd k0 k1 k2 k3 k5 newId))(ha:X7 K (.ref C) name=some none)(hx:h.get? x=some o)(hc:o.cls= .ref C)(hd:o.data= .fields vs)(hdn:o.dict=none)
 (hq:∀h' tk' dx,AS h h' x o name v dx->Q (.done (.ret .none)) ⟨h',g,d,tk',os⟩):
 WD (WE prog w) A (Builtin.«object.__setattr__» ⟨[.ref x,.str name tk,v],[]⟩) Q E ⟨h,g,d,t,os⟩:=by
 have hpass:refuseLoop (.ref x) "__setattr__" bm=pure ():=(L4 T _ _).trans (SF.passes (.ref x));have L:=Xu (M:=WE prog w) X ha;unfold Builtin.«object.__setattr__»
 repeat (first | rw [refuse_eq] | (rw [refuseLoop_ref,hpass]) | (with_reducible refine W2 hx ?_;rw [hc]) | with_reducible refine wpAny_mroOf_exc hC ?_ | with_reducible refine Wy (L.at ?_) | wp_step)
 rw [hdn,hd];dsimp only;rw [Ws (by simp [typeHasDict])];have hx₁:(h.push {cls:= .type "dict",data:= .dict #[]}).get? x=some o:=PB _ hx;have hxs:x≠h.objs.size:=QN (PX hx);refine Wy (wpAny_alloc' (Wy (wpAny_update' hx₁ (WC ?_))));have hgd:((h.push {cls:= .type "dict",data:= .dict #[]}).update x λo=>{cls:=o.cls,dict:=some h.objs.size,data:=o.data,slots:=o.slots}).get? h.objs.size=some {cls:= .type "dict",data:= .dict #[]}:=
  (Vc _ _ _ _ hxs.symm).trans (Vy rfl rfl)
 have hnd:((h.push {cls:= .type "dict",data:= .dict #[]}).update x λo=>{cls:=o.cls,dict:=some h.objs.size,data:=o.data,slots:=o.slots}).Ns h.objs.size (λ_=>none):=⟨_,#[],_,hgd,rfl,λe he=>absurd he Wv,λ_=>rfl⟩;show WD _ _ (storeInDict h.objs.size (.str name tk) name v) _ _ _;unfold storeInDict newKeyGuard;refine Wy (WC (Wy (wpAny_nsSet1 (Heap.Ns1.of_empty hnd) λh' hn' hs=>?_)));obtain⟨oD,esD,epD,hoD,hdD,hcD⟩:=hn'.count (Within.cons name v Within.nil);refine Wy (wpAny_lookBehind hoD (by rw [hdD];exact pastItsLine_dict (Qz hcD (by rw [Px,P5,WN];omega))) ?_)
 wp_walk
 refine hq h' _ h.objs.size ⟨?_,Ta (PQ _),hxs.symm,hn',λb ob hb e=>?_⟩
 ·refine(hs.2 x hxs).trans (Rm _ hx₁ ?_);obtain⟨oc,od,odt,osl⟩:=o;dsimp only at hd;subst hd;rfl
 ·exact(hs.2 b (QN (PX e))).trans ((Vc _ _ _ _ hb).trans (PB _ e))
theorem L6{M:XS}{nameV:Wx}{Q:Unit->WB->Prop}(SF:StoreFacts B bmB sa owner)(T:OwnTail h bmB bm)
 (hC:h.get? C=some (Xa nm q C N bs bm true sn sub ab col dd k0 k1 k2 k3 k5 newId))(hx:h.get? x=some o)(hc:o.cls= .ref C)(hq:Q () ⟨h,g,d,t,os⟩):
 WD M A (XG sa ⟨[.ref x,nameV,v],[]⟩) Q E ⟨h,g,d,t,os⟩:=by
 have hcB:(QJ C::bm).contains (.type owner)=true:=by rw [T3,T.hasType SF.hasOwner,Uu]
 have ha:=SF.args (.ref x) nameV v;simp only [XG,SF.kind,SF.split];refine Wy ?_;unfold isInstance
 repeat (first | (with_reducible refine W2 hx ?_;rw [hc]) | (with_reducible refine Xx hC ?_;rw [hcB]) | wp_step)
 cases hsig:Manifest.signature? sa with
 | none=>exact WC hq
 | some sig=>
  simp only [argsOk,hsig] at ha;show WD M A (VW sa sig ⟨[.ref x,nameV,v],[]⟩) Q E _;rw [show VW sa sig ⟨[.ref x,nameV,v],[]⟩=pure () from ha];exact WC hq
theorem L7{Q:Unit->WB->Prop}(SF:StoreFacts B bmB sa owner)(X:K.In h)(T:OwnTail h bmB bm)
 (hC:h.get? C=some (Xa nm q C N bs bm true sn sub ab col dd k0 k1 k2 k3 k5 newId))(hs:X7 K (.ref C) "__setattr__"=some (some (.builtin sa)))(ha:X7 K (.ref C) name=some none)(hx:h.get? x=some o)(hc:o.cls= .ref C)(hd:o.data= .fields vs)(hdn:o.dict=none)
 (hq:∀h' tk' dx,AS h h' x o name v dx->Q () ⟨h',g,d,tk',os⟩):WD (WE prog w) A (setAttr (.ref x) name v) Q E ⟨h,g,d,t,os⟩:=by
 have f3:=SF.slot.bind (.ref x);have L:=Xu (M:=WE prog w) X hs;unfold setAttr callSpecial? specialOf
 repeat (any_goals (first | assumption | (with_reducible refine W2 hx ?_;rw [hc]) | with_reducible refine L.at ?_ | with_reducible refine Wy (L.at ?_) | wp_step))
 refine Xg SF.slot.plain SF.entry (L6 SF T hC hx hc (L5 SF X T hC ha hx hc hd hdn λh' tk' dx D=>?_))
 repeat (any_goals (first | assumption | wp_step))
 exact hq h' tk' dx D
end
section
variable {prog:WM} {w:WO} {A:WR} {E:Wx->WB->Prop} {h:WL} {g:Array XZ} {d:Drawn} {t:Nat} {os:OsState}
variable {nm q:Str} {C N x:WA} {bs bm bmB:List Wx} {hdct:Bool} {sn:List Str} {sub:List Wx} {ab:Bool} {col:Option Bool} {dd:Option WA} {k0 k1 k2 k3 k5:Option Wx} {B newId initId:String} {o:Obj} {ta:WA}
structure EN (h h':WL) (x:WA) (o:Obj) (t0:WA):Prop where
 at_:h'.get? x=some {o with data:= .fields #[.ref t0,.none,.none,.none,.bool false,.none]}
 keep:∀b ob,b≠x->h.get? b=some ob->h'.get? b=some ob
theorem L8{rest:List Wx}{Q:Wx->WB->Prop}(F:Xw B newId initId bmB)(T:OwnTail h bmB bm)(hC:h.get? C=some (Xa nm q C N bs bm hdct sn sub ab col dd k0 k1 k2 k3 k5 newId))
 (hx:h.get? x=some o)(hc:o.cls= .ref C)(hd:o.data= .fields #[.ref ta,.none,.none,.none,.bool false,.none])(hr:rest.length<=WG)(hq:∀h' tk t0,EN h h' x o t0->Q .none ⟨h',g,d,tk,os⟩):
 WD (WE prog w) A (call (.builtin initId) (.ref x::rest)) Q E ⟨h,g,d,t,os⟩:=by
 refine XT (Xg F.init.plain F.initEntry (wpAny_check_init_subT F T hC hx hc ?_));obtain⟨oc,od,odt,osl⟩:=o;dsimp only at hc hd;subst hc hd
 wp_walk
 refine hq _ _ h.objs.size ⟨?_,λb ob hb e=>?_⟩
 ·exact Rm _ (PB _ hx) rfl
 ·exact(RI _ _ (Ne.symm hb)).trans (PB _ e)
theorem L9{K:Pt}{s:WB}{C':WA}{pl:Sem Bool}{Q:Wx×List Wx->WB->Prop}(X:K.In s.heap)(hs:specialIn K (.ref C') "__getattribute__"=some (some (.builtin "type.__getattribute__")))(hr:readsIn K C' (.type "type")=true)
 (hf:findCls K (.ref C') (.type "type") "__init__"=some (.val (.builtin initId)))(hh:handedIn (.builtin initId)=true)(hq:Q (.builtin initId,[]) {s with toks:=s.toks+1}):WD (WE prog w) A (getMethod (.ref C') "__init__" pl) Q E s:=
 method_cls X hs (cls_value X hr hf hh hq)
end
def mM(e:WA)(C:Wx)(h:WL):Prop:=∃ta,h.get? e=some {cls:=C,data:= .fields #[.ref ta,.none,.none,.none,.bool false,.none]}
def nW(e:WA)(C:Wx)(d:WA)(h:WL):Prop:=∃ta,h.get? e=some {cls:=C,dict:=some d,data:= .fields #[.ref ta,.none,.none,.none,.bool false,.none]}
def pL(K:Pt)(C:WA)(bmB:List Wx)(newId:String):Bool:=match K.lookup C with
 | some ⟨.type "type",_,.cls cd,sl⟩=>(match cd.mro,sl.toList with
  | .ref C'::bm,[_,_,_,_,some (.builtin n),_]=>C'==C && n==newId && !cd.hasDel && cd.hasDict && tailIn K bmB bm && nsOkIn K cd.ns
  | _,_=>false)
 | _=>false
theorem qz{K:Pt}{h:WL}{C:WA}{bmB:List Wx}{newId:String}(X:K.In h)(q:pL K C bmB newId=true):
 ∃(bm:List Wx)(nm qn:Str)(N:WA)(bs:List Wx)(sn:List Str)(sub:List Wx)(ab:Bool)(col:Option Bool)(dd:Option WA)(k0 k1 k2 k3 k5:Option Wx),
  h.get? C=some (Xa nm qn C N bs bm true sn sub ab col dd k0 k1 k2 k3 k5 newId)/\h.Ns N (h.nsMap N)/\OwnTail h bmB bm:=by
 unfold pL at q;split at q
 ·rename_i dd cd sl ho;split at q
  ·rename_i C' bm k0 k1 k2 k3 n k5 hm hs;simp only [Qh,beq_iff_eq,P4] at q;obtain⟨⟨⟨⟨⟨rfl,rfl⟩,hdel⟩,hdi⟩,ht⟩,hok⟩:=q;obtain⟨nm,bs,mro,ns,qn,hd,sn,sub,ab,col,del⟩:=cd;dsimp only at hm hdel hdi hok;subst hm hdel hdi;have hsl:sl=#[k0,k1,k2,k3,some (.builtin n),k5]:=by
    obtain⟨l⟩:=sl;simp only at hs;rw [hs]
   subst hsl;exact⟨bm,nm,qn,ns,bs,sn,sub,ab,col,dd,k0,k1,k2,k3,k5,X _ _ ho,.of_isNs (isNs_of_in X hok),tail_of_in X ht⟩
  ·cases q
 ·cases q
section
variable {X:Cx} {Ys:List (WA×Obj)} {σ:St} {H:Hp} {s:WB} {h':WL} {e C d:WA} {f:Str} {v:V} {u:Wx}
theorem ag.reargs{tk:Tok}{o:Obj}{t0:WA}(I:ag X Ys σ H s)(he:H e=some (.ext (mM e (.ref C))))(ho:∃ta,o={cls:= .ref C,data:= .fields #[.ref ta,.none,.none,.none,.bool false,.none]})(R:EN s.heap h' e o t0):ag X Ys σ (ao H e (.ext (mM e (.ref C)))) {s with heap:=h',toks:=tk}:=by
 obtain⟨ta,rfl⟩:=ho;exact I.write (by rw [he];exact RM) (.inl rfl) R.keep ⟨_,R.at_⟩ ⟨⟨t0,R.at_⟩,⟨_,R.at_⟩,λh1 h2 uu30 k=>by obtain⟨x,z⟩:=uu30;exact⟨x,k _ z⟩⟩
theorem ag.dicted{tk:Tok}{o:Obj}(I:ag X Ys σ H s)(he:H e=some (.ext (mM e (.ref C))))(ho:∃ta,o={cls:= .ref C,data:= .fields #[.ref ta,.none,.none,.none,.bool false,.none]})(rv:aJ v u)(D:AS s.heap h' e o f u d):
 ag X Ys σ (ao (ao H d (.xd [(f,v)])) e (.ext (nW e (.ref C) d))) {s with heap:=h',toks:=tk}:=by
 obtain⟨ta,rfl⟩:=ho;have hd0:H d=none:=by
  cases z:H d with
  | none=>rfl
  | some w'=>obtain⟨ob,hb⟩:=(I.hok d w' z).there;rw [D.new] at hb;cases hb
 have ne:∀b w',H b=some w'->(∀φ,w'≠ .ext φ)->b≠e/\b≠d:=λb w' z n=>⟨λy=>by rw [y,he] at z;cases z;exact n _ rfl,λy=>by rw [y,hd0] at z;cases z⟩;have oth:∀b,b≠e->b≠d->ao (ao H d (.xd [(f,v)])) e (.ext (nW e (.ref C) d)) b=H b:=λb h1 h2=>by rw [ay h1,ay h2]
 have keepX:∀b w',H b=some w'->(∀φ,w'≠ .ext φ)->ao (ao H d (.xd [(f,v)])) e (.ext (nW e (.ref C) d)) b=some w':=λb w' z n=>by
  obtain⟨h1,h2⟩:=ne b w' z n;rw [oth b h1 h2];exact z
 have nE:∀b,H b=none->b≠e:=λb n y=>by rw [y,he] at n;cases n
 refine I.un ⟨λb o eb n _ _=>D.keep b o (nE b n) eb,λb o eb n _ _=>⟨o.slots,D.keep b o (nE b n) eb⟩,λb o eb n _=>?_,λb o eb _=>?_,λb xs z=>keepX b _ z λ_ y=>(by cases y),λb o w' z=>keepX b _ z λ_ y=>(by cases y),λb ps z=>⟨#[],by rw [Vo];exact keepX b _ z λ_ y=>(by cases y)⟩⟩ λb w' z=>?_
 ·rw [oth b (nE b n) λy=>by rw [y,D.new] at eb;cases eb];exact n
 ·by_cases hb:b=e
  ·rw [hb];exact⟨_,D.at_⟩
  ·exact⟨o,D.keep b o hb eb⟩
 ·by_cases hb:b=e
  ·subst hb;rw [bx] at z;cases z;exact⟨⟨ta,D.at_⟩,⟨_,D.at_⟩,λh1 h2 uu31 k=>by obtain⟨x,z⟩:=uu31;exact⟨x,k _ z⟩⟩
  ·rw [ay hb] at z;by_cases hb2:b=d
   ·subst hb2;rw [bx] at z;cases z;refine⟨_,D.ns,λy=>?_⟩;by_cases hy:y=f
    ·subst hy;rw [Wt rfl,Q8,beq_self_eq_true];exact rv
    ·rw [Ws hy,Q8,show(y==f)=false from by simpa using hy];exact RM
   ·rw [ay hb2] at z;refine(I.hok b w' z).stay (λb' u' hb' q=>D.keep b' u' (λy=>?_) q) (λb' z'=>keepX b' _ z' λ_ y=>(by cases y)) (λb' xs z'=>keepX b' _ z' λ_ y=>(by cases y)) λb' xs z'=>keepX b' _ z' λ_ y=>(by cases y);rcases hb' with r | r
    ·exact hb (r.symm.trans y)
    ·rw [y,he] at r;cases r
end
section
variable {X:Cx} {C C':WA} {c:Str} {np ap cp pos pos':Pos} {a:WI} {as:List WI} {ta:TA} {B newId initId:String} {bmB:List Wx} {pl:Sem Bool}
def EO(C:WA)(ta:TA):TS:=λD σ H=>ta σ H λvs H1=>∃e rest,vs= .ref e::rest/\rest.length<=WG/\H1 e=some (.ext (mM e (.ref C)))/\D.nx σ (ao H1 e (.ext (mM e (.ref C))))
theorem Ma(hmc:X.mg c=some (.ref C'))(hgc:Gl X c)(hs:specialIn X.K (.ref C') "__getattribute__"=some (some (.builtin "type.__getattribute__")))(hr:readsIn X.K C' (.type "type")=true)
 (hf:findCls X.K (.ref C') (.type "type") "__init__"=some (.val (.builtin initId)))(hh:handedIn (.builtin initId)=true)(F:Xw B newId initId bmB)(hO:pL X.K C bmB newId=true)(ha:PA X (a::as) ta)
 (ht:eval (.Call (.Attribute (.Name c np) "__init__" ap) (a::as) [] cp) X.env=(do
  let ov<-eval (.Name c np) X.env
  standAt ap.atName
  let (f,first)<-X4 [ov] (getMethod ov "__init__" pl)
  callWith cp f first (WZ cp (WH (a::as) X.env)) (Yb cp (XM [] X.env))):=by rfl)
 (hdc:(c==("__debug__":Str))=false:=by decide)(he:WH (a::as) X.env=(false,eval a X.env)::WH as X.env:=by rfl)(hpl:(WZ cp (WH as X.env)).any (·.1)=false:=by rfl)
 (hsw:W7 (.Call (.Attribute (.Name c np) "__init__" ap) (a::as) [] cp) none pos.line X.env=pure false:=by rfl):
 PS X (.Expr (.Call (.Attribute (.Name c np) "__init__" ap) (a::as) [] cp) pos) (EO C ta):=by
 intro Ys s σ H D I h;refine wpAny_Expr_any (PySem.W.methodCall_KW (pl:=pl) (oX I hgc hmc ?_ hdc) ht) I.quiet hsw;refine L9 I.kIn hs hr hf hh ?_;have hA:=ha cp Ys _ σ H _ (I.tok (s.toks+1)) h;rw [he] at hA⊢;refine UI (by show(false || (WZ cp (WH as X.env)).any (·.1))=false;rw [hpl];rfl) (UY ?_);refine aC hA λus s1 ⟨vs,H1,I1,r,e,rest,ev,hl,hE,q⟩=>?_;subst ev;cases r with
 | cons r0 r1=>
  cases r0;obtain⟨ta0,hx⟩:=(show bL X.prog X.w H1 s1.heap e (.ext (mM e (.ref C))) from I1.hok e _ hE).1;obtain⟨bm,nm,qn,N,bs,sn,sub,ab,col,dd,k0,k1,k2,k3,k5,hC,_,T⟩:=qz I1.kIn hO;obtain⟨hp,gg,dr,tk,os⟩:=s1;refine L8 F T hC hx rfl rfl (by rw [<-r1.length];exact hl) λh2 tk2 t0 R=>?_;exact⟨σ,_,I1.reargs hE ⟨ta0,rfl⟩ R,q⟩
def ER(C:WA)(f:Str)(to tv:TE):TS:=λD σ H=>tv σ H λv H1=>to σ H1 λx H2=>∃e,x= .ref e/\H2 e=some (.ext (mM e (.ref C)))/\∀d,H2 d=none->d≠e->D.nx σ (ao (ao H2 d (.xd [(f,v)])) e (.ext (nW e (.ref C) d)))
theorem Mb{o value:WI}{f:Str}{to tv:TE}{sa owner:String}(ho:PE X o to)(hv:PE X value tv)(SF:StoreFacts B bmB sa owner)(hO:pL X.K C bmB newId=true)(hsa:X7 X.K (.ref C) "__setattr__"=some (some (.builtin sa)))(ha:X7 X.K (.ref C) f=some none)
 (hs:W7 value (some (.Attribute o f pos')) pos.line X.env=pure false:=by rfl):PS X (.Assign [.Attribute o f pos'] value pos) (ER C f to tv):=by
 intro Ys s σ H D I h;refine plainObj_wpAny_Assign_Attribute (aC (hv Ys s σ H _ I h) λu s1 ⟨y,H1,I1,ry,q⟩=>aC (ho Ys s1 σ H1 _ I1 q) λov s2 ⟨x,H2,I2,rx,e,ex,hE,q2⟩=>?_) hs;subst ex;obtain rfl:ov=QJ e:=rx;obtain⟨ta0,hx⟩:=(show bL X.prog X.w H2 s2.heap e (.ext (mM e (.ref C))) from I2.hok e _ hE).1;obtain⟨bm,nm,qn,N,bs,sn,sub,ab,col,dd,k0,k1,k2,k3,k5,hC,_,T⟩:=qz I2.kIn hO;obtain⟨hp,gg,dr,tk,os⟩:=s2;refine L7 SF I2.kIn T hC hsa ha hx rfl rfl rfl λh2 tk2 dx D2=>?_;have d0:H2 dx=none:=by
  cases z:H2 dx with
  | none=>rfl
  | some w'=>obtain⟨ob,hb⟩:=(I2.hok dx w' z).there;rw [D2.new] at hb;cases hb
 exact⟨σ,_,I2.dicted hE ⟨ta0,rfl⟩ ry D2,q2 dx d0 D2.ne⟩
end
structure MkX (K:Pt) (C f:WA) (bmB:List Wx) (newId:String):Prop where
 seen:pL K C bmB newId=true
 init:Rp K (.ref C) "__init__"=some (some (.ref f))
 fn:Vn K (.ref f)=true
 kp:Se K (.ref C)=true
section
variable {X:Cx} {CX:kT} {k:Nat} {f C:WA} {fd:WJ} {ps:List Str} {sp:Sp} {x:Str} {np cpos pos:Pos} {e:WI} {es:List WI} {t:TA} {B newId initId:String} {bmB:List Wx}
theorem ag.raw{Ys:List (WA×Obj)}{σ:St}{H:Hp}{s:WB}{h':WL}{a:WA}{args:List Wx}{tk:Tok}(I:ag X Ys σ H s)(hm:UT s.heap h' a (.ref C) args):H a=none/\ag X Ys σ (ao H a (.ext (mM a (.ref C)))) {s with heap:=h',toks:=tk}:=by
 obtain⟨ta,he,_,_⟩:=hm.there;have h0:H a=none:=by
  cases z:H a with
  | none=>rfl
  | some w'=>obtain⟨ob,hb⟩:=(I.hok a w' z).there;rw [hm.new] at hb;cases hb
 have keepX:∀b w',H b=some w'->ao H a (.ext (mM a (.ref C))) b=some w':=λb w' z=>by
  rw [ay (λy=>by rw [y,h0] at z;cases z)];exact z
 refine⟨h0,I.un ⟨λb o eb n _ _=>hm.keeps b o eb,λb o eb n _ _=>⟨o.slots,hm.keeps b o eb⟩,λb o eb n _=>?_,λb o eb _=>⟨o,hm.keeps b o eb⟩,λb xs z=>keepX b _ z,λb o w' z=>keepX b _ z,λb ps z=>⟨#[],by rw [Vo];exact keepX b _ z⟩⟩ λb w' z=>?_⟩
 ·rw [ay (λy=>by rw [y,hm.new] at eb;cases eb)];exact n
 ·by_cases hb:b=a
  ·subst hb;rw [bx] at z;cases z;exact⟨⟨ta,he⟩,⟨_,he⟩,λh1 h2 uu35 k=>by obtain⟨x,z⟩:=uu35;exact⟨x,k _ z⟩⟩
  ·rw [ay hb] at z;exact(I.hok b w' z).stay (λb' u' _ q=>hm.keeps b' u' q) (λb' z'=>keepX b' _ z') (λb' xs z'=>keepX b' _ z') λb' xs z'=>keepX b' _ z'
theorem Mc{Ys:List (WA×Obj)}{σ:St}{H:Hp}{s:WB}{Q:VK}{us:List Wx}{vs:List V}(FB:Xw B newId initId bmB)(M:MkX X.K C f bmB newId)(F:aF X.prog X.w X.K X.mg X.base CX k f fd ps sp)(hr:bQ (k+1) X.A)(hb:mC X.K fd ps [])
 (hx:qT CX X E0)(I:ag X Ys σ H s)(r:aM vs us)(hl:us.length<=WG)(hex:X.ex=[])
 (h:∀a,H a=none->X.s₀.heap.get? a=none->sp (.ref a::vs) (ao H a (.ext (mM a (.ref C)))) (λv H2=>v= .non/\Q (.ref a) H2) E0):
 WD (WE X.prog X.w) X.A (call (.ref C) us) (EP X Ys σ Q) X.xe s:=by
 obtain⟨bm,nm,qn,N,bs,sn,sub,ab,col,dd,k0,k1,k2,k3,k5,hC,_,T⟩:=qz I.kIn M.seen;obtain⟨hp,gg,dr,tk,os⟩:=s;refine LZ FB T hC I.kIn M.init (beq_iff_eq.mp M.fn) hl λh' a hm=>?_;obtain⟨h0,I2⟩:=I.raw (tk:=tk) hm;have n0:X.s₀.heap.get? a=none:=by
  cases z:X.s₀.heap.get? a with
  | none=>rfl
  | some o=>
   obtain⟨o',z'⟩:=I.base.there a o z (by rw [hex];simp);have:=hm.new;rw [show(⟨hp,gg,dr,tk,os⟩:WB).heap=hp from rfl] at z';rw [this] at z';cases z'
 have hq:=h a h0 n0;have r2:aM (V.ref a::vs) (QJ a::us):= .cons rfl r;have hl2:(QJ a::us++[]).length=ps.length:=by
  rw [PY,<-r2.length];exact F.len _ _ _ _ hq
 have bd:=hb _ (QJ a::us) I2.kIn hl2;rw [PY] at bd;refine XT (Xj (F.run _ X.stack _ _ ⟨QJ a::us,[]⟩ (QJ a::us) _ _ E0 (hr.make C us []) (I2.env0.make C us []) bd r2 hq) λr s' hq'=>?_);cases r with
 | error e=>exact hx Ys σ _ _ e s' I2 hq'
 | ok fl=>
  cases fl with
  | ret u=>
   obtain⟨v,H',I3,rv,ev,q3⟩:=I2.after hq';subst ev;exact⟨rv,⟨V.ref a,H',I3,rfl,q3⟩⟩
  | next=>exact RA hq'
  | brk=>exact RA hq'
  | cont=>exact RA hq'
def ES(X:Cx)(C:WA)(sp:Sp)(t:TA):TE:=λσ H Q=>t σ H λvs H1=>vs.length<=WG/\∀a,H1 a=none->X.s₀.heap.get? a=none->sp (.ref a::vs) (ao H1 a (.ext (mM a (.ref C)))) (λv H2=>v= .non/\Q (.ref a) H2) E0
theorem Md(FB:Xw B newId initId bmB)(M:MkX X.K C f bmB newId)(F:aF X.prog X.w X.K X.mg X.base CX k f fd ps sp)(hr:bQ (k+1) X.A)(hg:Gl X x)(hm:X.mg x=some (.ref C))(hb:mC X.K fd ps [])(hx:qT CX X E0)(hex:X.ex=[])
 (ha:PA X (e::es) t)(hdb:(x==("__debug__":Str))=false:=by decide)(he:WH (e::es) X.env=(false,eval e X.env)::WH es X.env:=by rfl)(hpl:(WZ cpos (WH es X.env)).any (·.1)=false:=by rfl):
 PE X (.Call (.Name x np) (e::es) [] cpos) (ES X C sp t):=by
 intro Ys s σ H Q I h;refine Xk (oX I hg hm ?_ hdb);refine Ti (h₀:=X.base) I.ok.mod.kin M.kp (aC (ha cpos Ys s σ H _ I h) λus s1 ⟨vs,H1,I1,r,hl,q⟩=>⟨I1.kIn,?_⟩) he hpl;exact Mc FB M F hr hb hx I1 r (by show us.length<=WG;rw [<-r.length];exact hl) hex q
def Me(X:Cx)(C:WA)(sp:Sp)(t:TA)(Ex:WA->WA->Hp->Prop):TS:=λ_ σ H=>ES X C sp t σ H λv H2=>∃a d,v= .ref a/\X.s₀.heap.get? a=none/\H2 a=some (.ext (nW a (.ref C) d))/\Ex a d H2
theorem Mf{Ex:WA->WA->Hp->Prop}(hc:X.calm=true)(FB:Xw B newId initId bmB)(M:MkX X.K C f bmB newId)(F:aF X.prog X.w X.K X.mg X.base CX k f fd ps sp)(hr:bQ (k+1) X.A)(hg:Gl X x)(hm:X.mg x=some (.ref C))(hb:mC X.K fd ps [])(hx:qT CX X E0)(hex:X.ex=[])
 (ha:PA X (e::es) t)(hxe:∀(Ys:List (WA×Obj)) (σ:St) (H:Hp) (s:WB) (a d:WA),ag X Ys σ H s->X.s₀.heap.get? a=none->H a=some (.ext (nW a (.ref C) d))->Ex a d H->X.xe (.ref a) s)
 (hdb:(x==("__debug__":Str))=false:=by decide)(he:WH (e::es) X.env=(false,eval e X.env)::WH es X.env:=by rfl)(hpl:(WZ cpos (WH es X.env)).any (·.1)=false:=by rfl):
 PS X (.Raise (some (.Call (.Name x np) (e::es) [] cpos)) none pos) (Me X C sp t Ex):=by
 intro Ys s σ H D I h;obtain⟨bm,nm,qn,N,bs,sn,sub,ab,col,dd,k0,k1,k2,k3,k5,hC,_,T⟩:=qz I.ok.mod.kin M.seen;rw [arm_exec_Raise];simp only [evalOpt,Option.map];refine Wy (Xz (LX (C:=C) (nm:=nm) (q:=qn) (N:=N) (bs:=bs) (bm:=bm) (hdct:=true) (sn:=sn) (sub:=sub) (ab:=ab) (col:=col) (dd:=dd) (k0:=k0) (k1:=k1) (k2:=k2) (k3:=k3) (k5:=k5) (newId:=newId) (T.hasType FB.hasBase) (I.ok.hd hc) ?_));refine Wy (aC (Md FB M F hr hg hm hb hx hex ha hdb he hpl Ys s σ H _ I h) λv s1 ⟨y,H1,I1,r1,a,d,ey,n0,hE,q⟩=>Wy (Xz (WC ?_)));subst ey;obtain rfl:v=QJ a:=r1;obtain⟨ta,hx1⟩:=(show bL X.prog X.w H1 s1.heap a (.ext (nW a (.ref C) d)) from I1.hok a _ hE).1;exact⟨a,_,_,rfl,I1.bk _ _ hC,hx1,rfl,rfl,rfl,hxe Ys σ H1 s1 a d I1 n0 hE q⟩
end
section
variable {P:WM} {w:WO} {K:Pt} {mg:Str->Option Wx} {base:WL} {N:List Str} {qual:Str} {scope:W5} {f:WA} {cd:Wx} {A:WR} {outer:List Env} {s:WB} {H:Hp} {E:XK}
theorem Mg{Ys:List (WA×Obj)}{σ:St}{H1:Hp}{s1:WB}{a C d:WA}(I:ag (kc (kr P w) P w K mg base N qual scope f cd A outer s H E) Ys σ H1 s1)(n0:s.heap.get? a=none)(hE:H1 a=some (.ext (nW a (.ref C) d)))
 (q:E (.ref C) (some d) (mZ H1 a)):(kc (kr P w) P w K mg base N qual scope f cd A outer s H E).xe (.ref a) s1:=by
 obtain⟨ta,hx⟩:=(show bL P w H1 s1.heap a (.ext (nW a (.ref C) d)) from I.hok a _ hE).1;exact LO I hx rfl (a0:= .ref ta) rfl rfl n0 hE q
end
theorem ET(a b:Str):(a++b).length=a.length+b.length:=by
 obtain⟨x⟩:=a;obtain⟨y⟩:=b;show(x++y).size=x.size+y.size;exact Um
section
variable {X:Cx}
def EU(i:Nat):TE:=λσ H Q=>∃n:Int,σ[i]?=some (some (.int n))/\n.natAbs.log2 < 1920/\(Pr (toString n)).length<=1000/\∀z:Str,Q (.str z) H
theorem Mh{i:Nat}{s0 x:Str}{j:Nat}{p1 p2 p3 pos:Pos}(h0:s0.length<=1000)(hx:PE X (.Name x p3) (oh i)):PE X (.JoinedStr [.Constant (.str s0) j p1,.FormattedValue (.Name x p3) (-1) none p2] pos) (EU i):=by
 intro Ys s σ H Q I ⟨n,e,hn,hz,q⟩;have sl:=WN;refine JoinedStr_many (joinParts_cons (aC (wt Ys s σ H (λv H1=>v= .str s0/\H1=H) I ⟨rfl,rfl⟩) λv s1 ⟨y,H1,I1,r1,ey,eH⟩=>?_));subst ey eH;obtain⟨t1,rfl⟩:=r1;have l1:(TR++s0).length<=1000:=by rw [ET];show 0+s0.length<=1000;omega
 refine⟨Ce,joinParts_cons (FormattedValue_plain (aC (hx Ys s1 σ H1 (λv H2=>v= .int n/\H2=H1) I1 ⟨_,e,rfl,rfl⟩) λv s2 ⟨y,H2,I2,r2,ey,eH⟩=>?_))⟩;subst ey eH;obtain⟨t2,rfl⟩:=r2;refine formatField_int_small hn ?_;have l2:(TR++s0++Pr (toString n)).length<=WG:=by rw [ET];omega
 exact⟨l2,joinParts_nil (hsz:=l2) ⟨.str (TR++s0++Pr (toString n)),H2,(I2.tok _).tok _,⟨_,rfl⟩,q _⟩⟩
end
theorem Mi{H:Hp}{a:WA}{o:HO}(h:H a=some o):ao H a o=H:=by
 funext b;by_cases e:b=a
 ·rw [e,bx,h]
 ·rw [ay e]
def AU(C:WA)(f:Str):Sp:=λvs H Q _=>∃(a:WA)(n:Int),vs=[.ref a,.int n]/\n.natAbs.log2 < 1920/\(Pr (toString n)).length<=1000/\H a=some (.ext (mM a (.ref C)))/\∀d,H d=none->d≠a->Q .non (ao (ao H d (.xd [(f,.int n)])) a (.ext (nW a (.ref C) d)))
section
variable {P:WM} {w:WO} {K:Pt} {mg:Str->Option Wx} {base:WL}
theorem lK.okNX{x qual f:Str}{st:WQ}{fa C:WA}{fd:WJ}{N ps:List Str}{k:Nat}(Fu:lK K x qual st fa fd)(S:aN N ps (az st))(h2:ps.length=2)(hN:N=ps)
 (hbody:∀(cdv:Wx) (A:WR) (outer:List Env) (s:WB) (H:Hp) (E:XK),bQ k (A.deeper (XH qual (az st) s.heap.objs.size fa cdv))->bG (kc CX0 P w K mg base N qual (az st) fa cdv A outer s H E).nox (l3 st) (um (EO C (sP (oh 0) (sP (EU 1) uB))) (ER C f (oh 0) (oh 1)))):
 aF P w K mg base CX0 (k+1) fa fd ps (AU C f):=by
 refine Fu.ok S (λvs H Q E uu40=>by obtain⟨a,n,e,_⟩:=uu40;rw [e,h2];rfl) λcdv A outer s H vs Q E hr ⟨a,n,ev,hn,hz,hE,q⟩=>⟨_,hbody cdv A outer s H E hr,?_⟩;subst ev hN;have st:start N [V.ref a,V.int n]=[some (V.ref a),some (V.int n)]:=by
  match N,h2 with
  | [y,z],_=>rfl
 rw [st];refine⟨.ref a,rfl,n,rfl,hn,hz,λz=>⟨a,[.str z],rfl,by rw [WN];show 1<=16777216;decide,hE,?_⟩⟩;rw [Mi hE];exact⟨.int n,rfl,.ref a,rfl,a,rfl,hE,λd hd ne=>q d hd ne⟩
end
abbrev vy:=List Ww->(Ww->Prop)->(Int->Prop)->Prop
inductive vz (K:Pt) (C:WA) (f:Str) (F:vy) (vs:List V) (H:Hp) (Q:VK) (E:XK):Prop
 | mk (O:Ex) (ds:List Ww) (Qd:Ww->Prop) (R:Int->Prop):(∀l,O l->H l≠none)->au K H O vs ds->F ds Qd R->(∀d v H',Qd d->aq H H'->Dt K H' O v d->Q v H')->
  (∀n,R n->∀dd H',aq H H'->H' dd=some (.xd [(f,.int n)])->E (.ref C) (some dd) H')->vz K C f F vs H Q E
section
variable {P:WM} {w:WO} {K:Pt} {mg:Str->Option Wx} {base:WL}
theorem lK.okRd{x qual:Str}{st:WQ}{f:WA}{fd:WJ}{N ps:List Str}{k:Nat}{sp:Sp}(F:lK K x qual st f fd)(S:aN N ps (az st))(len:∀vs H Q E,sp vs H Q E->vs.length=ps.length)
 (hbody:∀(cdv:Wx) (A:WR) (outer:List Env) (s:WB) (H:Hp) (vs:List V) (Q:VK) (E:XK),bQ k (A.deeper (XH qual (az st) s.heap.objs.size f cdv))->sp vs H Q E->
  ∃t,bG (kc (kr P w) P w K mg base N qual (az st) f cdv A outer s H E) (l3 st) t/\t {nx:=λ_ H'=>Q .non H',rt:=Q} (start N vs) H):aF P w K mg base (kr P w) (k+1) f fd ps sp:=by
 obtain⟨oc,od,kV,doc,pm,an,cdv,ct,osl,rfl,lk,hcd⟩:=F.ex;exact Cs lk hcd S len λA outer s H vs Q E hr hsp=>hbody cdv A outer s H vs Q E hr hsp
theorem lK.okDXn{C:WA}{af x qual:Str}{st:WQ}{f:WA}{fd:WJ}{N ps:List Str}{k:Nat}{F:vy}(Fu:lK K x qual st f fd)(S:aN N ps (az st))(len:∀ds Q R,F ds Q R->ds.length=ps.length)
 (hbody:∀(cdv:Wx) (A:WR) (outer:List Env) (s:WB) (H:Hp) (O:Ex) (ds:List Ww) (Q:Ww->Prop) (R:Int->Prop) (E:XK),bQ k (A.deeper (XH qual (az st) s.heap.objs.size f cdv))->F ds Q R->
  (∀n,R n->∀dd H',aq H H'->H' dd=some (.xd [(af,.int n)])->E (.ref C) (some dd) H')->
  ∃t,bG (kc (kr P w) P w K mg base N qual (az st) f cdv A outer s H E) (l3 st) (cF K H O t)/\t {nx:=λ_=>Q .none,rt:=Q} (bU N ds)):aF P w K mg base (kr P w) (k+1) f fd ps (vz K C af F):=by
 refine Fu.okRd S (λvs H Q E h=>?_) (λcdv A outer s H vs Q E hr h=>?_)
 ·obtain⟨O,ds,Qd,R,_,r,q,_⟩:=h;rw [r.length];exact len _ _ _ q
 ·obtain⟨O,ds,Qd,R,tr,r,q,k,kx⟩:=h;obtain⟨t,ht,q'⟩:=hbody cdv A outer s H O ds Qd R E hr q kx;refine⟨_,ht,O,_,_,Dk tr r,q',λO' δ' σ' H' z w' S'=>?_,λd v H' z s' r'=>k d v H' z s' r',λ_ _ _ _ z=>z.elim,λ_ _ _ _ z=>z.elim⟩;exact k _ _ _ z w'.same .non
def fM(R:Int->Prop)(u:DA):DS:=λ_ δ=>u δ λds=>∃n,ds=[.int n]/\n.natAbs.log2 < 1920/\(Pr (toString n)).length<=1000/\R n
section
variable {N:List Str} {qual:Str} {scope:W5} {f0:WA} {cd:Wx} {A:WR} {outer:List Env} {s:WB} {H:Hp} {O:Ex} {E:XK} {R:Int->Prop} {C:WA} {af:Str}
theorem rK{j k:Nat}{fi:WA}{fdi:WJ}{psi:List Str}{x:Str}{bm:List Wx}{B newId initId:String}{e:WI}{np cpos pos:Pos}{u:DA}(hx:∀n,R n->∀dd H',aq H H'->H' dd=some (.xd [(af,.int n)])->E (.ref C) (some dd) H')
 (FB:Xw B newId initId bm)(M:MkX K C fi bm newId)(G:aF P w K mg base CX0 k fi fdi psi (AU C af))(hr:bQ j (kc (kr P w) P w K mg base N qual scope f0 cd A outer s H E).A)(hm:mg x=some (.ref C))(hb:mC K fdi psi [])
 (ha:PA (kc (kr P w) P w K mg base N qual scope f0 cd A outer s H E) [e] (mE K H O u))(hk:k+1<=j:=by decide)(hg:Gl (kc (kr P w) P w K mg base N qual scope f0 cd A outer s H E) x:=by exact rfl)(hd:(x==("__debug__":Str))=false:=by decide)
 (he:WH [e] (kc (kr P w) P w K mg base N qual scope f0 cd A outer s H E).env=(false,eval e (kc (kr P w) P w K mg base N qual scope f0 cd A outer s H E).env)::WH [] (kc (kr P w) P w K mg base N qual scope f0 cd A outer s H E).env:=by rfl)
 (hpl:(WZ cpos (WH [] (kc (kr P w) P w K mg base N qual scope f0 cd A outer s H E).env)).any (·.1)=false:=by rfl):
 PS (kc (kr P w) P w K mg base N qual scope f0 cd A outer s H E) (.Raise (some (.Call (.Name x np) [e] [] cpos)) none pos) (cF K H O (fM R u)):=
 λYs s1 σ H1 D I ⟨O1,δ,EE,w1,q1,_,_,_,_⟩=>Mf (Ex:=λa d H2=>∃n,R n/\aq H (mZ H2 a)/\mZ H2 a d=some (.xd [(af,.int n)])) rfl FB M G (hr.mono hk) hg hm hb CD rfl ha
  (λYs σ H2 s2 a d I2 n0 hE uu43=>by obtain⟨n,r,sm,hd⟩:=uu43;exact Mg I2 n0 hE (hx n r d _ sm hd)) hd he hpl Ys s1 σ H1 D I
  ⟨O1,δ,_,w1,q1,λds vs H2 uu44 s2 r2=>by
   obtain⟨n,ed,hn,hz,r⟩:=uu44;subst ed;cases r2 with
   | cons r3 r4=>
    cases r4;cases r3;refine⟨by rw [WN];show 1<=16777216;decide,λa ha0 n0=>⟨a,n,rfl,hn,hz,bx,λd hd ne=>⟨rfl,a,d,rfl,n0,bx,n,r,?_,?_⟩⟩⟩
    ·intro b o hb;have hb2:H2 b=some o:=(w1.same.trans s2) b o hb;have na:b≠a:=λy=>by rw [y,ha0] at hb2;cases hb2
     have nd:b≠d:=λy=>by rw [ay ne] at hd;rw [y,hd] at hb2;cases hb2
     rw [rJ na,ay na,ay nd,ay na];exact hb2
    ·rw [rJ ne,ay ne,bx]⟩
end
end
section
variable {X:Cx} {CX:kT} {k:Nat} {f C C':WA} {fd:WJ} {ps:List Str} {sp:Sp} {x c n:Str} {p cp ep np hp tp:Pos} {a:WI} {as:List WI} {b₀:WQ} {suite:List WQ} {t:TA} {i j:Nat} {ts:TS} {y:Str} {yp:Pos}
theorem Mj{bmB bmB':List Wx}{newId newId':String}(F:aF X.prog X.w X.K X.mg X.base (kr X.prog X.w) k f fd ps sp)(hr:bQ k X.A)(hg:Gl X x)(hm:X.mg x=some (.ref f))(hk:Se X.K (.ref f)=true)(hb:mC X.K fd ps [])
 (ha:∀E',PA (X.wish E') (a::as) t)(hst:X.stack=X.env::X.outer)(hfr:X.env.frame=some X.env.locals)
 (hmc:X.mg c=some (.ref C'))(hgc:Gl X c)(q:pL X.K C bmB newId=true)(q':TN X.K C' bmB' newId'=true)(hB:bmB'.contains (.type "BaseException")=true)
 (hin:RS X.K C (.ref C')=some true)
 (hN:X.N.Nodup)(hj:X.N[j]?=some y)(hy:nI X.env.scope y)(hf:X.fn y=true\/X.env.scope.names.lookup y=some .local)(hi:X.N[i]?=some n)(hn:X.env.scope.names.lookup n=some .local)(hs:∀e,bG (X.inEx e) (b₀::suite) ts)
 (hdb:(x==("__debug__":Str))=false:=by decide)(hdc:(c==("__debug__":Str))=false:=by decide)(he:WH (a::as) X.env=(false,eval a X.env)::WH as X.env:=by rfl)(hpl:(WZ cp (WH as X.env)).any (·.1)=false:=by rfl)(hsw:W7 (.Call (.Name x p) (a::as) [] cp) (some (.Name y yp)) ep.line X.env=pure false:=by rfl):
 PS X (.Try [.Assign [.Name y yp] (.Call (.Name x p) (a::as) [] cp) ep] [.ExceptHandler (some (.Name c np)) (some n) (b₀::suite) hp] [] [] tp) (LP sp t C i j ts):=by
 intro Ys s σ H D I h;refine wpAny_Try_except ?_;generalize hEh:(λ(e:Wx) (s₁:WB)=>WD (WE X.prog X.w) X.A (X6 e X.env) (λ_ s₂=>WD (WE X.prog X.w) X.A (Yk e none) (λ_ s₃=>WD (WE X.prog X.w) X.A (handleBy e X.env [.ExceptHandler (some (.Name c np)) (some n) (b₀::suite) hp]) (SP X Ys D) X.xe s₃) X.xe s₂) X.xe s₁)=Eh;have I':ag (X.wish Eh) Ys σ H s:=I.wish Eh;have out:WD (WE X.prog X.w) X.A (eval (.Call (.Name x p) (a::as) [] cp) X.env) (λu s₁=>∃v H',ag X Ys σ H' s₁/\aJ v u/\D.nx (σ.set j (some v)) H') Eh s:=by
  refine Xk (oX I hg hm ?_ hdb);refine Ti (h₀:=X.base) I.ok.mod.kin hk (aC (ha Eh cp Ys s σ H _ I' h) λus s1 ⟨vs,H1,I1w,r,q1⟩=>⟨I1w.kIn,?_⟩) he hpl;have I1:ag X Ys σ H1 s1:=I1w.unwish;have hl:(us++[]).length=ps.length:=by rw [PY,<-r.length];exact F.len _ _ _ _ q1
  have bd:=hb s1 us I1.kIn hl;rw [PY] at bd;refine XT (Xj (F.run X.A X.stack s1 H1 ⟨us,[]⟩ us vs _ _ hr I1.env0 bd r q1) λr2 s2 hq=>?_);cases r2 with
  | ok fl=>
   cases fl with
   | ret u=>
    obtain⟨v,H2,I2,rv,q2⟩:=I1.after hq;exact⟨v,H2,I2,rv,q2⟩
   | next=>exact RA hq
   | brk=>exact RA hq
   | cont=>exact RA hq
  | error ev=>
   obtain⟨e,cls,a0,B,H2,rfl,ho,hgn,fl,hB2,un,kb,th,ox,hox,rfl,hsu⟩:=hq;rw [<-hEh];have fl':SJ B (X.env::X.outer) e (.ref C) a0 s2.heap:=by rw [<-hst];exact fl
   refine WW (EL (Q:=λ_ s'=>∃h4,s'={s2 with heap:=h4}/\Heap.HeldW B (X.env::X.outer) e (.ref C) a0 X.env.locals h4/\s2.heap.UpToSlots h4) (wpAny_looks_onW (by rw [I.ok.frames,hst]) hfr fl' λh4 a b=>⟨h4,rfl,a,b⟩)) (λ_ s4 hs4=>?_) (λ_ _ z=>z.1);obtain⟨⟨h4,rfl,held4,sm4⟩,dk4⟩:=hs4;refine WW (vx (Q:=λ_ s'=>∃h5,s'={s2 with heap:=h5}/\SJ B (X.env::X.outer) e (.ref C) a0 h5/\h4.UpToSlots h5) (wpAny_landsW held4 λh5 a b=>⟨h5,rfl,a,b⟩)) (λ_ s5 hs5=>?_) (λ_ _ z=>z.1);obtain⟨⟨h5,rfl,fl5,sm5⟩,dk5⟩:=hs5;have sm25:=sm4.trans sm5;have I5:ag X Ys σ H2 {s2 with heap:=h5}:=ag.call' (ch:=[]) (s':={s2 with heap:=h5}) I1 ho (uI (X:=X) un fl fl5.1 sm25 kb th) (hB2.kept fl5.1) hgn (λ_ z=>nomatch z);have I5e:=I5.inEx e;obtain⟨ob,hob,hobc⟩:=fl5.there;have O:=(IM (x:=c) (mg:=X.mg) (C:=C') I.ok.mod.kin hmc q').obj;obtain⟨tl',N',nm',qn',bs',hd',sn',sub',ab',col',dd',k0',k1',k2',k3',k5',mN',hC',_,_,T'⟩:=O;obtain⟨tl,nm,qn,N,bs,sn,sub,ab,col,dd,k0,k1,k2,k3,k5,hC,_,T⟩:=qz I.ok.mod.kin q;refine wpAny_handleBy_cons (codeAny_handlers_test (oX I5e hgc hmc ?_ hdc)) (by intro z;cases z);have hbase':tl'.contains (.type "BaseException")=true:=by rw [T'.hasType hB]
   refine CY (I5.bk _ _ hC) (I5.bk _ _ hC') hob hobc hbase' (CZ I.ok.mod.kin hin hC) ?_;refine codeAny_handlers_suite_as ?_;refine WW (vx (Q:=λ_ s'=>∃h6,s'={s2 with heap:=h6}/\SJ B (X.env::X.outer) e (.ref C) a0 h6/\h5.UpToSlots h6) (lands_againW fl5 λh6 a b=>⟨h6,rfl,a,b⟩)) (λ_ s6 hs6=>?_) (λ_ _ z=>z.1);obtain⟨⟨h6,rfl,fl6,sm6⟩,dk6⟩:=hs6;have dk26:DK s2.heap h6:=(dk4.trans dk5).trans dk6;have eB:B.get? e=none:=fl.2.1;have nH2:H2 e=none:=by
    cases z:H2 e with
    | none=>rfl
    | some u=>
     obtain⟨ob',z'⟩:=(hB2 e u z).there;rw [eB] at z';cases z'
   have u6:=uI (X:=X) un fl fl6.1 (sm25.trans sm6) kb th;have n1:∀o,s1.heap.get? e=some o->False:=λo z=>by
    by_cases hbf:e∈cY X.stack
    ·obtain⟨_,o',ho',hd'⟩:=fl.2.2.1.mem hbf;obtain⟨oe,ws,hoe,_,hoed,_⟩:=fl.first;rw [hoe] at ho';cases ho';exact hd' _ hoed
    ·obtain⟨o',z'⟩:=th e o z hbf;rw [eB] at z';cases z'
   have ne2:∀b u,H2 b=some u->b≠e:=λb u z w'=>by rw [w',nH2] at z;cases z
   have un6:Un (cY X.stack) [] H1 (ao H2 e (.ext (kP e (.ref C) ox.dict))) s1.heap h6:=
    ⟨u6.keep,u6.slot,λb o z nn hx=>by rw [ay (λw'=>n1 o (by rw [<-w'];exact z))];exact u6.free b o z nn hx,u6.there,
     λb xs z=>by rw [ay (ne2 b _ (u6.tups b xs z))];exact u6.tups b xs z,λb o xs z=>by rw [ay (ne2 b _ (u6.frzs b o xs z))];exact u6.frzs b o xs z,
     λb pss z=>by obtain⟨mo,z'⟩:=u6.tbls b pss z;exact⟨mo,by rw [ay (ne2 b _ z')];exact z'⟩⟩
   have ok6:bV X.prog X.w (ao H2 e (.ext (kP e (.ref C) ox.dict))) h6:=λb u z=>by
    by_cases hbe:b=e
    ·subst hbe;rw [bx] at z;cases z;obtain⟨o6,vs6,ho6,hc6,hf6,_⟩:=fl6.first;obtain⟨o7,ho7,hd7⟩:=dk26 _ ox hox;rw [ho6] at ho7;cases ho7;exact⟨⟨o6,ho6,hc6,hd7,by unfold notCls;rw [hf6]⟩,⟨o6,ho6⟩,λh1 h2 uu46 kk=>by obtain⟨o,z1,z2⟩:=uu46;exact⟨o,kk o z1,z2⟩⟩
    ·rw [ay hbe] at z;exact(hB2 b u z).stay (λcc v _ z'=>fl6.1 cc v z') (λcc z'=>by rw [ay (ne2 cc _ z')];exact z') (λcc xs z'=>by rw [ay (ne2 cc _ z')];exact z') λcc xs z'=>by rw [ay (ne2 cc _ z')];exact z'
   have I6:ag X Ys σ (ao H2 e (.ext (kP e (.ref C) ox.dict))) {s2 with heap:=h6}:=ag.call' (ch:=[]) (s':={s2 with heap:=h6}) I1 ho un6 ok6 hgn (λ_ z=>nomatch z);refine pV (X:=X.inEx e) (I6.inEx e) hN hi (.inl hn) (v:= .ref e) rfl (λs7 I7=>?_) (.inr hn);refine WW (hs e Ys s7 _ _ _ I7 (hsu e nH2)) (λf s8 q8=>?_) λ_ _ z=>z.elim;cases f with
   | next=>
    obtain⟨σ8,H8,J8,q8⟩:=q8;exact IP (J8.outEx I.ok.hd) hN hi hn λs9 J9=>⟨σ8.set i none,H8,J9,q8⟩
   | ret v=>obtain⟨_,_,_,_,_,z⟩:=q8;exact z.elim
   | brk=>obtain⟨_,_,_,z⟩:=q8;exact z.elim
   | cont=>obtain⟨_,_,_,z⟩:=q8;exact z.elim
 refine X0 (wpAny_Assign_Name (aC out λu s1 ⟨v,H',I1,r1,q1⟩=>?_) hsw);exact pV I1 hN hj hy r1 (λs2 I2=>XB (XB ⟨_,H',I2,q1⟩)) hf
end
theorem EV{X:Cx}{K':Pt}(h:X.K=K'):kB X (.builtin "isinstance") (λxs H Q=>∃(dd:Option WA)(e C:WA)(c:V)(cv:Wx)(b:Bool),xs=[.ref e,c]/\H e=some (.ext (kP e (.ref C) dd))/\lR K' C/\(∀u,aJ c u->u=cv)/\SH K' (.ref C) cv=some b/\Q (.bl b) H):=by
 subst h;exact LV
theorem EW{X:Cx}{K':Pt}(h:X.K=K'):kB X (.builtin "isinstance") (λxs H Q=>∃(dd:Option WA)(e C q:WA)(cs:List WA)(b:Bool),xs=[.ref e,.ref q]/\H e=some (.ext (kP e (.ref C) dd))/\H q=some (.tup (cs.map V.ref))/\lR K' C/\S5 K' (.ref C) (cs.map QJ)=some b/\Q (.bl b) H):=by
 subst h;exact LW
section
variable {X:Cx} {CX:kT} {k:Nat} {f C C':WA} {fd:WJ} {ps:List Str} {sp:Sp} {x c n:Str} {p cp ep np hp tp:Pos} {a:WI} {as:List WI} {b₀:WQ} {suite:List WQ} {t:TA} {i j:Nat} {ts:TS} {y:Str} {yp:Pos}
def Mk(sp:Sp)(t:TA)(C:WA)(ts:TS):TS:=λD σ H=>t σ H λvs H1=>sp vs H1 (λv H2=>D.rt v H2) (λcls dd H2=>cls= .ref C/\∀e,H2 e=none->
 ts {nx:=D.nx,rt:=D.rt} σ (ao H2 e (.ext (kP e (.ref C) dd))))
theorem Ml{bmB bmB':List Wx}{newId newId':String}(F:aF X.prog X.w X.K X.mg X.base (kr X.prog X.w) k f fd ps sp)(hr:bQ k X.A)(hg:Gl X x)(hm:X.mg x=some (.ref f))(hk:Se X.K (.ref f)=true)(hb:mC X.K fd ps [])
 (ha:∀E',PA (X.wish E') (a::as) t)(hst:X.stack=X.env::X.outer)(hfr:X.env.frame=some X.env.locals)
 (hmc:X.mg c=some (.ref C'))(hgc:Gl X c)(q:pL X.K C bmB newId=true)(q':pL X.K C' bmB' newId'=true)(hB:bmB'.contains (.type "BaseException")=true)
 (hin:RS X.K C (.ref C')=some true)
 (hs:∀e,bG (X.inEx e) (b₀::suite) ts)
 (hdb:(x==("__debug__":Str))=false:=by decide)(hdc:(c==("__debug__":Str))=false:=by decide)(he:WH (a::as) X.env=(false,eval a X.env)::WH as X.env:=by rfl)(hpl:(WZ cp (WH as X.env)).any (·.1)=false:=by rfl):
 PS X (.Try [.Return (some (.Call (.Name x p) (a::as) [] cp)) ep] [.ExceptHandler (some (.Name c np)) none (b₀::suite) hp] [] [] tp) (Mk sp t C ts):=by
 intro Ys s σ H D I h;refine wpAny_Try_except ?_;generalize hEh:(λ(e:Wx) (s₁:WB)=>WD (WE X.prog X.w) X.A (X6 e X.env) (λ_ s₂=>WD (WE X.prog X.w) X.A (Yk e none) (λ_ s₃=>WD (WE X.prog X.w) X.A (handleBy e X.env [.ExceptHandler (some (.Name c np)) none (b₀::suite) hp]) (SP X Ys D) X.xe s₃) X.xe s₂) X.xe s₁)=Eh;have I':ag (X.wish Eh) Ys σ H s:=I.wish Eh;have out:WD (WE X.prog X.w) X.A (eval (.Call (.Name x p) (a::as) [] cp) X.env) (λu s₁=>∃v H',ag X Ys σ H' s₁/\aJ v u/\D.rt v H') Eh s:=by
  refine Xk (oX I hg hm ?_ hdb);refine Ti (h₀:=X.base) I.ok.mod.kin hk (aC (ha Eh cp Ys s σ H _ I' h) λus s1 ⟨vs,H1,I1w,r,q1⟩=>⟨I1w.kIn,?_⟩) he hpl;have I1:ag X Ys σ H1 s1:=I1w.unwish;have hl:(us++[]).length=ps.length:=by rw [PY,<-r.length];exact F.len _ _ _ _ q1
  have bd:=hb s1 us I1.kIn hl;rw [PY] at bd;refine XT (Xj (F.run X.A X.stack s1 H1 ⟨us,[]⟩ us vs _ _ hr I1.env0 bd r q1) λr2 s2 hq=>?_);cases r2 with
  | ok fl=>
   cases fl with
   | ret u=>
    obtain⟨v,H2,I2,rv,q2⟩:=I1.after hq;exact⟨v,H2,I2,rv,q2⟩
   | next=>exact RA hq
   | brk=>exact RA hq
   | cont=>exact RA hq
  | error ev=>
   obtain⟨e,cls,a0,B,H2,rfl,ho,hgn,fl,hB2,un,kb,th,ox,hox,rfl,hsu⟩:=hq;rw [<-hEh];have fl':SJ B (X.env::X.outer) e (.ref C) a0 s2.heap:=by rw [<-hst];exact fl
   refine WW (EL (Q:=λ_ s'=>∃h4,s'={s2 with heap:=h4}/\Heap.HeldW B (X.env::X.outer) e (.ref C) a0 X.env.locals h4/\s2.heap.UpToSlots h4) (wpAny_looks_onW (by rw [I.ok.frames,hst]) hfr fl' λh4 a b=>⟨h4,rfl,a,b⟩)) (λ_ s4 hs4=>?_) (λ_ _ z=>z.1);obtain⟨⟨h4,rfl,held4,sm4⟩,dk4⟩:=hs4;refine WW (vx (Q:=λ_ s'=>∃h5,s'={s2 with heap:=h5}/\SJ B (X.env::X.outer) e (.ref C) a0 h5/\h4.UpToSlots h5) (wpAny_landsW held4 λh5 a b=>⟨h5,rfl,a,b⟩)) (λ_ s5 hs5=>?_) (λ_ _ z=>z.1);obtain⟨⟨h5,rfl,fl5,sm5⟩,dk5⟩:=hs5;have sm25:=sm4.trans sm5;have I5:ag X Ys σ H2 {s2 with heap:=h5}:=ag.call' (ch:=[]) (s':={s2 with heap:=h5}) I1 ho (uI (X:=X) un fl fl5.1 sm25 kb th) (hB2.kept fl5.1) hgn (λ_ z=>nomatch z);have I5e:=I5.inEx e;obtain⟨ob,hob,hobc⟩:=fl5.there;obtain⟨tl',nm',qn',N',bs',sn',sub',ab',col',dd',k0',k1',k2',k3',k5',hC',_,T'⟩:=qz I.ok.mod.kin q';obtain⟨tl,nm,qn,N,bs,sn,sub,ab,col,dd,k0,k1,k2,k3,k5,hC,_,T⟩:=qz I.ok.mod.kin q;refine wpAny_handleBy_cons (codeAny_handlers_test (oX I5e hgc hmc ?_ hdc)) (by intro z;cases z);have hbase':tl'.contains (.type "BaseException")=true:=by rw [T'.hasType hB]
   refine CY (I5.bk _ _ hC) (I5.bk _ _ hC') hob hobc hbase' (CZ I.ok.mod.kin hin hC) ?_;refine codeAny_handlers_suite ?_;refine WW (vx (Q:=λ_ s'=>∃h6,s'={s2 with heap:=h6}/\SJ B (X.env::X.outer) e (.ref C) a0 h6/\h5.UpToSlots h6) (lands_againW fl5 λh6 a b=>⟨h6,rfl,a,b⟩)) (λ_ s6 hs6=>?_) (λ_ _ z=>z.1);obtain⟨⟨h6,rfl,fl6,sm6⟩,dk6⟩:=hs6;have dk26:DK s2.heap h6:=(dk4.trans dk5).trans dk6;have eB:B.get? e=none:=fl.2.1;have nH2:H2 e=none:=by
    cases z:H2 e with
    | none=>rfl
    | some u=>
     obtain⟨ob',z'⟩:=(hB2 e u z).there;rw [eB] at z';cases z'
   have u6:=uI (X:=X) un fl fl6.1 (sm25.trans sm6) kb th;have n1:∀o,s1.heap.get? e=some o->False:=λo z=>by
    by_cases hbf:e∈cY X.stack
    ·obtain⟨_,o',ho',hd'⟩:=fl.2.2.1.mem hbf;obtain⟨oe,ws,hoe,_,hoed,_⟩:=fl.first;rw [hoe] at ho';cases ho';exact hd' _ hoed
    ·obtain⟨o',z'⟩:=th e o z hbf;rw [eB] at z';cases z'
   have ne2:∀b u,H2 b=some u->b≠e:=λb u z w'=>by rw [w',nH2] at z;cases z
   have un6:Un (cY X.stack) [] H1 (ao H2 e (.ext (kP e (.ref C) ox.dict))) s1.heap h6:=
    ⟨u6.keep,u6.slot,λb o z nn hx=>by rw [ay (λw'=>n1 o (by rw [<-w'];exact z))];exact u6.free b o z nn hx,u6.there,
     λb xs z=>by rw [ay (ne2 b _ (u6.tups b xs z))];exact u6.tups b xs z,λb o xs z=>by rw [ay (ne2 b _ (u6.frzs b o xs z))];exact u6.frzs b o xs z,
     λb pss z=>by obtain⟨mo,z'⟩:=u6.tbls b pss z;exact⟨mo,by rw [ay (ne2 b _ z')];exact z'⟩⟩
   have ok6:bV X.prog X.w (ao H2 e (.ext (kP e (.ref C) ox.dict))) h6:=λb u z=>by
    by_cases hbe:b=e
    ·subst hbe;rw [bx] at z;cases z;obtain⟨o6,vs6,ho6,hc6,hf6,_⟩:=fl6.first;obtain⟨o7,ho7,hd7⟩:=dk26 _ ox hox;rw [ho6] at ho7;cases ho7;exact⟨⟨o6,ho6,hc6,hd7,by unfold notCls;rw [hf6]⟩,⟨o6,ho6⟩,λh1 h2 uu49 kk=>by obtain⟨o,z1,z2⟩:=uu49;exact⟨o,kk o z1,z2⟩⟩
    ·rw [ay hbe] at z;exact(hB2 b u z).stay (λcc v _ z'=>fl6.1 cc v z') (λcc z'=>by rw [ay (ne2 cc _ z')];exact z') (λcc xs z'=>by rw [ay (ne2 cc _ z')];exact z') λcc xs z'=>by rw [ay (ne2 cc _ z')];exact z'
   have I6:ag X Ys σ (ao H2 e (.ext (kP e (.ref C) ox.dict))) {s2 with heap:=h6}:=ag.call' (ch:=[]) (s':={s2 with heap:=h6}) I1 ho un6 ok6 hgn (λ_ z=>nomatch z);refine WW (hs e Ys _ _ _ _ (I6.inEx e) (hsu e nH2)) (λf s8 q8=>?_) λ_ _ z=>z.elim;cases f with
   | next=>obtain⟨σ8,H8,J8,q8⟩:=q8;exact⟨σ8,H8,J8.outEx I.ok.hd,q8⟩
   | ret v=>obtain⟨v8,σ8,H8,J8,r8,q8⟩:=q8;exact⟨v8,σ8,H8,J8.outEx I.ok.hd,r8,q8⟩
   | brk=>obtain⟨_,_,_,z⟩:=q8;exact z.elim
   | cont=>obtain⟨_,_,_,z⟩:=q8;exact z.elim
 refine X0 (wpAny_Return_some (aC out λu s1 uu50=>by obtain⟨v,H',I1,r1,q1⟩:=uu50;exact⟨v,σ,H',I1,r1,q1⟩))
end
section
variable {X:Cx} {H0:Hp} {O0:Ex}
def jZ(to t:DT):DT:=λδ Q=>to δ λx=>∃z:Str,x= .str z/\t δ λy=>∃c:Str,y= .str c/\z.length<=WG/\Q (.str (Txt.stripChars z c))
def j3(i:Nat)(tk tv:DT):DS:=λE δ=>tv δ λd=>∃ds,δ[i]?=some (some (.o ds))/\tk δ λy=>∃k:Int,y= .int k/\∃j,oy ds.length k=some j/\E.nx (δ.set i (some (.o (ds.set j d))))
end
section
variable {prog:WM} {w:WO} {A:WR} {E:Wx->WB->Prop}
variable {I:WA} {fp wr:List WA} {n:Nat} {P:Nat->Wx->Prop} {St:Nat->WL->Prop} {R:Yh->WB->Prop} {kw:List (Str×Wx)}
end
section
variable {X:Cx} {H0:Hp} {O0:Ex}
def fN(t:DT):DB:=λδ Q=>t δ λd=>∃z:Str,d= .str z/\z.length<=WG/\Q ((z.length:Int) !=0)
theorem Mm{e:WI}{t:DT}(h:DE X H0 O0 e t)(he:∀whole,isTrue e X.env whole=(do let v<-whole;standAt e.pos;X4 [v] (truthy v)):=by intro _;rfl):PT X e (j6 X.K H0 O0 (fN t)):=
 (Hv h he).imp λσ H Q uu51=>by obtain⟨O,δ,Qd,w,q,k⟩:=uu51;exact⟨O,δ,_,w,q,λd v H' uu52 s r=>by
  obtain⟨z,e,hz,qb⟩:=uu52;subst e;cases r;exact⟨_,⟨hz,rfl⟩,k _ H' qb s⟩⟩
end
end L2
namespace PySem.SeqAt
open AutoSeq1 (wpAny_loadPart')
open MeetsSeq
end PySem.SeqAt
namespace L2
open PySem PySem.Spec PyProof.Rows PySem.W
section
variable {X:Cx} {H0:Hp} {O0:Ex}
open PySem PySem.Spec PyProof.Rows PySem.W PySem.Calls
end
end L2
namespace PySem.SeqAt
open AutoSeq1 (wpAny_loadPart')
open MeetsSeq
end PySem.SeqAt
namespace L2
open PySem PySem.Spec PyProof.Rows PySem.W
section
variable {X:Cx} {H0:Hp} {O0:Ex}
def j5:Ww->Ww->(Ww->Prop)->Prop:=λx y Q=>∃z,y= .str z/\kK x=true/\Q (.bool (!PN x (.str z)))
end
end L2
namespace K60
open PySem L2
theorem lit0:PM (.str "")=true:=td
theorem lit1:PM (.str "\n")=true:=td
theorem lit2:PM (.str " ")=true:=td
theorem lit3:PM (.str "-")=true:=td
theorem lit4:PM (.str "0")=true:=td
theorem lit5:PM (.str "0123456789")=true:=td
theorem lit6:PM (.str "2003-04-05")=true:=td
theorem lit7:PM (.str ":")=true:=td
theorem lit8:PM (.str "END 2000-01-01 a")=true:=td
theorem lit9:PM (.str "a")=true:=td
theorem lit10:PM (.str "abcdefghijklmnopqrstuvwxyz")=true:=td
theorem lit11:PM (.str "called to stay by rule ")=true:=td
theorem lit12:PM (.str "coming")=true:=td
theorem lit13:PM (.str "covered by hold ")=true:=td
theorem lit14:PM (.str "days")=true:=td
theorem lit15:PM (.str "deep")=true:=td
theorem lit16:PM (.str "end")=true:=td
theorem lit17:PM (.str "end ")=true:=td
theorem lit18:PM (.str "end  2000-01-01 a")=true:=td
theorem lit19:PM (.str "end 2000-01-01")=true:=td
theorem lit20:PM (.str "end 2000-01-01 a")=true:=td
theorem lit21:PM (.str "end 2000-01-01 a b")=true:=td
theorem lit22:PM (.str "first")=true:=td
theorem lit23:PM (.str "follow")=true:=td
theorem lit24:PM (.str "gone")=true:=td
theorem lit25:PM (.str "gone, or called to go: ")=true:=td
theorem lit26:PM (.str "goneday.days")=true:=td
theorem lit27:PM (.str "goneday.deeds")=true:=td
theorem lit28:PM (.str "goneday.deedtexts")=true:=td
theorem lit29:PM (.str "goneday.errors")=true:=td
theorem lit30:PM (.str "happens")=true:=td
theorem lit31:PM (.str "held")=true:=td
theorem lit32:PM (.str "hold")=true:=td
theorem lit33:PM (.str "hold 2000-01-01 a kind b Deep")=true:=td
theorem lit34:PM (.str "keep")=true:=td
theorem lit35:PM (.str "kind")=true:=td
theorem lit36:PM (.str "last")=true:=td
theorem lit37:PM (.str "law_goneday_k60_sets_as_texts")=true:=td
theorem lit38:PM (.str "leave")=true:=td
theorem lit39:PM (.str "leave 2000-01-01 a")=true:=td
theorem lit40:PM (.str "lift")=true:=td
theorem lit41:PM (.str "lift ")=true:=td
theorem lit42:PM (.str "lift 2000-02-30 a")=true:=td
theorem lit43:PM (.str "months")=true:=td
theorem lit44:PM (.str "never")=true:=td
theorem lit45:PM (.str "no row that the desk takes")=true:=td
theorem lit46:PM (.str "none")=true:=td
theorem lit47:PM (.str "not the text asked for, row ")=true:=td
theorem lit48:PM (.str "paper")=true:=td
theorem lit49:PM (.str "paper 2000-01-01 a b d c")=true:=td
theorem lit50:PM (.str "quarrels with the deed of act ")=true:=td
theorem lit51:PM (.str "rule")=true:=td
theorem lit52:PM (.str "while")=true:=td
theorem lit53:PM (.str "years")=true:=td
def bb(i:Nat):WQ:=PySem.Challenge.pw_goneday_k60_sets_as_texts.main.body.getD i (.Pass ⟨0,0,0,0⟩)
abbrev AV:WQ:=L2.inClass (bb 11) 0
abbrev AW:WQ:=bb 21
abbrev AX:WQ:=bb 22
abbrev AY:WQ:=bb 23
abbrev AZ:WQ:=bb 24
abbrev A0:WQ:=bb 25
abbrev A1:WQ:=bb 26
abbrev A2:WQ:=bb 27
abbrev A3:WQ:=bb 28
abbrev vA:WQ:=bb 29
abbrev A4:WQ:=bb 30
abbrev A5:WQ:=bb 31
abbrev vB:WQ:=bb 32
abbrev A6:WQ:=bb 33
abbrev A7:WQ:=bb 40
abbrev vC:WQ:=bb 41
abbrev A8:WQ:=bb 42
abbrev A9:WQ:=bb 43
abbrev Ba:WQ:=bb 44
abbrev tQ:WQ:=bb 45
abbrev Bb:WQ:=bb 46
abbrev Bc:WQ:=bb 47
abbrev Bd:WQ:=bb 48
abbrev Be:WQ:=bb 49
abbrev Bf:WQ:=bb 52
abbrev Bg:WQ:=bb 53
abbrev Bh:WQ:=bb 54
abbrev vD:WQ:=bb 55
abbrev Bi:WQ:=bb 56
abbrev Bj:WQ:=bb 57
abbrev Bk:WQ:=bb 58
abbrev Bl:WQ:=bb 59
abbrev Bm:WQ:=bb 60
abbrev vE:WQ:=bb 61
abbrev Bn:WQ:=bb 63
abbrev Bo:WQ:=bb 64
abbrev Bp:WQ:=bb 65
abbrev tR:WQ:=bb 66
abbrev Bq:WQ:=bb 67
abbrev Br:WQ:=bb 68
abbrev Bs:WQ:=bb 69
abbrev Bt:WQ:=bb 70
abbrev vF:WQ:=bb 71
abbrev vG:WQ:=bb 72
abbrev Bu:WQ:=bb 73
abbrev vH:WQ:=bb 74
abbrev Bv:WQ:=bb 75
abbrev vI:WQ:=bb 76
abbrev vJ:WQ:=bb 77
abbrev qA:WQ:=bb 78
abbrev Bw:WQ:=bb 79
abbrev vK:WQ:=bb 80
abbrev Bx:WQ:=bb 81
abbrev vL:WQ:=bb 82
abbrev By:WQ:=bb 83
abbrev Bz:WQ:=bb 84
abbrev vM:WQ:=bb 85
abbrev tS:WQ:=bb 86
set_option genInjectivity false in
set_option genSizeOfSpec false in
structure k9 where
 a_A:WA
 d_A:WJ
 a_B:WA
 d_B:WJ
 a_C:WA
 d_C:WJ
 a_D:WA
 d_D:WJ
 a_E:WA
 d_E:WJ
 a_F:WA
 d_F:WJ
 a_G:WA
 d_G:WJ
 a_H:WA
 d_H:WJ
 a_I:WA
 d_I:WJ
 a_J:WA
 d_J:WJ
 a_K:WA
 d_K:WJ
 a_L:WA
 d_L:WJ
 a_M:WA
 d_M:WJ
 a_N:WA
 d_N:WJ
 a_O:WA
 d_O:WJ
 a_P:WA
 d_P:WJ
 a_Q:WA
 d_Q:WJ
 a_R:WA
 d_R:WJ
 a_S:WA
 d_S:WJ
 a_T:WA
 d_T:WJ
 a_U:WA
 d_U:WJ
 a_V:WA
 d_V:WJ
 a_W:WA
 d_W:WJ
 a_X:WA
 d_X:WJ
 a_Y:WA
 d_Y:WJ
 a_Z:WA
 d_Z:WJ
 a_a:WA
 d_a:WJ
 a_b:WA
 d_b:WJ
 a_c:WA
 d_c:WJ
 a_d:WA
 d_d:WJ
 a_e:WA
 d_e:WJ
 a_f:WA
 d_f:WJ
 a_g:WA
 d_g:WJ
 a_h:WA
 d_h:WJ
 a_i:WA
 d_i:WJ
 a_j:WA
 d_j:WJ
 a_k:WA
 d_k:WJ
 a_l:WA
 d_l:WJ
 a_m:WA
 d_m:WJ
 a_n:WA
 d_n:WJ
 a_o:WA
 d_o:WJ
 a_p:WA
 d_p:WJ
 a_q:WA
 d_q:WJ
 a_r:WA
 d_r:WJ
 a_s:WA
 d_s:WJ
 a_t:WA
 d_t:WJ
 a_u:WA
 d_u:WJ
 a_v:WA
 d_v:WJ
 a_w:WA
 d_w:WJ
 a_x:WA
 d_x:WJ
 a_y:WA
 d_y:WJ
 a_z:WA
 d_z:WJ
 a_AA:WA
 d_AA:WJ
 a_AB:WA
 d_AB:WJ
 a_AC:WA
 d_AC:WJ
 a_AD:WA
 d_AD:WJ
 a_AE:WA
 d_AE:WJ
 a_AF:WA
 d_AF:WJ
 u_ArchiveError:WA
 u_LAST_WRITTEN:Wx
 u_MONTH_DAYS:Wx
 u_FIRST_YEAR:Wx
 u_ROUND_DAYS:Wx
 u_ROUND_YEARS:Wx
 u_LAST_YEAR:Wx
 u_FIGURES:Wx
 u_NoText:WA
 u_LONGEST_NAME:Wx
 u_LETTERS:Wx
 u_MOST_MANY:Wx
 u_UNITS:Wx
 u_MOST_MAKERS:Wx
 u_MANY_FIGURES:Wx
 u_GoneMaker:WA
 u_Held:WA
 u_MustStay:WA
 u_NoCall:WA
 u_NoDay:WA
 u_NoDeed:WA
 u_NoLeave:WA
 u_NoNumber:WA
 u_NoPaper:WA
 u_Twice:WA
structure Txt (K:Pt) (mg:Str->Option Wx) (t:k9):Prop where
 F_A:Mn K "__init__" "NoText.__init__" AV t.a_A t.d_A ["self","row"]
 F_B:Fn K mg "is_whole" AW t.a_B t.d_B ["thing"]
 F_C:Fn K mg "is_day" AX t.a_C t.d_C ["thing"]
 F_D:Fn K mg "is_leap" AY t.a_D t.d_D ["year"]
 F_E:Fn K mg "month_length" AZ t.a_E t.d_E ["year","month"]
 F_F:Fn K mg "leaps_before" A0 t.a_F t.d_F ["year"]
 F_G:Fn K mg "year_start" A1 t.a_G t.d_G ["year"]
 F_H:Fn K mg "year_of" A2 t.a_H t.d_H ["day"]
 F_I:Fn K mg "parts_of" A3 t.a_I t.d_I ["day"]
 F_J:Fn K mg "number_of" vA t.a_J t.d_J ["year","month","day"]
 F_K:Fn K mg "is_date" A4 t.a_K t.d_K ["year","month","day"]
 F_L:Fn K mg "show_day" A5 t.a_L t.d_L ["day"]
 F_M:Fn K mg "is_figures" vB t.a_M t.d_M ["text","length"]
 F_N:Fn K mg "read_day" A6 t.a_N t.d_N ["text"]
 F_O:Fn K mg "is_tuple_of" A7 t.a_O t.d_O ["thing","length"]
 F_P:Fn K mg "is_name" vC t.a_P t.d_P ["thing"]
 F_Q:Fn K mg "is_since" A8 t.a_Q t.d_Q ["thing"]
 F_R:Fn K mg "is_span" A9 t.a_R t.d_R ["many","unit"]
 F_S:Fn K mg "is_rule" Ba t.a_S t.d_S ["thing"]
 F_T:Fn K mg "is_makers" tQ t.a_T t.d_T ["thing"]
 F_U:Fn K mg "is_target" Bb t.a_U t.d_U ["thing"]
 F_V:Fn K mg "are_parts" Bc t.a_V t.d_V ["word","parts"]
 F_W:Fn K mg "is_deed" Bd t.a_W t.d_W ["thing"]
 F_X:Fn K mg "quarrel" Be t.a_X t.d_X ["one","other"]
 F_Y:Fn K mg "rule_words" Bf t.a_Y t.d_Y ["parts"]
 F_Z:Fn K mg "part_words" Bg t.a_Z t.d_Z ["word","parts"]
 F_a:Fn K mg "show_deed" Bh t.a_a t.d_a ["deed"]
 F_b:Fn K mg "show_deeds" vD t.a_b t.d_b ["deeds"]
 F_c:Fn K mg "number_in" Bi t.a_c t.d_c ["word","figures"]
 F_d:Fn K mg "day_in" Bj t.a_d t.d_d ["word"]
 F_e:Fn K mg "rule_in" Bk t.a_e t.d_e ["words"]
 F_f:Fn K mg "parts_in" Bl t.a_f t.d_f ["word","words"]
 F_g:Fn K mg "deed_in" Bm t.a_g t.d_g ["row"]
 F_h:Fn K mg "read_deeds" vE t.a_h t.d_h ["text"]
 F_i:Fn K mg "_law_mixed" Bn t.a_i t.d_i ["_law_cell"]
 F_j:Fn K mg "_law_pack" Bo t.a_j t.d_j ["_law_script","_law_k"]
 F_k:Fn K mg "_law_take" Bp t.a_k t.d_k ["_law_pack_here","_law_size"]
 F_l:Fn K mg "_law_names" tR t.a_l t.d_l ["_law_pack_here","_law_many"]
 F_m:Fn K mg "_law_rule" Bq t.a_m t.d_m ["_law_pack_here","_law_names_here"]
 F_n:Fn K mg "_law_length" Br t.a_n t.d_n ["_law_year","_law_month"]
 F_o:Fn K mg "_law_ahead" Bs t.a_o t.d_o ["_law_year"]
 F_p:Fn K mg "_law_day_text" Bt t.a_p t.d_p ["_law_day"]
 F_q:Fn K mg "_law_any_day" vF t.a_q t.d_q ["_law_pack_here"]
 F_r:Fn K mg "_law_drawn" vG t.a_r t.d_r ["_law_pack_here","_law_names_here"]
 F_s:Fn K mg "_law_written" Bu t.a_s t.d_s ["_law_deed"]
 F_t:Fn K mg "_law_same" vH t.a_t t.d_t ["_law_found","_law_due_here"]
 F_u:Fn K mg "_law_only" Bv t.a_u t.d_u ["_law_e"]
 F_v:Fn K mg "_law_figures" vI t.a_v t.d_v ["_law_word","_law_most"]
 F_w:Fn K mg "_law_name" vJ t.a_w t.d_w ["_law_word"]
 F_x:Fn K mg "_law_day_in" qA t.a_x t.d_x ["_law_word"]
 F_y:Fn K mg "_law_rule_in" Bw t.a_y t.d_y ["_law_words"]
 F_z:Fn K mg "_law_read" vK t.a_z t.d_z ["_law_text"]
 F_AA:Fn K mg "_law_due" Bx t.a_AA t.d_AA ["_law_one","_law_other"]
 F_AB:Fn K mg "_law_told" vL t.a_AB t.d_AB ["_law_text"]
 F_AC:Fn K mg "_law_right" By t.a_AC t.d_AC ["_law_thing","_law_due_here"]
 F_AD:Fn K mg "_law_odd_row" Bz t.a_AD t.d_AD ["_law_pack_here","_law_rows"]
 F_AE:Fn K mg "_law_spoilt" vM t.a_AE t.d_AE ["_law_pack_here","_law_rows"]
 F_AF:Fn K mg "law" tS t.a_AF t.d_AF ["_law_script"]
 bt_AF:∀(s:WB)(u:Wx),BindsTo s t.d_AF ⟨[u],[]⟩ [("_law_script",u)]
 c_ArchiveError:mg "ArchiveError"=some (.ref t.u_ArchiveError)
 c_LAST_WRITTEN:mg "LAST_WRITTEN"=some t.u_LAST_WRITTEN
 r_LAST_WRITTEN:aJ (.int 99999) t.u_LAST_WRITTEN
 c_MONTH_DAYS:mg "MONTH_DAYS"=some t.u_MONTH_DAYS
 e_MONTH_DAYS:∃a,t.u_MONTH_DAYS= .ref a/\∀H,aZ K H a [V.int 31,V.int 28,V.int 31,V.int 30,V.int 31,V.int 30,V.int 31,V.int 31,V.int 30,V.int 31,V.int 30,V.int 31]
 c_FIRST_YEAR:mg "FIRST_YEAR"=some t.u_FIRST_YEAR
 r_FIRST_YEAR:aJ (.int 2000) t.u_FIRST_YEAR
 c_ROUND_DAYS:mg "ROUND_DAYS"=some t.u_ROUND_DAYS
 r_ROUND_DAYS:aJ (.int 146097) t.u_ROUND_DAYS
 c_ROUND_YEARS:mg "ROUND_YEARS"=some t.u_ROUND_YEARS
 r_ROUND_YEARS:aJ (.int 400) t.u_ROUND_YEARS
 c_LAST_YEAR:mg "LAST_YEAR"=some t.u_LAST_YEAR
 r_LAST_YEAR:aJ (.int 9999) t.u_LAST_YEAR
 c_FIGURES:mg "FIGURES"=some t.u_FIGURES
 r_FIGURES:aJ (.str "0123456789") t.u_FIGURES
 c_NoText:mg "NoText"=some (.ref t.u_NoText)
 c_LONGEST_NAME:mg "LONGEST_NAME"=some t.u_LONGEST_NAME
 r_LONGEST_NAME:aJ (.int 8) t.u_LONGEST_NAME
 c_LETTERS:mg "LETTERS"=some t.u_LETTERS
 r_LETTERS:aJ (.str "abcdefghijklmnopqrstuvwxyz") t.u_LETTERS
 c_MOST_MANY:mg "MOST_MANY"=some t.u_MOST_MANY
 r_MOST_MANY:aJ (.int 999) t.u_MOST_MANY
 c_UNITS:mg "UNITS"=some t.u_UNITS
 e_UNITS:∃a,t.u_UNITS= .ref a/\∀H,aZ K H a [V.str "days",V.str "months",V.str "years"]
 c_MOST_MAKERS:mg "MOST_MAKERS"=some t.u_MOST_MAKERS
 r_MOST_MAKERS:aJ (.int 4) t.u_MOST_MAKERS
 c_MANY_FIGURES:mg "MANY_FIGURES"=some t.u_MANY_FIGURES
 r_MANY_FIGURES:aJ (.int 3) t.u_MANY_FIGURES
 c_GoneMaker:mg "GoneMaker"=some (.ref t.u_GoneMaker)
 c_Held:mg "Held"=some (.ref t.u_Held)
 c_MustStay:mg "MustStay"=some (.ref t.u_MustStay)
 c_NoCall:mg "NoCall"=some (.ref t.u_NoCall)
 c_NoDay:mg "NoDay"=some (.ref t.u_NoDay)
 c_NoDeed:mg "NoDeed"=some (.ref t.u_NoDeed)
 c_NoLeave:mg "NoLeave"=some (.ref t.u_NoLeave)
 c_NoNumber:mg "NoNumber"=some (.ref t.u_NoNumber)
 c_NoPaper:mg "NoPaper"=some (.ref t.u_NoPaper)
 c_Twice:mg "Twice"=some (.ref t.u_Twice)
 xm_NoText:L2.MkX K t.u_NoText t.a_A [.type "ValueError",.type "Exception",.type "BaseException",.type "object"] "ValueError.__new__"
 xsa:Rp K (.ref t.u_NoText) "__setattr__"=some (some (.builtin "object.__setattr__"))
 xrow:Rp K (.ref t.u_NoText) "row"=some none
 xsp:SX K (.ref t.u_ArchiveError) "__getattribute__"=some (some (.builtin "type.__getattribute__"))
 xrd:VR K t.u_ArchiveError (.type "type")=true
 xfc:VS K (.ref t.u_ArchiveError) (.type "type") "__init__"=some (.val (.builtin "ValueError.__init__"))
 xhd:Ui K t.u_NoText=true
 q_ArchiveError:TN K t.u_ArchiveError [.type "ValueError",.type "Exception",.type "BaseException",.type "object"] "ValueError.__new__"=true
 z1:Rp K (.ref t.u_NoText) "__getattribute__"=some (some (.builtin "BaseException.__getattribute__"))
 z2:Rp K (.ref t.u_NoText) "__getattr__"=some none
 z3:Rp K (.ref t.u_NoText) "__class__"=some (some (.builtin "object.__class__"))
 z4:SX K (.builtin "object.__class__") "__get__"=some (some (.builtin "getset_descriptor.__get__"))
 z5:UC K (.builtin "object.__class__")=some true
 z6:RS K t.u_NoText (.type "object")=some true
 z7:RS K t.u_NoText (.type "BaseException")=some true
 z8:VT K t.u_NoText=true
 i_NoText_ArchiveError:RS K t.u_NoText (.ref t.u_ArchiveError)=some true
 kv:SH K (.ref t.u_NoText) (.type "ValueError")=some true
 ka:S5 K (.ref t.u_NoText) [.ref t.u_GoneMaker,.ref t.u_Held,.ref t.u_MustStay,.ref t.u_NoCall,.ref t.u_NoDay]=some false
 kb:S5 K (.ref t.u_NoText) [.ref t.u_NoDeed,.ref t.u_NoLeave,.ref t.u_NoNumber,.ref t.u_NoPaper,.ref t.u_Twice]=some false
 i_NoText_NoText:RS K t.u_NoText (.ref t.u_NoText)=some true
 n_ValueError:mg "ValueError"=none
 n_all:mg "all"=none
 n_any:mg "any"=none
 n_bool:mg "bool"=none
 n_divmod:mg "divmod"=none
 n_enumerate:mg "enumerate"=none
 n_int:mg "int"=none
 n_isinstance:mg "isinstance"=none
 n_len:mg "len"=none
 n_list:mg "list"=none
 n_max:mg "max"=none
 n_min:mg "min"=none
 n_range:mg "range"=none
 n_set:mg "set"=none
 n_sorted:mg "sorted"=none
 n_str:mg "str"=none
 n_sum:mg "sum"=none
 n_tuple:mg "tuple"=none
 n_zip:mg "zip"=none
theorem Mo:aN ["self","row"] ["self","row"] (az AV):= .of
theorem Mp:aN ["thing"] ["thing"] (az AW):= .of
theorem Mq:aN ["thing"] ["thing"] (az AX):= .of
theorem Mr:aN ["year"] ["year"] (az AY):= .of
theorem Ms:aN ["year","month"] ["year","month"] (az AZ):= .of
theorem EX:aN ["year","past"] ["year"] (az A0):= .of
theorem Mt:aN ["year"] ["year"] (az A1):= .of
theorem EY:aN ["day","year"] ["day"] (az A2):= .of
theorem rL:aN ["day","year","left","month"] ["day"] (az A3):= .of
theorem EZ:aN ["year","month","day","before"] ["year","month","day"] (az vA):= .of
theorem Mu:aN ["year","month","day"] ["year","month","day"] (az A4):= .of
theorem tT:aN ["day","parts","year","month","number"] ["day"] (az A5):= .of
theorem Mv:aN ["text","length"] ["text","length"] (az vB):= .of
theorem tU:aN ["text","words","year","month","number"] ["text"] (az A6):= .of
theorem Mw:aN ["thing","length"] ["thing","length"] (az A7):= .of
theorem Mx:aN ["thing"] ["thing"] (az vC):= .of
theorem My:aN ["thing"] ["thing"] (az A8):= .of
theorem Mz:aN ["many","unit"] ["many","unit"] (az A9):= .of
theorem E1:aN ["thing","named"] ["thing"] (az Ba):= .of
theorem MA:aN ["thing"] ["thing"] (az tQ):= .of
theorem MB:aN ["thing"] ["thing"] (az Bb):= .of
theorem MC:aN ["word","parts"] ["word","parts"] (az Bc):= .of
theorem MD:aN ["thing"] ["thing"] (az Bd):= .of
theorem BA:aN ["one","other","word","words"] ["one","other"] (az Be):= .of
theorem ME:aN ["parts"] ["parts"] (az Bf):= .of
theorem MF:aN ["word","parts"] ["word","parts"] (az Bg):= .of
theorem MG:aN ["deed"] ["deed"] (az Bh):= .of
theorem MH:aN ["deeds"] ["deeds"] (az vD):= .of
theorem MI:aN ["word","figures"] ["word","figures"] (az Bi):= .of
theorem MJ:aN ["word"] ["word"] (az Bj):= .of
theorem MK:aN ["words"] ["words"] (az Bk):= .of
theorem ML:aN ["word","words"] ["word","words"] (az Bl):= .of
theorem BB:aN ["row","words","deed"] ["row"] (az Bm):= .of
theorem rM:aN ["text","deeds","rows","number","row","deed"] ["text"] (az vE):= .of
theorem MM:aN ["_law_cell"] ["_law_cell"] (az Bn):= .of
theorem MN:aN ["_law_script","_law_k"] ["_law_script","_law_k"] (az Bo):= .of
theorem E2:aN ["_law_pack_here","_law_size","_law_digit"] ["_law_pack_here","_law_size"] (az Bp):= .of
theorem oS:aN ["_law_pack_here","_law_many","_law_letters","_law_words","_law_turn","_law_size","_law_at","_law_stem","_law_first"] ["_law_pack_here","_law_many"] (az tR):= .of
theorem oT:aN ["_law_pack_here","_law_names_here","_law_word","_law_kind","_law_since","_law_way","_law_many"] ["_law_pack_here","_law_names_here"] (az Bq):= .of
theorem MO:aN ["_law_year","_law_month"] ["_law_year","_law_month"] (az Br):= .of
theorem E3:aN ["_law_year","_law_years"] ["_law_year"] (az Bs):= .of
theorem rN:aN ["_law_day","_law_year","_law_month","_law_number"] ["_law_day"] (az Bt):= .of
theorem tV:aN ["_law_pack_here","_law_way","_law_year","_law_month","_law_last"] ["_law_pack_here"] (az vF):= .of
theorem rO:aN ["_law_pack_here","_law_names_here","_law_word","_law_head","_law_other","_law_some","_law_target"] ["_law_pack_here","_law_names_here"] (az vG):= .of
theorem rP:aN ["_law_deed","_law_words"] ["_law_deed"] (az Bu):= .of
theorem MP:aN ["_law_found","_law_due_here"] ["_law_found","_law_due_here"] (az vH):= .of
theorem MQ:aN ["_law_e"] ["_law_e"] (az Bv):= .of
theorem MR:aN ["_law_word","_law_most"] ["_law_word","_law_most"] (az vI):= .of
theorem MS:aN ["_law_word"] ["_law_word"] (az vJ):= .of
theorem rQ:aN ["_law_word","_law_parts","_law_year","_law_month","_law_number","_law_day"] ["_law_word"] (az qA):= .of
theorem BC:aN ["_law_words","_law_since","_law_many"] ["_law_words"] (az Bw):= .of
theorem vN:aN ["_law_text","_law_words","_law_head","_law_more"] ["_law_text"] (az vK):= .of
theorem E4:aN ["_law_one","_law_other","_law_words"] ["_law_one","_law_other"] (az Bx):= .of
theorem tW:aN ["_law_text","_law_found","_law_number","_law_row","_law_deed"] ["_law_text"] (az vL):= .of
theorem tX:aN ["_law_thing","_law_due_here","_law_caught","_law_found","_law_e"] ["_law_thing","_law_due_here"] (az By):= .of
theorem vO:aN ["_law_pack_here","_law_rows","_law_some","_law_words"] ["_law_pack_here","_law_rows"] (az Bz):= .of
theorem BD:aN ["_law_pack_here","_law_rows","_law_at","_law_way"] ["_law_pack_here","_law_rows"] (az vM):= .of
theorem mN:aN ["_law_script","_law_thing","_law_deeds","_law_k","_law_pack_here","_law_deed","_law_rows","_law_turn","_law_some","_law_text"] ["_law_script"] (az tS):= .of
theorem E5{α:Type}{us:List α}(h:us.length=1):∃a,us=[a]:=List.length_eq_one_iff.mp h
theorem E6{α:Type}{us:List α}(h0:us.length=2):∃a b,us=[a,b]:=by
 cases us with
 | nil=>cases h0
 | cons a us=>
  obtain⟨b,z0⟩:=E5 (us:=us) (Wb h0);exact⟨a,b,by rw [z0]⟩
theorem MT{α:Type}{us:List α}(h0:us.length=3):∃a b c,us=[a,b,c]:=by
 cases us with
 | nil=>cases h0
 | cons a us=>
  obtain⟨b,c,z0⟩:=E6 (us:=us) (Wb h0);exact⟨a,b,c,by rw [z0]⟩
local macro_rules | `(tactic| walk_at "b")=>`(tactic| (intro _ _ _ _ _ _ us hl;first | (cases ls0 (us:=us) hl;rfl) | (obtain⟨a,e⟩:=E5 (us:=us) hl;subst e;rfl) | (obtain⟨a,b,e⟩:=E6 (us:=us) hl;subst e;rfl) | (obtain⟨a,b,c,e⟩:=MT (us:=us) hl;subst e;rfl)))
theorem txt_mk{K:Pt}{h:WL}{mg:Str->Option Wx}(X:K.In h)(G:h.Ns WK mg)
 {f0 f1 f2 f3 f4 f5 f6 f7 f8 f9 f10 f11 f12 f13 f14 f15 f16 f17 f18 f19 f20 f21 f22 f23 f24 f25 f26 f27 f28 f29 f30 f31 f32 f33 f34 f35 f36 f37 f38 f39 f40 f41 f42 f43 f44 f45 f46 f47 f48 f49 f50 f51 f52 f53 f54 f55 f56 f57:WA}{e0 e1 e2 e3 e4 e5 e6 e7 e8 e9 e10 e11 e12 e13 e14 e15 e16 e17 e18 e19 e20 e21 e22 e23 e24 e25 e26 e27 e28 e29 e30 e31 e32 e33 e34 e35 e36 e37 e38 e39 e40 e41 e42 e43 e44 e45 e46 e47 e48 e49 e50 e51 e52 e53 e54 e55 e56 e57:WJ}
 {u_ArchiveError u_NoText u_GoneMaker u_Held u_MustStay u_NoCall u_NoDay u_NoDeed u_NoLeave u_NoNumber u_NoPaper u_Twice:WA}
 {u_LAST_WRITTEN u_FIRST_YEAR u_ROUND_DAYS u_ROUND_YEARS u_LAST_YEAR u_FIGURES u_LONGEST_NAME u_LETTERS u_MOST_MANY u_MOST_MAKERS u_MANY_FIGURES:Wx}
 {A_MONTH_DAYS:WA}{dd_MONTH_DAYS:Option WA}{its_MONTH_DAYS:Array Wx}{n_MONTH_DAYS:Nat}{sl_MONTH_DAYS:Array (Option Wx)}
 {A_UNITS:WA}{dd_UNITS:Option WA}{its_UNITS:Array Wx}{n_UNITS:Nat}{sl_UNITS:Array (Option Wx)}
 (a0:DmT K u_NoText "__init__" "NoText.__init__" AV f0 e0)
 (a1:DfT K "is_whole" AW f1 e1)
 (a2:DfT K "is_day" AX f2 e2)
 (a3:DfT K "is_leap" AY f3 e3)
 (a4:DfT K "month_length" AZ f4 e4)
 (a5:DfT K "leaps_before" A0 f5 e5)
 (a6:DfT K "year_start" A1 f6 e6)
 (a7:DfT K "year_of" A2 f7 e7)
 (a8:DfT K "parts_of" A3 f8 e8)
 (a9:DfT K "number_of" vA f9 e9)
 (a10:DfT K "is_date" A4 f10 e10)
 (a11:DfT K "show_day" A5 f11 e11)
 (a12:DfT K "is_figures" vB f12 e12)
 (a13:DfT K "read_day" A6 f13 e13)
 (a14:DfT K "is_tuple_of" A7 f14 e14)
 (a15:DfT K "is_name" vC f15 e15)
 (a16:DfT K "is_since" A8 f16 e16)
 (a17:DfT K "is_span" A9 f17 e17)
 (a18:DfT K "is_rule" Ba f18 e18)
 (a19:DfT K "is_makers" tQ f19 e19)
 (a20:DfT K "is_target" Bb f20 e20)
 (a21:DfT K "are_parts" Bc f21 e21)
 (a22:DfT K "is_deed" Bd f22 e22)
 (a23:DfT K "quarrel" Be f23 e23)
 (a24:DfT K "rule_words" Bf f24 e24)
 (a25:DfT K "part_words" Bg f25 e25)
 (a26:DfT K "show_deed" Bh f26 e26)
 (a27:DfT K "show_deeds" vD f27 e27)
 (a28:DfT K "number_in" Bi f28 e28)
 (a29:DfT K "day_in" Bj f29 e29)
 (a30:DfT K "rule_in" Bk f30 e30)
 (a31:DfT K "parts_in" Bl f31 e31)
 (a32:DfT K "deed_in" Bm f32 e32)
 (a33:DfT K "read_deeds" vE f33 e33)
 (a34:DfT K "_law_mixed" Bn f34 e34)
 (a35:DfT K "_law_pack" Bo f35 e35)
 (a36:DfT K "_law_take" Bp f36 e36)
 (a37:DfT K "_law_names" tR f37 e37)
 (a38:DfT K "_law_rule" Bq f38 e38)
 (a39:DfT K "_law_length" Br f39 e39)
 (a40:DfT K "_law_ahead" Bs f40 e40)
 (a41:DfT K "_law_day_text" Bt f41 e41)
 (a42:DfT K "_law_any_day" vF f42 e42)
 (a43:DfT K "_law_drawn" vG f43 e43)
 (a44:DfT K "_law_written" Bu f44 e44)
 (a45:DfT K "_law_same" vH f45 e45)
 (a46:DfT K "_law_only" Bv f46 e46)
 (a47:DfT K "_law_figures" vI f47 e47)
 (a48:DfT K "_law_name" vJ f48 e48)
 (a49:DfT K "_law_day_in" qA f49 e49)
 (a50:DfT K "_law_rule_in" Bw f50 e50)
 (a51:DfT K "_law_read" vK f51 e51)
 (a52:DfT K "_law_due" Bx f52 e52)
 (a53:DfT K "_law_told" vL f53 e53)
 (a54:DfT K "_law_right" By f54 e54)
 (a55:DfT K "_law_odd_row" Bz f55 e55)
 (a56:DfT K "_law_spoilt" vM f56 e56)
 (a57:DfT K "law" tS f57 e57)
 (x_ArchiveError:Qn K WK "ArchiveError"=some (some (.ref u_ArchiveError)))
 (x_LAST_WRITTEN:Qn K WK "LAST_WRITTEN"=some (some u_LAST_WRITTEN))(r_LAST_WRITTEN:aJ (.int 99999) u_LAST_WRITTEN)
 (x_MONTH_DAYS:Qn K WK "MONTH_DAYS"=some (some (.ref A_MONTH_DAYS)))(y_MONTH_DAYS:K.lookup A_MONTH_DAYS=some ⟨.type "tuple",dd_MONTH_DAYS,.seq its_MONTH_DAYS n_MONTH_DAYS,sl_MONTH_DAYS⟩)(z_MONTH_DAYS:aM [V.int 31,V.int 28,V.int 31,V.int 30,V.int 31,V.int 30,V.int 31,V.int 31,V.int 30,V.int 31,V.int 30,V.int 31] its_MONTH_DAYS.toList)(w_MONTH_DAYS:its_MONTH_DAYS.size<=WG)
 (x_FIRST_YEAR:Qn K WK "FIRST_YEAR"=some (some u_FIRST_YEAR))(r_FIRST_YEAR:aJ (.int 2000) u_FIRST_YEAR)
 (x_ROUND_DAYS:Qn K WK "ROUND_DAYS"=some (some u_ROUND_DAYS))(r_ROUND_DAYS:aJ (.int 146097) u_ROUND_DAYS)
 (x_ROUND_YEARS:Qn K WK "ROUND_YEARS"=some (some u_ROUND_YEARS))(r_ROUND_YEARS:aJ (.int 400) u_ROUND_YEARS)
 (x_LAST_YEAR:Qn K WK "LAST_YEAR"=some (some u_LAST_YEAR))(r_LAST_YEAR:aJ (.int 9999) u_LAST_YEAR)
 (x_FIGURES:Qn K WK "FIGURES"=some (some u_FIGURES))(r_FIGURES:aJ (.str "0123456789") u_FIGURES)
 (x_NoText:Qn K WK "NoText"=some (some (.ref u_NoText)))
 (x_LONGEST_NAME:Qn K WK "LONGEST_NAME"=some (some u_LONGEST_NAME))(r_LONGEST_NAME:aJ (.int 8) u_LONGEST_NAME)
 (x_LETTERS:Qn K WK "LETTERS"=some (some u_LETTERS))(r_LETTERS:aJ (.str "abcdefghijklmnopqrstuvwxyz") u_LETTERS)
 (x_MOST_MANY:Qn K WK "MOST_MANY"=some (some u_MOST_MANY))(r_MOST_MANY:aJ (.int 999) u_MOST_MANY)
 (x_UNITS:Qn K WK "UNITS"=some (some (.ref A_UNITS)))(y_UNITS:K.lookup A_UNITS=some ⟨.type "tuple",dd_UNITS,.seq its_UNITS n_UNITS,sl_UNITS⟩)(z_UNITS:aM [V.str "days",V.str "months",V.str "years"] its_UNITS.toList)(w_UNITS:its_UNITS.size<=WG)
 (x_MOST_MAKERS:Qn K WK "MOST_MAKERS"=some (some u_MOST_MAKERS))(r_MOST_MAKERS:aJ (.int 4) u_MOST_MAKERS)
 (x_MANY_FIGURES:Qn K WK "MANY_FIGURES"=some (some u_MANY_FIGURES))(r_MANY_FIGURES:aJ (.int 3) u_MANY_FIGURES)
 (x_GoneMaker:Qn K WK "GoneMaker"=some (some (.ref u_GoneMaker)))
 (x_Held:Qn K WK "Held"=some (some (.ref u_Held)))
 (x_MustStay:Qn K WK "MustStay"=some (some (.ref u_MustStay)))
 (x_NoCall:Qn K WK "NoCall"=some (some (.ref u_NoCall)))
 (x_NoDay:Qn K WK "NoDay"=some (some (.ref u_NoDay)))
 (x_NoDeed:Qn K WK "NoDeed"=some (some (.ref u_NoDeed)))
 (x_NoLeave:Qn K WK "NoLeave"=some (some (.ref u_NoLeave)))
 (x_NoNumber:Qn K WK "NoNumber"=some (some (.ref u_NoNumber)))
 (x_NoPaper:Qn K WK "NoPaper"=some (some (.ref u_NoPaper)))
 (x_Twice:Qn K WK "Twice"=some (some (.ref u_Twice)))
 (f_xm_NoText:L2.MkX K u_NoText f0 [.type "ValueError",.type "Exception",.type "BaseException",.type "object"] "ValueError.__new__")
 (f_xsa:Rp K (.ref u_NoText) "__setattr__"=some (some (.builtin "object.__setattr__")))
 (f_xrow:Rp K (.ref u_NoText) "row"=some none)
 (f_xsp:SX K (.ref u_ArchiveError) "__getattribute__"=some (some (.builtin "type.__getattribute__")))
 (f_xrd:VR K u_ArchiveError (.type "type")=true)
 (f_xfc:VS K (.ref u_ArchiveError) (.type "type") "__init__"=some (.val (.builtin "ValueError.__init__")))
 (f_xhd:Ui K u_NoText=true)
 (f_q_ArchiveError:TN K u_ArchiveError [.type "ValueError",.type "Exception",.type "BaseException",.type "object"] "ValueError.__new__"=true)
 (f_z1:Rp K (.ref u_NoText) "__getattribute__"=some (some (.builtin "BaseException.__getattribute__")))
 (f_z2:Rp K (.ref u_NoText) "__getattr__"=some none)
 (f_z3:Rp K (.ref u_NoText) "__class__"=some (some (.builtin "object.__class__")))
 (f_z4:SX K (.builtin "object.__class__") "__get__"=some (some (.builtin "getset_descriptor.__get__")))
 (f_z5:UC K (.builtin "object.__class__")=some true)
 (f_z6:RS K u_NoText (.type "object")=some true)
 (f_z7:RS K u_NoText (.type "BaseException")=some true)
 (f_z8:VT K u_NoText=true)
 (f_i_NoText_ArchiveError:RS K u_NoText (.ref u_ArchiveError)=some true)
 (f_kv:SH K (.ref u_NoText) (.type "ValueError")=some true)
 (f_ka:S5 K (.ref u_NoText) [.ref u_GoneMaker,.ref u_Held,.ref u_MustStay,.ref u_NoCall,.ref u_NoDay]=some false)
 (f_kb:S5 K (.ref u_NoText) [.ref u_NoDeed,.ref u_NoLeave,.ref u_NoNumber,.ref u_NoPaper,.ref u_Twice]=some false)
 (f_i_NoText_NoText:RS K u_NoText (.ref u_NoText)=some true)
 (n_ValueError:Qn K WK "ValueError"=some none)
 (n_all:Qn K WK "all"=some none)
 (n_any:Qn K WK "any"=some none)
 (n_bool:Qn K WK "bool"=some none)
 (n_divmod:Qn K WK "divmod"=some none)
 (n_enumerate:Qn K WK "enumerate"=some none)
 (n_int:Qn K WK "int"=some none)
 (n_isinstance:Qn K WK "isinstance"=some none)
 (n_len:Qn K WK "len"=some none)
 (n_list:Qn K WK "list"=some none)
 (n_max:Qn K WK "max"=some none)
 (n_min:Qn K WK "min"=some none)
 (n_range:Qn K WK "range"=some none)
 (n_set:Qn K WK "set"=some none)
 (n_sorted:Qn K WK "sorted"=some none)
 (n_str:Qn K WK "str"=some none)
 (n_sum:Qn K WK "sum"=some none)
 (n_tuple:Qn K WK "tuple"=some none)
 (n_zip:Qn K WK "zip"=some none):∃t:k9,Txt K mg t:=by
 refine⟨⟨f0,e0,f1,e1,f2,e2,f3,e3,f4,e4,f5,e5,f6,e6,f7,e7,f8,e8,f9,e9,f10,e10,f11,e11,f12,e12,f13,e13,f14,e14,f15,e15,f16,e16,f17,e17,f18,e18,f19,e19,f20,e20,f21,e21,f22,e22,f23,e23,f24,e24,f25,e25,f26,e26,f27,e27,f28,e28,f29,e29,f30,e30,f31,e31,f32,e32,f33,e33,f34,e34,f35,e35,f36,e36,f37,e37,f38,e38,f39,e39,f40,e40,f41,e41,f42,e42,f43,e43,f44,e44,f45,e45,f46,e46,f47,e47,f48,e48,f49,e49,f50,e50,f51,e51,f52,e52,f53,e53,f54,e54,f55,e55,f56,e56,f57,e57,u_ArchiveError,u_LAST_WRITTEN,.ref A_MONTH_DAYS,u_FIRST_YEAR,u_ROUND_DAYS,u_ROUND_YEARS,u_LAST_YEAR,u_FIGURES,u_NoText,u_LONGEST_NAME,u_LETTERS,u_MOST_MANY,.ref A_UNITS,u_MOST_MAKERS,u_MANY_FIGURES,u_GoneMaker,u_Held,u_MustStay,u_NoCall,u_NoDay,u_NoDeed,u_NoLeave,u_NoNumber,u_NoPaper,u_Twice⟩,?_⟩;have bl:∀(s:WB)(u:Wx),BindsTo s e57 ⟨[u],[]⟩ [("_law_script",u)]:=λs v=>by
  obtain⟨oc,od,kV,doc,pm,an,cdv,ct,osl,rfl,_⟩:=a57.F.ex;exact .of_eq rfl
 exact⟨a0.fn,a1.fn X G,a2.fn X G,a3.fn X G,a4.fn X G,a5.fn X G,a6.fn X G,a7.fn X G,a8.fn X G,a9.fn X G,a10.fn X G,a11.fn X G,a12.fn X G,a13.fn X G,a14.fn X G,a15.fn X G,a16.fn X G,a17.fn X G,a18.fn X G,a19.fn X G,a20.fn X G,a21.fn X G,a22.fn X G,a23.fn X G,a24.fn X G,a25.fn X G,a26.fn X G,a27.fn X G,a28.fn X G,a29.fn X G,a30.fn X G,a31.fn X G,a32.fn X G,a33.fn X G,a34.fn X G,a35.fn X G,a36.fn X G,a37.fn X G,a38.fn X G,a39.fn X G,a40.fn X G,a41.fn X G,a42.fn X G,a43.fn X G,a44.fn X G,a45.fn X G,a46.fn X G,a47.fn X G,a48.fn X G,a49.fn X G,a50.fn X G,a51.fn X G,a52.fn X G,a53.fn X G,a54.fn X G,a55.fn X G,a56.fn X G,a57.fn X G,bl,Q7 X G x_ArchiveError,Q7 X G x_LAST_WRITTEN,r_LAST_WRITTEN,Q7 X G x_MONTH_DAYS,⟨A_MONTH_DAYS,rfl,λH=>.inr ⟨_,_,_,y_MONTH_DAYS,rfl,rfl,w_MONTH_DAYS,z_MONTH_DAYS⟩⟩,Q7 X G x_FIRST_YEAR,r_FIRST_YEAR,Q7 X G x_ROUND_DAYS,r_ROUND_DAYS,Q7 X G x_ROUND_YEARS,r_ROUND_YEARS,Q7 X G x_LAST_YEAR,r_LAST_YEAR,Q7 X G x_FIGURES,r_FIGURES,Q7 X G x_NoText,Q7 X G x_LONGEST_NAME,r_LONGEST_NAME,Q7 X G x_LETTERS,r_LETTERS,Q7 X G x_MOST_MANY,r_MOST_MANY,Q7 X G x_UNITS,⟨A_UNITS,rfl,λH=>.inr ⟨_,_,_,y_UNITS,rfl,rfl,w_UNITS,z_UNITS⟩⟩,Q7 X G x_MOST_MAKERS,r_MOST_MAKERS,Q7 X G x_MANY_FIGURES,r_MANY_FIGURES,Q7 X G x_GoneMaker,Q7 X G x_Held,Q7 X G x_MustStay,Q7 X G x_NoCall,Q7 X G x_NoDay,Q7 X G x_NoDeed,Q7 X G x_NoLeave,Q7 X G x_NoNumber,Q7 X G x_NoPaper,Q7 X G x_Twice,f_xm_NoText,f_xsa,f_xrow,f_xsp,f_xrd,f_xfc,f_xhd,f_q_ArchiveError,f_z1,f_z2,f_z3,f_z4,f_z5,f_z6,f_z7,f_z8,f_i_NoText_ArchiveError,f_kv,f_ka,f_kb,f_i_NoText_NoText,Q3 X G n_ValueError,Q3 X G n_all,Q3 X G n_any,Q3 X G n_bool,Q3 X G n_divmod,Q3 X G n_enumerate,Q3 X G n_int,Q3 X G n_isinstance,Q3 X G n_len,Q3 X G n_list,Q3 X G n_max,Q3 X G n_min,Q3 X G n_range,Q3 X G n_set,Q3 X G n_sorted,Q3 X G n_str,Q3 X G n_sum,Q3 X G n_tuple,Q3 X G n_zip⟩
local macro_rules | `(tactic| walk_at "o")=>`(tactic| first | exact Ut rfl | exact TJ rfl)
theorem Wu{p:Prop}(h:p:=by walk_at "o"):p:=h
local macro_rules | `(tactic| walk_at "a") =>do let a <- rzT "bU Py Qf Px P5 QD QE PK Qa P6"; let b <- rzT rzS; `(tactic| ((try $a:tactic); $b:tactic))
section
variable {P:WM} {w:WO} {K:Pt} {mg:Str->Option Wx} {base:WL} {t:k9}
theorem E7(T:Txt K mg t):aF P w K mg base CX0 1 t.a_A t.d_A ["self","row"] (AU t.u_NoText "row"):=by
 refine T.F_A.F.okNX Mo rfl rfl (λcdv A outer s H E hr=>?_);refine kR (Ma (C:=t.u_NoText) T.c_ArchiveError rfl T.xsp T.xrd T.xfc rfl RD T.xm_NoText.seen (aQ (pW (i:=0) rfl ?a) (aQ (Mh ?b (pW (i:=1) rfl ?c)) bM))) (kA (Mb (C:=t.u_NoText) (pW (i:=0) rfl ?d) (pW (i:=1) rfl ?e) PySem.F.store_ValueError T.xm_NoText.seen T.xsa T.xrow))
 case b=>decide+kernel
 all_goals (first | exact Ut rfl | exact TJ rfl)
end
local macro_rules | `(tactic| walk_at "c") =>rzT "um wI wL wK wJ qP ni oh tC p4 wY rI mR rU xK xM Ly Lz LA LB LC uy tB wu wz wA wD wF wG wH sQ sP uB sR xP xQ sF qN sE wN wO CL CM CN CO CP CQ CS CT bZ cC b0 L2.start Py Qf Px P5 PK Qa P6 PY QD QE QP QK QQ PR PL P8 P9 P0 exists_eq_left' exists_eq_left exists_and_left exists_and_right V.int.injEq V.bl.injEq V.str.injEq V.ref.injEq PJ and_true true_and QR exists_const decide_eq_true_eq QS QU QH QI P4 decide_eq_false_iff_not and_assoc bF Ql Qc Qm L2.cxK L2.cmK or_true true_or"
open Day
theorem E8:bR (az vA) ["year","month","day","before"] ["other","year"] 1 [0] ⟨Qo,[ (Pw ".0",Yr),(Pw "other",Yr),(Pw "month_length",Qw),(Pw "year",Rh)],false,false,[]⟩:= .of
section
variable {P:WM} {w:WO} {K:Pt} {mg:Str->Option Wx} {base:WL} {t:k9}
def E9:Sp:=λvs H Q _=>∃(y:Int),vs=[.int y]/\Q (.bl (nH y)) H
theorem MU(T:Txt K mg t):aF P w K mg base CX0 1 t.a_D t.d_D ["year"] E9:=by
 refine T.F_D.F.ok Mr (λvs H Q E h=>?_) (λcdv A outer s H vs Q E hr h=>?_)
 ·obtain⟨y,rfl,_⟩:=h;rfl
 ·obtain⟨y,rfl,k⟩:=h;refine⟨_,(kA (kS (G7 (p5 uw (cw om (pv 0) cZ) cZ (av _)) (sr (sA (p5 uw (cw om (pv 0) cZ) cZ (av _)) (sr (p5 Hn (cw om (pv 0) cZ) cZ (av _)))))))),?_⟩;walk_at "c";have e:nH y=(decide (y % 400=0) || (decide (y % 4=0) && !decide (y % 100=0))):=rfl;rw [e] at k;by_cases h1:y % 400=0
  ·simpa [h1] using k
  ·by_cases h2:y % 4=0
   ·simpa [h1,h2] using k
   ·simpa [h1,h2] using k
def Fb:Sp:=λvs H Q _=>∃(y m:Int),vs=[.int y,.int m]/\1<=m/\m<=12/\Q (.int (bj y m)) H
theorem BE(T:Txt K mg t):aF P w K mg base CX0 2 t.a_E t.d_E ["year","month"] Fb:=by
 have G_D:=@MU P w _ _ base _ T;refine T.F_E.F.ok Ms (λvs H Q E h=>?_) (λcdv A outer s H vs Q E hr h=>?_)
 ·obtain⟨y,m,rfl,_⟩:=h;rfl
 ·obtain⟨y,m,rfl,h1,h2,k⟩:=h;obtain⟨a,ea,hM⟩:=T.e_MONTH_DAYS;have T_r:aJ (.ref a) t.u_MONTH_DAYS:=ea;refine⟨_,(kR (oZ (PW.pt (B0 (p6 uw (pv 1) cZ (av _)) (BY (qM (lO G_D (hr.mono tx) rfl T.F_D (aQ (pv 0) bM)))))) (kA (kS cZ)) oY)
   (kA (kS (qf aI (kn rfl T.c_MONTH_DAYS T_r) (cw lh (pv 1) cZ) (λ_ _=>rfl))))),?_⟩
  walk_at "c";simp only [E9];walk_at "c";have fin:∀{v:Int},v=bj y m->Q (.int v) H:=λe=>by rw [e];exact k
  have tail:bj y m=AD.getD (m - 1).toNat 0->uD K (.ref a) (.int (m - 1)) H Q:=λe=>by
   refine⟨a,_,m - 1,.int (bj y m),rfl,rfl,hM H,?_,k⟩;rw [e];rcases AG h1 h2 with z | z | z | z | z | z | z | z | z | z | z | z <;> subst z <;> rfl
  by_cases hm:m=2
  ·rw [Wt hm];by_cases hl:nH y=true
   ·rw [Wt hl];exact fin (by unfold bj;rw [Wt ⟨hm,hl⟩])
   ·rw [Ws hl];exact tail (by unfold bj;rw [Ws (λz=>hl z.2)])
  ·rw [Ws hm];exact tail (Ey hm)
def Fc:Sp:=λvs H Q _=>∃(y:Int),vs=[.int y]/\Q (.int (lb y)) H
theorem MV(T:Txt K mg t):aF P w K mg base CX0 1 t.a_F t.d_F ["year"] Fc:=by
 refine T.F_F.F.ok EX (λvs H Q E h=>?_) (λcdv A outer s H vs Q E hr h=>?_)
 ·obtain⟨y,rfl,_⟩:=h;rfl
 ·obtain⟨y,rfl,k⟩:=h;refine⟨_,(kR (mz (i:=1) EX.nd rfl Wu (cw lh (pv 0) cZ))
   (kA (kS (cw cD (cw lh (cw oj (pv 1) cZ) (cw oj (pv 1) cZ)) (cw oj (pv 1) cZ))))),?_⟩
  walk_at "c";exact k
def vP:Sp:=λvs H Q _=>∃(y:Int),vs=[.int y]/\Q (.int (bu y)) H
theorem BF(T:Txt K mg t):aF P w K mg base CX0 2 t.a_G t.d_G ["year"] vP:=by
 have G_F:=@MV P w _ _ base _ T;refine T.F_G.F.ok Mt (λvs H Q E h=>?_) (λcdv A outer s H vs Q E hr h=>?_)
 ·obtain⟨y,rfl,_⟩:=h;rfl
 ·obtain⟨y,rfl,k⟩:=h;refine⟨_,(kA (kS (cw lh (cw cD (cw qQ cZ (cw lh (pv 0) (kn rfl T.c_FIRST_YEAR T.r_FIRST_YEAR))) (lO G_F (hr.mono tx) rfl T.F_F (aQ (pv 0) bM))) (lO G_F (hr.mono tx) rfl T.F_F (aQ (kn rfl T.c_FIRST_YEAR T.r_FIRST_YEAR) bM))))),?_⟩;walk_at "c";simp only [Fc];walk_at "c";exact k
def Fd:Sp:=λvs H Q _=>∃(d:Int),vs=[.int d]/\Q (.int (qx d)) H
theorem MW(T:Txt K mg t):aF P w K mg base CX0 3 t.a_H t.d_H ["day"] Fd:=by
 have G_G:=@BF P w _ _ base _ T;refine T.F_H.F.ok EY (λvs H Q E h=>?_) (λcdv A outer s H vs Q E hr h=>?_)
 ·obtain⟨d,rfl,_⟩:=h;rfl
 ·obtain⟨d,rfl,k⟩:=h;refine⟨_,(kR (mz (i:=1) EY.nd rfl Wu (cw cD (kn rfl T.c_FIRST_YEAR T.r_FIRST_YEAR) (cw oj (cw qQ (pv 0) (kn rfl T.c_ROUND_YEARS T.r_ROUND_YEARS)) (kn rfl T.c_ROUND_DAYS T.r_ROUND_DAYS))))
   (kR (oZ (p6 pe (lO G_G (hr.mono tx) rfl T.F_G (aQ (pv 1) bM)) (pv 0) (av _)) (kA (kS (cw lh (pv 1) cZ))) oY)
   (kR (oZ (p6 ko (lO G_G (hr.mono tx) rfl T.F_G (aQ (cw cD (pv 1) cZ) bM)) (pv 0) (av _)) (kA (kS (cw cD (pv 1) cZ))) oY)
   (kA (kS (pv 1)))))),?_⟩
  walk_at "c";simp only [vP];walk_at "c";unfold qx at k;split
  ·rename_i h;rw [Wt h] at k;exact k
  ·rename_i h;rw [Ws h] at k;split
   ·rename_i h;rw [Wt h] at k;exact k
   ·rename_i h;rw [Ws h] at k;exact k
def MX:Sp:=λvs H Q _=>∃(d:Int),vs=[.int d]/\∀(p:WA)(H':Hp)(y m n:Int),lI d y m n->aq H H'->H p=none->H' p=some (.tup [.int y,.int m,.int n])->Q (.ref p) H'
theorem MY(T:Txt K mg t):aF P w K mg base CX0 4 t.a_I t.d_I ["day"] MX:=by
 have G_H:=@MW P w _ _ base _ T;have G_G:=@BF P w _ _ base _ T;have G_E:=@BE P w _ _ base _ T;refine T.F_I.F.ok rL (λvs H Q E h=>?_) (λcdv A outer s H vs Q E hr h=>?_)
 ·obtain⟨d,rfl,_⟩:=h;rfl
 ·obtain⟨d,rfl,k⟩:=h;refine⟨_,(kR (mz (i:=1) rL.nd rfl Wu (lO G_H (hr.mono tx) rfl T.F_H (aQ (pv 0) bM)))
   (kR (mz (i:=2) rL.nd rfl Wu (cw lh (pv 0) (lO G_G (hr.mono tx) rfl T.F_G (aQ (pv 1) bM))))
   (kR (mz (i:=3) rL.nd rfl Wu cZ)
   (kR (B4 RP (p6 Ho (pv 2) (lO G_E (hr.mono tx) rfl T.F_E (aQ (pv 1) (aQ (pv 3) bM))) (av _)) (kR (mz (i:=2) rL.nd rfl Wu (cw lh (pv 2) (lO G_E (hr.mono tx) rfl T.F_E (aQ (pv 1) (aQ (pv 3) bM)))))
   (kA (mz (i:=3) rL.nd rfl Wu (cw cD (pv 3) cZ)))))
   (kA (kS (uC (aQ (pv 1) (aQ (pv 3) (aQ (cw cD (pv 2) cZ) bM)))))))))),?_⟩
  walk_at "c";simp only [Fd];walk_at "c";simp only [vP];walk_at "c";have yo:=EB d;generalize qx d=y at*;refine⟨λm σ H'=>H'=H/\∃mo:Int,1<=mo/\mo<=12/\aL y mo<=d - bu y/\m=(12 - mo).toNat/\σ=[some (.int d),some (.int y),some (.int (d - bu y - aL y mo)),some (.int mo)],⟨11,rfl,1,tx,tx,?_,rfl,?_⟩,?_⟩
  ·rw [rD];omega
  ·rw [rD];simp
  ·rintro m σ H' ⟨rfl,mo,h1,h2,hb,rfl,rfl⟩;walk_at "c";simp only [Fb];walk_at "c";refine⟨h1,h2,?_⟩;have ys:=vg y;have ba:=vj (y:=y) h1 h2;split
   ·rename_i hge;have lt12:mo < 12:=by
     by_cases z:mo < 12
     ·exact z
     ·have e:mo=12:=Ce
      subst e;have:=(tP y);have:=vi y;omega
    refine⟨_,λ_ _ h=>h,h1,h2,(12 - (mo+1)).toNat,Ce,rfl,mo+1,Ce,Ce,?_,rfl,?_⟩
    ·rw [lC h1];omega
    ·rw [lC h1,show d - bu y - (aL y mo+bj y mo)=d - bu y - aL y mo - bj y mo by omega]
   ·rename_i hlt;refine⟨by show 3<=WG;decide,λp hp=>?_⟩;refine k p _ y mo (d - bu y - aL y mo+1) ⟨h1,h2,Ce,Ce,by unfold lW;omega⟩ (aq.new hp) hp bx
def MZ:Sp:=λvs H Q _=>∃(y m n:Int),vs=[.int y,.int m,.int n]/\1<=m/\m<=12/\∀H',aq H H'->Q (.int (lW y m n)) H'
theorem M0(T:Txt K mg t):aF P w K mg base CX0 3 t.a_J t.d_J ["year","month","day"] MZ:=by
 have G_G:=@BF P w _ _ base _ T;have G_E:=@BE P w _ _ base _ T;refine T.F_J.F.ok EZ (λvs H Q E h=>?_) (λcdv A outer s H vs Q E hr h=>?_)
 ·obtain⟨y,m,n,rfl,_⟩:=h;rfl
 ·obtain⟨y,m,n,rfl,h1,h2,k⟩:=h;refine⟨_,(kR (mz (i:=3) EZ.nd rfl Wu (aR (y4 rfl) rfl T.n_sum TU (aQ (qg rfl E8 (B9 rfl T.n_range (aQ cZ (aQ (pv 1) bM))) (λ_ _ _ _=>(bP (i:=0) E8.nd rfl Wu)) (λ_ _ _ _=>CJ) (λ_ _ _ _=>(lO G_E (hr.mono tx) rfl T.F_E (aQ (pv 1) (aQ (pv 0) bM))))) bM)))
   (kA (kS (cw lh (cw cD (cw cD (lO G_G (hr.mono tx) rfl T.F_G (aQ (pv 0) bM)) (pv 3)) (pv 2)) cZ)))),?_⟩
  walk_at "c";refine⟨Ce,Ce,?_⟩;refine IK (λi=>.int (bj y (1+(i:Int)))) Ce (λi H' R hi s1 hR=>?_) (λD H' hD s1 e1=>?_)
  ·walk_at "c";exact⟨_,_,rfl,Ce,Ce,hR H' (aq.refl _)⟩
  ·refine⟨D,rfl,(Rz (m - 1).toNat).map λ(i:Nat)=>bj y (1+(i:Int)),bg.of (by rw [e1,Rb];rfl),?_⟩;simp only [vP];walk_at "c";exact k H' s1
def Fe:List Ww->(Ww->Prop)->Prop:=λds Q=>∃y m:Int,ds=[.int y,.int m]/\1<=m/\m<=12/\Q (.int (bj y m))
theorem M1(T:Txt K mg t):aF P w K mg base CX0 2 t.a_E t.d_E ["year","month"] (bh K Fe):=
 (BE T).imp λvs H Q E uu53=>by
  obtain⟨O,ds,Qd,tr,hs,⟨y,m,e,h1,h2,q⟩,k⟩:=uu53;subst e;cases hs with
  | cons a r=>cases r with
   | cons b r=>cases r;cases a;cases b;exact⟨y,m,rfl,h1,h2,k _ _ H q (aq.refl _) (.int _)⟩
def Ff:List Ww->(Ww->Prop)->Prop:=λds Q=>∃d:Int,ds=[.int d]/\∀y m n,lI d y m n->Q (.tuple [.int y,.int m,.int n])
theorem M3(T:Txt K mg t):aF P w K mg base CX0 4 t.a_I t.d_I ["day"] (bh K Ff):=
 (MY T).imp λvs H Q E uu54=>by
  obtain⟨O,ds,Qd,tr,hs,⟨d,e,q⟩,k⟩:=uu54;subst e;cases hs with
  | cons a r=>cases r;cases a;exact⟨d,rfl,λp H' y m n D s1 hp e1=>k _ _ H' (q y m n D) s1 (.tup (.inl e1) (λz=>tr p z hp) (.cons (.int _) (.cons (.int _) (.cons (.int _) .nil))))⟩
def Fg:List Ww->(Ww->Prop)->Prop:=λds Q=>∃y m n:Int,ds=[.int y,.int m,.int n]/\1<=m/\m<=12/\Q (.int (lW y m n))
theorem M4(T:Txt K mg t):aF P w K mg base CX0 3 t.a_J t.d_J ["year","month","day"] (bh K Fg):=
 (M0 T).imp λvs H Q E uu55=>by
  obtain⟨O,ds,Qd,tr,hs,⟨y,m,n,e,h1,h2,q⟩,k⟩:=uu55;subst e;cases hs with
  | cons a r=>cases r with
   | cons b r=>cases r with
    | cons c r=>cases r;cases a;cases b;cases c;exact⟨y,m,n,rfl,h1,h2,λH' s1=>k _ _ H' q s1 (.int _)⟩
end
theorem Fh:bR (az vB) ["text","length"] ["sign"] 1 [] ⟨Qo,[ (Pw ".0",Yr),(Pw "sign",Yr),(Pw "FIGURES",Qw)],false,false,[]⟩:= .of
section
variable {P:WM} {w:WO} {K:Pt} {mg:Str->Option Wx} {base:WL} {t:k9}
theorem M5{y m:Int}{Q:Ww->Prop}:Fe [.int y,.int m] Q↔1<=m/\m<=12/\Q (.int (bj y m)):=⟨λuu56=>by obtain⟨_,_,e,h⟩:=uu56;cases e;exact h,λh=>⟨_,_,rfl,h⟩⟩
theorem M6{d:Int}{Q:Ww->Prop}:Ff [.int d] Q↔∀y m n,lI d y m n->Q (.tuple [.int y,.int m,.int n]):=⟨λuu57=>by obtain⟨_,e,h⟩:=uu57;cases e;exact h,λh=>⟨_,rfl,h⟩⟩
theorem M7{y m n:Int}{Q:Ww->Prop}:Fg [.int y,.int m,.int n] Q↔1<=m/\m<=12/\Q (.int (lW y m n)):=⟨λuu58=>by obtain⟨_,_,_,e,h⟩:=uu58;cases e;exact h,λh=>⟨_,_,_,rfl,h⟩⟩
def Fi:List Ww->(Ww->Prop)->Prop:=λds Q=>∃d,ds=[d]/\bC d=true/\Q (.bool (rg d))
theorem BG(T:Txt K mg t):aF P w K mg base CX0 1 t.a_B t.d_B ["thing"] (bh K Fi):=by
 refine T.F_B.F.okD Mp (λds Q h=>?_) (λ_ _ _ _ H O ds Q E hr h=>?_)
 ·obtain⟨d,rfl,_⟩:=h;rfl
 ·obtain⟨d,rfl,hd,q⟩:=h;refine⟨_,(ak (ax (kJ (mL (K':=K) (T:="int") rfl rfl T.n_isinstance lF (df (dv 0)) (lY (v:= .ty "int") rfl T.n_int nj rfl)) (lL (Jk (mL (K':=K) (T:="bool") rfl rfl T.n_isinstance lF (df (dv 0)) (lY (v:= .ty "bool") rfl T.n_bool sV rfl))))))),?_⟩;walk_at "a";simp only [J4,An];walk_at "a";refine⟨qZ hd,?_⟩;cases d <;> simp [DL,tG,rg] at q⊢<;> exact q
theorem M8{i:Int}{Q:Ww->Prop}:Fi [.int i] Q↔Q (.bool true):=⟨λuu59=>by obtain⟨_,e,_,h⟩:=uu59;cases e;exact h,λh=>⟨_,rfl,rfl,h⟩⟩
def Fj:List Ww->(Ww->Prop)->Prop:=λds Q=>∃d,ds=[d]/\bC d=true/\Q (.bool (mW d))
theorem Fl(T:Txt K mg t):aF P w K mg base CX0 2 t.a_C t.d_C ["thing"] (bh K Fj):=by
 have G_B:=@BG P w _ _ base _ T;refine T.F_C.F.okD Mq (λds Q h=>?_) (λ_ _ _ _ H O ds Q E hr h=>?_)
 ·obtain⟨d,rfl,_⟩:=h;rfl
 ·obtain⟨d,rfl,hd,q⟩:=h;refine⟨_,(ak (ax (kJ (ar G_B hr T.F_B (aa (dv 0) ah)) (lL (uM ko ko ck ck (df ae) (df (dv 0)) (df (dc (kn rfl T.c_LAST_WRITTEN T.r_LAST_WRITTEN) (λ_ _=>.int _)))))))),?_⟩;walk_at "a";refine⟨d,rfl,hd,?_⟩;cases d with
  | int i=>
   walk_at "a";simp only [rg,mW] at q⊢;by_cases h0:0<=i
   ·rw [Wt h0];simpa [h0] using q
   ·rw [Ws h0];simpa [h0] using q
  | _=>exact⟨_,rfl,by simpa [rg,mW] using q⟩
theorem M9{i:Int}{Q:Ww->Prop}:Fj [.int i] Q↔Q (.bool (mW (.int i))):=⟨λuu60=>by obtain⟨_,e,_,h⟩:=uu60;cases e;exact h,λh=>⟨_,rfl,rfl,h⟩⟩
def lP(y m n:Int):Prop:=2000<=y/\y<=9999/\1<=m/\m<=12/\1<=n/\n<=bj y m
instance {y m n:Int}:Decidable (lP y m n):=by unfold lP;infer_instance
def Fm:List Ww->(Ww->Prop)->Prop:=λds Q=>∃y m n:Int,ds=[.int y,.int m,.int n]/\Q (.bool (decide (lP y m n)))
theorem Na(T:Txt K mg t):aF P w K mg base CX0 3 t.a_K t.d_K ["year","month","day"] (bh K Fm):=by
 have G_B:=@BG P w _ _ base _ T;have G_E:=@M1 P w _ _ base _ T;refine T.F_K.F.okD Mu (λds Q h=>?_) (λ_ _ _ _ H O ds Q E hr h=>?_)
 ·obtain⟨y,m,n,rfl,_⟩:=h;rfl
 ·obtain⟨y,m,n,rfl,q⟩:=h;refine'⟨_,?A,?B⟩
  case A=>
   refine' ai ?C ?D
   case C=>
    refine' aH ?E ?F aG
    case E=>exact(kj (PW.pt (kH (cb (ar G_B hr T.F_B (aa (dv 0) ah))) (kH (cb (ar G_B hr T.F_B (aa (dv 1) ah))) (lG (cb (ar G_B hr T.F_B (aa (dv 2) ah))))))))
    case F=>refine' ak (ax k8)
   case' D=>refine' ai ?G ?H
   case G=>
    refine' aH ?I ?J aG
    case I=>exact(kj (PW.pt (kH (pA ko ko ck ck (df (dc (kn rfl T.c_FIRST_YEAR T.r_FIRST_YEAR) (λ_ _=>.int _))) (df (dv 0)) (df (dc (kn rfl T.c_LAST_YEAR T.r_LAST_YEAR) (λ_ _=>.int _)))) (lG (pA ko ko ck ck (df ae) (df (dv 1)) (df ae))))))
    case J=>refine' ak (ax k8)
   case' H=>refine' ak ?K
   case' K=>refine' ax ?L
   case L=>exact(uM ko ko ck ck (df ae) (df (dv 2)) (df (ar G_E hr T.F_E (aa (dv 0) (aa (dv 1) ah)))))
  case B=>
  walk_at "a";simp only [M8,M5];walk_at "a";have no:¬lP y m n->Q (.bool false):=λz=>by rw [decide_eq_false z] at q;exact q
  split
  ·split
   ·split
    ·split
     ·exact no (by unfold lP;omega)
     ·split
      ·refine⟨Ce,Ce,?_⟩;rw [show decide (n<=bj y m)=decide (lP y m n) from decide_eq_decide.mpr (by unfold lP;omega)];exact q
      ·exact no (by unfold lP;omega)
    ·exact no (by unfold lP;omega)
   ·exact no (by unfold lP;omega)
  ·exact no (by unfold lP;omega)
theorem Nb{y m n:Int}{Q:Ww->Prop}:Fm [.int y,.int m,.int n] Q↔Q (.bool (decide (lP y m n))):=⟨λuu61=>by obtain⟨_,_,_,e,h⟩:=uu61;cases e;exact h,λh=>⟨_,_,_,rfl,h⟩⟩
theorem nX{i:Int}(h0:0<=i)(h1:i < 10000):i.natAbs.log2 < 1920:=by
 by_cases z:i.natAbs=0
 ·rw [z];decide
 ·rw [Nat.log2_lt z];exact Q0 (show i.natAbs < 2 ^ 14 by omega) (Nat.pow_le_pow_right tx tx)
theorem Fo{m:Int}(h0:0<=m)(h1:m < 100):(Txt.zfill (Pr (toString m)) 2).length=2:=by
 obtain⟨m,rfl⟩:=Q2 h0;have e:=AI ⟨m,Ce⟩;simp only at e;rw [e];rfl
theorem Nc{m:Int}(h0:1000<=m)(h1:m < 10000):(Pr (toString m)).length=4:=by
 obtain⟨m,rfl⟩:=Q2 (show 0<=m by omega);rw [vn Ce Ce];rfl
theorem Nd(a b:Str):(a++b).length=a.length+b.length:=by
 show(a.cps++b.cps).size=a.cps.size+b.cps.size;exact Um
def Nf:List Ww->(Ww->Prop)->Prop:=λds Q=>∃d:Int,ds=[.int d]/\0<=d/\d < bu 10000/\∀y m n,lI d y m n->Q (.str (lD y m n))
theorem Ng(T:Txt K mg t):aF P w K mg base CX0 5 t.a_L t.d_L ["day"] (bh K Nf):=by
 have G_I:=@M3 P w _ _ base _ T;refine T.F_L.F.okD tT (λds Q h=>?_) (λ_ _ _ _ H O ds Q E hr h=>?_)
 ·obtain⟨d,rfl,_⟩:=h;rfl
 ·obtain⟨d,rfl,h0,h1,q⟩:=h;refine'⟨_,?A,?B⟩
  case A=>
   refine' ai ?C ?D
   case C=>exact(aY (i:=1) tT.nd rfl Wu (ar G_I hr T.F_I (aa (dv 0) ah)))
   case' D=>refine' ai ?E ?F
   case E=>exact(aY (i:=2) tT.nd rfl Wu (PE.imp (cE oo rfl T.n_str mS (aA (aj aI aK (dv 1) ae) aB)) (aE oP)))
   case' F=>refine' ai ?G ?H
   case G=>
    refine' aY (i:=3) tT.nd rfl Wu ?I (hs:=oO)
    case I=>exact(D4 (PE.imp (cE oo rfl T.n_str mS (aA (aj aI aK (dv 1) ae) aB)) (aE oP)) ae)
   case' H=>refine' ai ?J ?K
   case J=>
    refine' aY (i:=4) tT.nd rfl Wu ?L (hs:=oO)
    case L=>exact(D4 (PE.imp (cE oo rfl T.n_str mS (aA (aj aI aK (dv 1) ae) aB)) (aE oP)) ae)
   case' K=>refine' ak ?M
   case' M=>refine' ax ?N
   case N=>exact(Kp (.cons (As (dv 2)) (.cons D6 (.cons (As (dv 3)) (.cons D6 (.cons (As (dv 4)) .nil))))))
  case B=>
  walk_at "a";simp only [M6];walk_at "a";intro y m n D;have hy:=vk D h0 h1;have hb:=rC (y:=y) D.m1 D.m12;have:=D.m1;have:=D.m12;have:=D.n1;have:=D.nl;have ly:=Nc (m:=y) Ce Ce;have lm:=Fo (m:=m) Ce Ce;have ln:=Fo (m:=n) Ce Ce;have le:TR.length=0:=rfl;have ld:(Pr "-").length=1:=td
  refine⟨nX Ce Ce,nX Ce Ce,tx,nX Ce Ce,tx,?_⟩;rw [Lf Ce Ce Ce];simp only [Nd,ly,lm,ln,le,ld,EC];exact⟨tx,tx,tx,tx,tx,tx,tx,tx,tx,tx,tx,q y m n D⟩
def pM:Str:="0123456789"
def bN(z:Str)(k:Int):Bool:=decide ((z.length:Int)=k) && z.cps.toList.all λc=>decide (c∈pM.cps.toList)
def Fp:List Ww->(Ww->Prop)->Prop:=λds Q=>∃(z:Str)(k:Int),ds=[.str z,.int k]/\z.length<=16777216/\Q (.bool (bN z k))
theorem Fq(T:Txt K mg t):aF P w K mg base CX0 1 t.a_M t.d_M ["text","length"] (bh K Fp):=by
 refine T.F_M.F.okD Mv (λds Q h=>?_) (λ_ _ _ _ H O ds Q E hr h=>?_)
 ·obtain⟨z,k,rfl,_⟩:=h;rfl
 ·obtain⟨z,k,rfl,hz,q⟩:=h;refine'⟨_,?A,?B⟩
  case A=>
   refine' ak ?C
   case' C=>refine' ax ?D
   case D=>exact(kJ (j9 (cJ hr.units) cK (df (PE.imp (aR oz rfl T.n_len Qq (aA (dv 0) aB)) (aE oJ))) (df (dv 1)) (av _)) (lL (PE.imp (aR (pq rfl) rfl T.n_all pw (aA (fe (uT rfl Fh (df (dv 0)) cj kW tx (λ_ _ _ _=>(bP (i:=0) Fh.nd rfl Wu)) (λ_ _ _ _=>kX) (λ_ _ _ _=>(j9 ux uV (df (dv 0)) (df (dc (kn rfl T.c_FIGURES T.r_FIGURES) (λ_ _=>.str _))) rfl)))) aB)) (aE ny))))
  case B=>
  walk_at "a";refine⟨hz,?_⟩;unfold bN at q;split
  ·rename_i h1;rw [decide_eq_true (p:=(z.length:Int)=k) (by simpa using h1)] at q;refine⟨Ce,qu (p:=λb=>Q (.bool b)) (λx=>match x with | .str y=>decide (y.cps.toList.headD 0∈pM.cps.toList) | _=>false) (λx hx R hR=>?_) ?_⟩
   ·obtain⟨c,_,rfl⟩:=QO.mp hx;walk_at "a";rw [TC];exact hR
   ·unfold qY;rw [Rb,SK];exact q
  ·rename_i h1;rw [decide_eq_false (p:=(z.length:Int)=k) (by simpa using h1)] at q;exact q
theorem Fs{z:Str}{k:Int}{Q:Ww->Prop}:Fp [.str z,.int k] Q↔z.length<=16777216/\Q (.bool (bN z k)):=⟨λuu62=>by obtain⟨_,_,e,h⟩:=uu62;cases e;exact h,λh=>⟨_,_,rfl,h⟩⟩
theorem Ft{m:Nat}(h:m < 100):bN ⟨(d2 m).toArray⟩ 2=true:=by
 have:∀m:Fin 100,bN ⟨(d2 m.val).toArray⟩ 2=true:=td
 exact this ⟨m,h⟩
theorem Nh:∀c:Fin 10,48+c.val∈pM.cps.toList:=td
theorem Ni{y:Nat}(h:y < 10000):bN ⟨(d4 y).toArray⟩ 4=true:=by
 have f:∀{c:Nat},c < 10->48+c∈pM.cps.toList:=λ{c} hc=>Nh ⟨c,hc⟩;unfold bN;rw [decide_eq_true (by rfl)];simp only [d4,Qg,QG,QV,P7,Qh,decide_eq_true_eq];exact⟨f Ce,f Ce,f Ce,f Ce⟩
theorem tY{c:Nat}(h:c∈pM.cps.toList):48<=c/\c < 58:=by
 have e:pM.cps.toList=[48,49,50,51,52,53,54,55,56,57]:=td
 rw [e] at h;simp only [PH,P1,or_false] at h;omega
theorem pN{z:Str}{l:List Nat}(h:z.cps.toList=l):z=⟨l.toArray⟩:=by
 obtain⟨⟨a⟩⟩:=z;exact congrArg (λl:List Nat=>(⟨l.toArray⟩:Str)) h
theorem Fv:∀y:Fin 1000,intText? ⟨(d4 y.val).toArray⟩=some (y.val:Int):=td
theorem tZ{z:Str}(h:bN z 4=true):∃y:Nat,y < 10000/\z.length=4/\intText? z=some (y:Int)/\(atI z.cps.toList 0=some 48->y < 1000):=by
 unfold bN at h;rw [Qh,decide_eq_true_eq,Rj] at h;obtain⟨hl,hm⟩:=h;have hz:z.cps.toList.length=4:=by rw [show z.cps.toList.length=z.length from P2];omega
 match e:z.cps.toList,hz with
 | [a,b,c,d],_=>
  rw [e] at hm;have f:∀x∈[a,b,c,d],48<=x/\x < 58:=λx hx=>tY (by simpa using hm x hx);have ha:=f a Wv;have hb:=f b Wv;have hc:=f c Wv;have hd:=f d Wv;have ez:=pN e;have e4:[a,b,c,d]=d4 ((a - 48)*1000+(b - 48)*100+(c - 48)*10+(d - 48)):=by
   unfold d4;rw [PJ,PJ,PJ,PJ];exact⟨Ce,Ce,Ce,Ce,rfl⟩
  refine⟨(a - 48)*1000+(b - 48)*100+(c - 48)*10+(d - 48),Ce,Ce,?_,λh0=>?_⟩
  ·rw [ez,e4];generalize hy:(a - 48)*1000+(b - 48)*100+(c - 48)*10+(d - 48)=y;by_cases h:y < 1000
   ·exact Fv ⟨y,h⟩
   ·exact AJ Ce Ce
  ·rw [aV,P0] at h0;omega
theorem rR{z:Str}(h:bN z 2=true):∃y:Nat,y < 100/\z.length=2/\intText? z=some (y:Int):=by
 unfold bN at h;rw [Qh,decide_eq_true_eq,Rj] at h;obtain⟨hl,hm⟩:=h;have hz:z.cps.toList.length=2:=by rw [show z.cps.toList.length=z.length from P2];omega
 match e:z.cps.toList,hz with
 | [a,b],_=>
  rw [e] at hm;have f:∀x∈[a,b],48<=x/\x < 58:=λx hx=>tY (by simpa using hm x hx);have ha:=f a Wv;have hb:=f b Wv;have ez:=pN e;have e2:[a,b]=d2 ((a - 48)*10+(b - 48)):=by
   unfold d2;rw [PJ,PJ];exact⟨Ce,Ce,rfl⟩
  refine⟨(a - 48)*10+(b - 48),Ce,Ce,?_⟩;rw [ez,e2];exact rE ⟨_,Ce⟩
theorem t6{c:Nat}:∀{l:List Nat},∀p∈kE c l,p.length<=l.length
 | [],p,h=>by simp [kE] at h;rw [h];exact PQ _
 | x::xs,p,h=>by
  unfold kE at h;split at h
  ·rcases PH.mp h with e | h
   ·rw [e];exact Rv _
   ·exact Vz (t6 p h)
  ·split at h
   ·rename_i e;exact absurd e (AL c xs)
   ·rename_i q qs e;rcases PH.mp h with e2 | h
    ·rw [e2];have:=t6 q (by rw [e];simp);simp only [Px];omega
    ·exact Vz (t6 p (by rw [e];simp [h]))
theorem Fw{z p:Str}(h:p∈Txt.split z (Pr "-")):p.length<=z.length:=by
 rw [show Pr "-"=⟨#[45]⟩ by decide+kernel] at h;have h2:p.cps.toList∈kE 45 z.cps.toList:=by
  rw [<-rG];exact QO.mpr ⟨p,h,rfl⟩
 have:=t6 _ h2;have e1:p.cps.toList.length=p.length:=P2;have e2:z.cps.toList.length=z.length:=P2;omega
def nv(z:Str):Int:=(intText? z).getD 0
def me(z:Str):Option Int:=match Txt.split z (Pr "-") with
 | [a,b,c]=>if bN a 4=true/\bN b 2=true/\bN c 2=true/\lP (nv a) (nv b) (nv c)/\lW (nv a) (nv b) (nv c)<=99999 then some (lW (nv a) (nv b) (nv c)) else none
 | _=>none
def Fx:Ww->Option Int
 | .str z=>me z
 | _=>none
def Fy(d:Ww):Prop:=(∀x,d≠ .dict [(.none,x)])/\∀z,d= .str z->z.length<=1000
def Nj:vy:=λds Q R=>∃d,ds=[d]/\Fy d/\(∀k,Fx d=some k->Q (.int k))/\(Fx d=none->R 0)
theorem Fz{y m n:Int}(h:lP y m n):0<=lW y m n:=by
 obtain⟨y1,y2,m1,m2,n1,n2⟩:=h;have:365*(y - 2000)<=bu y:=by unfold bu lb;omega
 have hb:=vj (y:=y) m1 m2;unfold lW;omega
theorem Nk(T:Txt K mg t):aF P w K mg base (kr P w) 4 t.a_N t.d_N ["text"] (vz K t.u_NoText "row" Nj):=by
 have G_M:=@Fq P w _ _ base _ T;have G_K:=@Na P w _ _ base _ T;have G_C:=@Fl P w _ _ base _ T;have G_J:=@M4 P w _ _ base _ T;have G_A:=@E7 P w _ _ base _ T;refine T.F_N.F.okDXn tU (λds Q R h=>?_) (λcdv A outer s H O ds Q R E hr h hx=>?_)
 ·obtain⟨d,rfl,_⟩:=h;rfl
 ·obtain⟨d,rfl,hd,q1,q2⟩:=h;refine'⟨_,?A,?B⟩
  case A=>
   refine' ai ?C ?D
   case C=>
    refine' aH ?E ?F aG
    case E=>exact(kj (cb (mL (K':=K) (T:="str") rfl rfl T.n_isinstance lF (df (dv 0)) (lY (v:= .ty "str") rfl T.n_str mS rfl))))
    case' F=>refine' ak ?G
    case G=>exact(rK hx RD T.xm_NoText G_A hr T.c_NoText T.F_A.b (aa ae ah))
   case' D=>refine' ai ?H ?I
   case H=>exact(aY (i:=1) tU.nd rfl Wu (fe (oQ (dv 0) aw)))
   case' I=>refine' ai ?J ?K
   case J=>
    refine' aH ?L ?M aG
    case L=>exact(PW.pt (ke (aD (mH hr.units) mI (PE.imp (aR kh rfl T.n_len Qq (aA (dv 1) aB)) (aE kq)) ae (av _)) (kG (kj (cb (ar G_M hr T.F_M (aa (aj aO aP (dv 1) ae) (aa ae ah))))))))
    case' M=>refine' ak ?N
    case N=>exact(rK hx RD T.xm_NoText G_A hr T.c_NoText T.F_A.b (aa ae ah))
   case' K=>refine' ai ?O ?P
   case O=>
    refine' aH ?Q ?R aG
    case Q=>exact(kj (PW.pt (kH (cb (ar G_M hr T.F_M (aa (aj aO aP (dv 1) ae) (aa ae ah)))) (lG (cb (ar G_M hr T.F_M (aa (aj aO aP (dv 1) ae) (aa ae ah))))))))
    case' R=>refine' ak ?S
    case S=>exact(rK hx RD T.xm_NoText G_A hr T.c_NoText T.F_A.b (aa ae ah))
   case' P=>refine' ai ?T ?U
   case T=>exact(aY (i:=2) tU.nd rfl Wu (PE.imp (cE rA rfl T.n_int nj (aA (aj aO aP (dv 1) ae) aB)) (aE rB)))
   case' U=>refine' ai ?V ?W
   case V=>exact(aY (i:=3) tU.nd rfl Wu (PE.imp (cE rA rfl T.n_int nj (aA (aj aO aP (dv 1) ae) aB)) (aE rB)))
   case' W=>refine' ai ?X ?Y
   case X=>exact(aY (i:=4) tU.nd rfl Wu (PE.imp (cE rA rfl T.n_int nj (aA (aj aO aP (dv 1) ae) aB)) (aE rB)))
   case' Y=>refine' ai ?Z ?a
   case Z=>
    refine' aH ?b ?c aG
    case b=>exact(PW.pt (ke (kj (cb (ar G_K hr T.F_K (aa (dv 2) (aa (dv 3) (aa (dv 4) ah)))))) (kG (kj (cb (ar G_C hr T.F_C (aa (ar G_J hr T.F_J (aa (dv 2) (aa (dv 3) (aa (dv 4) ah)))) ah)))))))
    case' c=>refine' ak ?d
    case d=>exact(rK hx RD T.xm_NoText G_A hr T.c_NoText T.F_A.b (aa ae ah))
   case' a=>refine' ak ?e
   case e=>exact(ax (ar G_J hr T.F_J (aa (dv 2) (aa (dv 3) (aa (dv 4) ah)))))
  case B=>
  clear hr T hx G_M G_K G_C G_J G_A;walk_at "a";simp only [Am];refine⟨_,rfl,hd.1,?_⟩;cases d with
  | str z=>
   have hz:=hd.2 z rfl;simp only [tF];walk_at "a";refine⟨td,Ce,?_⟩;have nf:me z=none->(Int.natAbs 0).log2 < 1920/\(Pr (toString (0:Int))).length<=1000/\R 0:=λe=>⟨tx,td,q2 e⟩;have wl:=λp=>Fw (z:=z) (p:=p);have q1:∀k,me z=some k->Q (.int k):=q1;clear q2 hd;unfold me at nf q1;generalize Txt.split z (Pr "-")=ws at*
   match ws with
   | [a,b,c]=>
    have la:=wl a Wv;have lb:=wl b Wv;have lc:=wl c Wv;rw [Ws Wv];simp only [] at nf q1;simp only [Fs,Nb,M9,M7,↓jd,↓jm,↓jn,↓jo,↓jq,↓jr,↓jt,↓je,↓fB,↓iK,↓jT,↓jU,↓jV,↓jW,↓jX,↓jY,↓iL,↓iM,↓iN,↓iO,↓iP,↓iQ,↓iR,↓iS,↓iT,↓iU,↓iV,↓iW,↓iX,↓iY,↓iZ,↓i3,↓i4,↓i5,↓i6,↓i7,↓i8,↓i9,↓ja,↓jb,cf,cN,cg,dD,fR,fS,cO,dE,dF,dM,dN,fX,dh,dC,bB,dI,dU,dW,dX,gf,dY,cn,eJ,eG,d3,dZ,dL,cP,di,fO,cG,cy,bI,dj,dm,dn,dz,fP,dA,dB,cH,cz,fQ,gK,gM,gN,gO,gP,gQ,gR,gS,gT,gU,gW,gX,gY,gZ,g6,g9,hJ,hV,hW,hX,hZ,h7,ic,ie,ig,ij,ik,il,ip,iq,iu,iw,ix,iy,iz,iA,iB,iC,iD,iE,iF,iG,iH,gL,d8,gc,eL,cV,gj,gh,d6,d7,d9,eg,ei,eD,eF,cT,eM,eN,eO,bS,fY,fZ,gb,dO,dP,fT,fU,dQ,fV,dR,fW,fj,fv,fw,gH,gI,gG,gJ,eZ,ff,fg,fh,cq,fu,fk,eX,eY,fx,fy,fz,fA,cu,iI,iJ,jg,jf,jh,ji,jj,jk,jl,fC,fD,jx,jv,jw,ju,jC,jy,jz,jA,jB,cX,fE,jG,jH,jD,jE,jF,jI,jJ,jK,fF,jL,jM,fG,jO,fH,jP,jQ,jR,jN,jS,fJ,fK,fL,fM,jZ,j3,j5,fN,bY,gx,gy,gz,gA,gB,gC,gD,gE,gF,ne_eq,bK,gp,gr,gs,gu,gk,gm,gn,cI,cR,dS,cQ,dJ,dH,dG,bJ,bU,bp,bZ,cC,b0,Py,Qf,Px,P5,PK,Qa,P6,PY,QD,QE,QP,QK,QQ,PR,PL,Qc,P8,P9,P0,exists_eq_left',exists_eq_left,exists_and_left,exists_and_right,Ql,Qm,Sl.v.injEq,Sl.o.injEq,Sl.k.injEq,Qp,Qj,Qr,Qe,Qk,PJ,and_true,true_and,QR,Qs,exists_const,decide_eq_true_eq,QS,QU,QH,QI,P4,decide_eq_false_iff_not,and_assoc,or_true,true_or,↓reduceIte,if_true,if_false,PZ,Qb,not_true_eq_false,not_false_eq_true,QL,QA,ite_true,ite_false,eq_self,exists_eq,reduceCtorEq,false_and,and_false,or_false,false_or,exists_false,Qv,Qy,cx,QG,QV,QC,QW,P7,QB,Qg,QM,aV,bw,bX,cU,eQ,aT,cL,eV,beq_self_eq_true,eR,eT,gi,aS,WN]
    refine⟨Ce,?_⟩;by_cases fa:bN a 4=true
    ·rw [Ws (by rw [fa];decide)];refine⟨Ce,?_⟩;by_cases fb:bN b 2=true
     ·rw [Wt fb];refine⟨Ce,?_⟩;by_cases fc:bN c 2=true
      ·rw [Ws (by rw [fc];decide)];obtain⟨y,y1,y2,y3,_⟩:=tZ fa;obtain⟨m,m1,m2,m3⟩:=rR fb;obtain⟨n,n1,n2,n3⟩:=rR fc;refine⟨y,y3,Ce,m,m3,Ce,n,n3,Ce,?_⟩;have ea:nv a=y:=by unfold nv;rw [y3];rfl
       have eb:nv b=m:=by unfold nv;rw [m3];rfl
       have ec:nv c=n:=by unfold nv;rw [n3];rfl
       rw [ea,eb,ec] at nf q1;by_cases hd:lP y m n
       ·rw [Ws (λz=>z hd)];refine⟨hd.2.2.1,hd.2.2.2.1,?_⟩;have nn:=Fz hd;by_cases hy:lW y m n<=99999
        ·rw [Ws (by simp [mW,nn,hy])];exact⟨hd.2.2.1,hd.2.2.2.1,q1 _ (Wt ⟨fa,fb,fc,hd,hy⟩)⟩
        ·rw [Wt (by simp [mW,hy])];exact nf (Ws λz=>hy z.2.2.2.2)
       ·rw [Wt hd];exact nf (Ws λz=>hd z.2.2.2.1)
      ·rw [Wt (by simpa using fc)];exact nf (Ws λz=>fc z.2.2.1)
     ·rw [Ws fb];exact nf (Ws λz=>fb z.2.1)
    ·rw [Wt (by simpa using fa)];exact nf (Ws λz=>fa z.1)
   | []=>rw [Wt Wv];exact nf rfl
   | [a]=>rw [Wt Wv];exact nf rfl
   | [a,b]=>rw [Wt Wv];exact nf rfl
   | a::b::c::d::r=>rw [Wt (by simp;omega)];exact nf rfl
  | _=>exact⟨tx,td,q2 rfl⟩
end
theorem FA:bR (az vC) ["thing"] ["sign"] 1 [] ⟨Qo,[ (Pw ".0",Yr),(Pw "sign",Yr),(Pw "LETTERS",Qw)],false,false,[]⟩:= .of
theorem FC:bR (az tQ) ["thing"] ["name"] 1 [] ⟨Qo,[ (Pw ".0",Yr),(Pw "name",Yr),(Pw "is_name",Qw)],false,false,[]⟩:= .of
theorem FD:bR (az tQ) ["thing"] ["place","thing"] 1 [0] ⟨Qo,[ (Pw ".0",Yr),(Pw "place",Yr),(Pw "thing",Rh)],false,false,[]⟩:= .of
section
variable {P:WM} {w:WO} {K:Pt} {mg:Str->Option Wx} {base:WL} {t:k9}
def vQ:List Ww->(Ww->Prop)->Prop:=λds Q=>∃d,∃n:Int,ds=[d,.int n]/\bC d=true/\Q (.bool (lH d n))
theorem BH(T:Txt K mg t):aF P w K mg base CX0 1 t.a_O t.d_O ["thing","length"] (bh K vQ):=by
 refine T.F_O.F.okD Mw (λds Q h=>?_) (λ_ _ _ _ H O ds Q E hr h=>?_)
 ·obtain⟨d,n,rfl,_⟩:=h;rfl
 ·obtain⟨d,n,rfl,hd,q⟩:=h;refine⟨_,(ak (ax (kJ (mL (K':=K) (T:="tuple") rfl rfl T.n_isinstance lF (df (dv 0)) (lY (v:= .ty "tuple") rfl T.n_tuple k7 rfl)) (lL (j9 (cJ hr.units) cK (df (PE.imp (aR kh rfl T.n_len Qq (aA (dv 0) aB)) (aE kq))) (df (dv 1)) (av _)))))),?_⟩;walk_at "a";simp only [uX];walk_at "a";refine⟨qZ hd,?_⟩;cases d with
  | tuple l=>simp only [pG];walk_at "a";exact q
  | _=>simpa [pG,lH] using q
def qB:List Ww->(Ww->Prop)->Prop:=λds Q=>∃d,ds=[d]/\bC d=true/\Q (.bool (cM d))
theorem rS(T:Txt K mg t):aF P w K mg base CX0 1 t.a_P t.d_P ["thing"] (bh K qB):=by
 refine T.F_P.F.okD Mx (λds Q h=>?_) (λ_ _ _ _ H O ds Q E hr h=>?_)
 ·obtain⟨d,rfl,_⟩:=h;rfl
 ·obtain⟨d,rfl,hd,q⟩:=h;refine⟨_,(ai (aH (PW.pt (ke (kj (cb (mL (K':=K) (T:="str") rfl rfl T.n_isinstance lF (df (dv 0)) (lY (v:= .ty "str") rfl T.n_str mS rfl)))) (kG (kj (pA ko ko ck ck (df ae) (df (PE.imp (aR oz rfl T.n_len Qq (aA (dv 0) aB)) (aE oJ))) (df (dc (kn rfl T.c_LONGEST_NAME T.r_LONGEST_NAME) (λ_ _=>.int _)))))))) (ak (ax k8)) aG)
   (ak (ax (PE.imp (aR (pq rfl) rfl T.n_all pw (aA (fe (uT rfl FA (df (dv 0)) cj kW tx (λ_ _ _ _=>(bP (i:=0) FA.nd rfl Wu)) (λ_ _ _ _=>kX) (λ_ _ _ _=>(j9 ux uV (df (dv 0)) (df (dc (kn rfl T.c_LETTERS T.r_LETTERS) (λ_ _=>.str _))) rfl)))) aB)) (aE ny))))),?_⟩
  walk_at "a";simp only [Am];walk_at "a";refine⟨qZ hd,?_⟩;cases d with
  | str z=>
   have hz:=J5 hd;simp only [tF];walk_at "a";refine⟨Ce,?_⟩;simp only [cM] at q;split
   ·rename_i h1;split
    ·rename_i h2;rw [decide_eq_false (p:=z.length<=8) Ce] at q;simpa using q
    ·rename_i h2;rw [decide_eq_true (p:=1<=z.length) Ce,decide_eq_true (p:=z.length<=8) Ce] at q;refine⟨Ce,qu (p:=λb=>Q (.bool b)) (λx=>match x with | .str y=>decide (y.cps.toList.headD 0∈lu.cps.toList) | _=>false) (λx hx R hR=>?_) ?_⟩
     ·obtain⟨c,_,rfl⟩:=QO.mp hx;walk_at "a";rw [TC];exact hR
     ·unfold qY;rw [Rb,SK];exact q
   ·rename_i h1;rw [decide_eq_false (p:=1<=z.length) Ce] at q;simpa using q
  | _=>simpa [tF,cM] using q
def FF:List Ww->(Ww->Prop)->Prop:=λds Q=>∃d,ds=[d]/\bC d=true/\Q (.bool (mj d))
theorem Nl(T:Txt K mg t):aF P w K mg base CX0 2 t.a_Q t.d_Q ["thing"] (bh K FF):=by
 have G_O:=@BH P w _ _ base _ T;have G_P:=@rS P w _ _ base _ T;refine T.F_Q.F.okD My (λds Q h=>?_) (λ_ _ _ _ H O ds Q E hr h=>?_)
 ·obtain⟨d,rfl,_⟩:=h;rfl
 ·obtain⟨d,rfl,hd,q⟩:=h;refine⟨_,(ai (aH (cb (ar G_O hr T.F_O (aa (dv 0) (aa ae ah)))) (ak (ax (j9 (fq hr) ft (df (aj aI aK (dv 0) ae)) (df aw) (av _)))) aG)
   (ai (aH (cb (ar G_O hr T.F_O (aa (dv 0) (aa ae ah)))) (ak (ax (kJ (j9 (oK hr) oM (df (aj aI aK (dv 0) ae)) (df (bE (aa aw (aa aw ah)))) rfl) (lL (ar G_P hr T.F_P (aa (aj aI aK (dv 0) ae) ah)))))) aG)
   (ak (ax k8)))),?_⟩
  walk_at "a";simp only [vQ];walk_at "a";refine⟨hd,?_⟩;rcases tJ d with⟨l,rfl⟩ | hn
  ·have hl:=tH hd
   match l,hl with
   | [],_=>simpa [mj,lH,hd] using q
   | [a],hl=>
    have ha:=hl a Wv;simp [mj,lH,qt ha,aV] at q⊢;exact q
   | [a,b],hl=>
    have ha:=hl a Wv;have hb:=hl b Wv;simp [mj,lM,lH,qt ha,hd,qB,hb,aV,bw] at q⊢;generalize ((Pu (Pr "first")).eqv a)=A at*;generalize ((Pu (Pr "last")).eqv a)=B at*;cases A <;> cases B <;> simp at q⊢<;> exact q
   | _::_::_::r,_=>
    have h1:¬((r.length:Int)+1+1+1=1):=Ce
    have h2:¬((r.length:Int)+1+1+1=2):=Ce
    simpa [mj,lH,hd,h1,h2] using q
  ·have e:mj d=false:=by
    unfold mj;split
    ·exact absurd rfl (hn _)
    ·exact absurd rfl (hn _)
    ·rfl
   rw [e] at q;simpa [Ao hn,hd] using q
theorem Nn{a:WA}(h:∀H,aZ K H a [V.str "days",V.str "months",V.str "years"]):∀H O,Dt K H O (.ref a) (.tuple [.str "days",.str "months",.str "years"]):=λH O=>
 .tupK (h sW) (.cons (.str _) (.cons (.str _) (.cons (.str _) .nil)))
def FG:List Ww->(Ww->Prop)->Prop:=λds Q=>∃m u,ds=[m,u]/\bC m=true/\bC u=true/\Q (.bool (rh m u))
theorem Np(T:Txt K mg t):aF P w K mg base CX0 2 t.a_R t.d_R ["many","unit"] (bh K FG):=by
 have G_B:=@BG P w _ _ base _ T;obtain⟨aU,eU,hU⟩:=T.e_UNITS;have Tr_UNITS:aJ (.ref aU) t.u_UNITS:=eU;have Td_UNITS:=Nn hU;refine T.F_R.F.okD Mz (λds Q h=>?_) (λ_ _ _ _ H O ds Q E hr h=>?_)
 ·obtain⟨d,u,rfl,_⟩:=h;rfl
 ·obtain⟨m,u,rfl,hm,hu,q⟩:=h;refine⟨_,(ak (ax (kJ (ar G_B hr T.F_B (aa (dv 0) ah)) (kJ (uM ko ko ck ck (df ae) (df (dv 0)) (df (dc (kn rfl T.c_MOST_MANY T.r_MOST_MANY) (λ_ _=>.int _)))) (lL (j9 (oK hr) oM (df (dv 1)) (df (dc (kn rfl T.c_UNITS Tr_UNITS) Td_UNITS)) rfl)))))),?_⟩;walk_at "a";refine⟨m,rfl,hm,?_⟩;cases m with
  | int i=>
   walk_at "a";simp only [rg,rh,tI,lM] at q⊢;simp only [if_true];by_cases h0:0<=i
   ·rw [Wt h0];by_cases h1:i<=999
    ·simp [h0,h1,qt hu] at q⊢;exact q
    ·simp [h0,h1] at q⊢;exact q
   ·simp [h0] at q⊢;exact q
  | _=>exact⟨_,rfl,by simpa [rg,rh,tI] using q⟩
def FH:List Ww->(Ww->Prop)->Prop:=λds Q=>∃d,ds=[d]/\bC d=true/\Q (.bool (md d))
theorem Nq(T:Txt K mg t):aF P w K mg base CX0 3 t.a_S t.d_S ["thing"] (bh K FH):=by
 have G_O:=@BH P w _ _ base _ T;have G_P:=@rS P w _ _ base _ T;have G_Q:=@Nl P w _ _ base _ T;have G_R:=@Np P w _ _ base _ T;refine T.F_S.F.okD E1 (λds Q h=>?_) (λ_ _ _ _ H O ds Q E hr h=>?_)
 ·obtain⟨d,rfl,_⟩:=h;rfl
 ·obtain⟨d,rfl,hd,q⟩:=h;refine⟨_,(ai (aH (cb (ar G_O hr T.F_O (aa (dv 0) (aa ae ah)))) (ak (ax (kJ (j9 (oK hr) oM (df (aj aI aK (dv 0) ae)) (df (bE (nA (ds:=[.str "while",.str "follow",.str "leave"]) (by rfl)))) rfl) (lL (ar G_P hr T.F_P (aa (aj aI aK (dv 0) ae) ah)))))) aG)
   (ai (aH (cb (ar G_O hr T.F_O (aa (dv 0) (aa ae ah)))) (ai (aY (i:=1) E1.nd rfl Wu (kJ (j9 (oK hr) oM (df (aj aI aK (dv 0) ae)) (df (bE (aa aw (aa aw ah)))) rfl) (lL (ar G_P hr T.F_P (aa (aj aI aK (dv 0) ae) ah)))))
   (ak (ax (kJ (dv 1) (kJ (ar G_Q hr T.F_Q (aa (aj aI aK (dv 0) ae) ah)) (lL (ar G_R hr T.F_R (aa (aj aI aK (dv 0) ae) (aa (aj aI aK (dv 0) ae) ah))))))))) aG)
   (ak (ax k8)))),?_⟩
  walk_at "a";simp only [vQ];walk_at "a";refine⟨hd,?_⟩;rcases tJ d with⟨l,rfl⟩ | hn
  ·have hl:=tH hd
   match l,hl with
   | [],_=>simpa [md,lH,hd] using q
   | [a],_=>simpa [md,lH,hd] using q
   | [_,_,_],_=>simpa [md,lH,hd] using q
   | [_,_,_,_],_=>simpa [md,lH,hd] using q
   | [a,b],hl=>
    have ha:=hl a Wv;have hb:=hl b Wv;simp [md,lM,lH,qt ha,hd,qB,hb,aV,bw] at q⊢;generalize ((Pu (Pr "while")).eqv a)=A at*;generalize ((Pu (Pr "follow")).eqv a)=B at*;generalize ((Pu (Pr "leave")).eqv a)=C at*;cases A <;> cases B <;> cases C <;> simp at q⊢<;> exact q
   | [a,b,c,d,e],hl=>
    have ha:=hl a Wv;have hb:=hl b Wv;have hc:=hl c Wv;have hd':=hl d Wv;have he:=hl e Wv;simp [md,lM,lH,qt ha,hd,qB,FF,FG,hb,hc,hd',he,aV,bw,bX,cU,eQ] at q⊢;generalize ((Pu (Pr "keep")).eqv a)=A at*;generalize ((Pu (Pr "gone")).eqv a)=B at*;generalize cM b=C at*;generalize mj c=D at*;cases A <;> cases B <;> cases C <;> cases D <;> simp at q⊢<;> first | exact q | exact⟨_,_,⟨rfl,rfl⟩,hd',he,q⟩
   | _::_::_::_::_::_::r,_=>
    have h1:¬((r.length:Int)+1+1+1+1+1+1=2):=Ce
    have h2:¬((r.length:Int)+1+1+1+1+1+1=5):=Ce
    simpa [md,lH,hd,h1,h2] using q
  ·have e:md d=false:=by
    unfold md;split
    ·exact absurd rfl (hn _)
    ·exact absurd rfl (hn _)
    ·rfl
   rw [e] at q;simpa [Ao hn,hd] using q
def FI:List Ww->(Ww->Prop)->Prop:=λds Q=>∃d,ds=[d]/\bC d=true/\Q (.bool (pH d))
theorem Nr(T:Txt K mg t):aF P w K mg base CX0 2 t.a_T t.d_T ["thing"] (bh K FI):=by
 have G_P:=@rS P w _ _ base _ T;refine T.F_T.F.okD MA (λds Q h=>?_) (λ_ _ _ _ H O ds Q E hr h=>?_)
 ·obtain⟨d,rfl,_⟩:=h;rfl
 ·obtain⟨d,rfl,hd,q⟩:=h;refine⟨_,(ai (aH (PW.pt (ke (kj (cb (mL (K':=K) (T:="tuple") rfl rfl T.n_isinstance lF (df (dv 0)) (lY (v:= .ty "tuple") rfl T.n_tuple k7 rfl)))) (kG (aD pe ck (PE.imp (aR kh rfl T.n_len Qq (aA (dv 0) aB)) (aE kq)) (dc (kn rfl T.c_MOST_MAKERS T.r_MOST_MAKERS) (λ_ _=>.int _)) (av _))))) (ak (ax k8)) aG)
   (ai (aH (kj (cb (PE.imp (aR (pq rfl) rfl T.n_all pw (aA (fe (Dg rfl FC (df (dv 0)) cj kW tx (λ_ _ _ _=>(bP (i:=0) FC.nd rfl Wu)) (λ_ _ _ _=>kX) (λ_ _ _ _=>(ar G_P hr T.F_P (aa (dv 0) ah))))) aB)) (aE ny)))) (ak (ax k8)) aG)
   (ak (ax (PE.imp (aR (pq rfl) rfl T.n_all pw (aA (fe (Ag rfl FD rfl T.n_range (aA ae (aA (PE.imp (aR kh rfl T.n_len Qq (aA (dv 0) aB)) (aE kq)) aB)) cj kW tx (λ_ _ _ _=>(bP (i:=0) FD.nd rfl Wu)) (λ_ _ _ _=>kX) (λ_ _ _ _=>(j9 Hq JR (df (aj aI aK (dv 1) (aW lh cS (dv 0) ae))) (df (aj aI aK (dv 1) (dv 0))) (av _))))) aB)) (aE ny)))))),?_⟩
  walk_at "a";simp only [uX];walk_at "a";refine⟨qZ hd,?_⟩;rcases tJ d with⟨l,rfl⟩ | hn
  ·have hl:=tH hd;simp only [pG];walk_at "a";simp only [pH] at q;split
   ·rename_i h4;rw [decide_eq_false (p:=l.length<=4) Ce] at q;simpa using q
   ·rename_i h4;rw [decide_eq_true (p:=l.length<=4) Ce] at q;refine⟨Ce,qu (p:=λb=>if b=false then Q (.bool false) else _) cM (λx hx R hR=>?_) ?_⟩
    ·walk_at "a";exact⟨x,rfl,hl x hx,hR⟩
    ·have ea:(l.map cM).all id=l.all cM:=by rw [SK];rfl
     rw [ea];split
     ·rename_i h5;rw [h5] at q;simpa using q
     ·rename_i h5;rw [Bool.not_eq_false] at h5;rw [h5] at q;refine⟨by have:((16777216:Nat):Int)=16777216:=rfl;omega,Ce,Ce,qu (p:=λb=>Q (.bool b)) (λx=>match x with | .int p=>uY (l.getD (p - 1).toNat .none) (l.getD p.toNat .none) | _=>false) (λx hx R hR=>?_) ?_⟩
      ·obtain⟨i,hi,rfl⟩:=QO.mp hx;have hi':=Sd.mp hi;have l1:i < l.length:=Ce
       have l2:i+1 < l.length:=Ce
       have n1:cM l[i]=true:=Rj.mp h5 _ (Sb l1);have n2:cM l[i+1]=true:=Rj.mp h5 _ (Sb l2);obtain⟨z1,e1,_⟩:=mY n1;obtain⟨z2,e2,_⟩:=mY n2;have a1:(1:Int)+(i:Int) - 1=((i:Nat):Int):=Ce
       have a2:(1:Int)+(i:Int)=((i+1:Nat):Int):=Ce
       simp only [a1] at hR;rw [a2] at hR;simp only [Q9,RT,Q1 l1,Q1 l2,Option.getD_some,e1,e2,uY] at hR;walk_at "a";rw [a1,a2];exact⟨_,nL (by rw [Q1 l1,e1]),_,nL (by rw [Q1 l2,e2]),z1,rfl,z2,rfl,hR⟩
      ·simp only [Qg] at q
       match l,h4,q with
       | [],_,q=>simpa [nB,lq] using q
       | [a],_,q=>simpa [nB,lq] using q
       | [a,b],_,q=>simpa [nB,lq,SS] using q
       | [a,b,c],_,q=>simpa [nB,lq,SS] using q
       | [a,b,c,d],_,q=>simpa [nB,lq,SS] using q
       | _::_::_::_::_::r,h4,_=>simp only [Px] at h4;omega
  ·rw [DN hn];have e:pH d=false:=by
    unfold pH;split
    ·exact absurd rfl (hn _)
    ·rfl
   rw [e] at q;simpa using q
def FJ:List Ww->(Ww->Prop)->Prop:=λds Q=>∃d,ds=[d]/\bC d=true/\Q (.bool (mX d))
theorem Nt(T:Txt K mg t):aF P w K mg base CX0 2 t.a_U t.d_U ["thing"] (bh K FJ):=by
 have G_O:=@BH P w _ _ base _ T;have G_P:=@rS P w _ _ base _ T;refine T.F_U.F.okD MB (λds Q h=>?_) (λ_ _ _ _ H O ds Q E hr h=>?_)
 ·obtain⟨d,rfl,_⟩:=h;rfl
 ·obtain⟨d,rfl,hd,q⟩:=h;refine⟨_,(ak (ax (kJ (ar G_O hr T.F_O (aa (dv 0) (aa ae ah))) (kJ (j9 (oK hr) oM (df (aj aI aK (dv 0) ae)) (df (bE (aa aw (aa aw ah)))) rfl) (lL (ar G_P hr T.F_P (aa (aj aI aK (dv 0) ae) ah))))))),?_⟩;walk_at "a";simp only [vQ];walk_at "a";refine⟨hd,?_⟩;rcases tJ d with⟨l,rfl⟩ | hn
  ·have hl:=tH hd
   match l,hl with
   | [],_=>simpa [mX,lH] using q
   | [a],_=>simpa [mX,lH] using q
   | [a,b],hl=>
    have ha:=hl a Wv;have hb:=hl b Wv;simp [mX,lM,lH,qt ha,qB,hb,aV,bw] at q⊢;generalize ((Pu (Pr "paper")).eqv a)=A at*;generalize ((Pu (Pr "kind")).eqv a)=B at*;cases A <;> cases B <;> simp at q⊢<;> exact q
   | _::_::_::r,_=>
    have h2:¬((r.length:Int)+1+1+1=2):=Ce
    simpa [mX,lH,h2] using q
  ·have e:mX d=false:=by
    unfold mX;split
    ·exact absurd rfl (hn _)
    ·rfl
   rw [e] at q;simpa [Ao hn] using q
def Nu:List Ww->(Ww->Prop)->Prop:=λds Q=>∃d ps,ds=[d,.tuple ps]/\bC d=true/\(∀p∈ps,bC p=true)/\Q (.bool (oN d ps))
theorem Nv(T:Txt K mg t):aF P w K mg base CX0 4 t.a_V t.d_V ["word","parts"] (bh K Nu):=by
 have G_P:=@rS P w _ _ base _ T;have G_S:=@Nq P w _ _ base _ T;have G_T:=@Nr P w _ _ base _ T;have G_U:=@Nt P w _ _ base _ T;refine T.F_V.F.okD MC (λds Q h=>?_) (λ_ _ _ _ H O ds Q E hr h=>?_)
 ·obtain⟨d,ps,rfl,_⟩:=h;rfl
 ·obtain⟨d,ps,rfl,hd,hp,q⟩:=h;refine⟨_,(ai (aH (aD (oK hr) oM (dv 0) (bE (aa aw (aa aw ah))) rfl) (ak (ax (j9 (cJ hr.units) cK (df (PE.imp (aR kh rfl T.n_len Qq (aA (dv 1) aB)) (aE kq))) (df ae) (av _)))) aG)
   (ai (aH (aD (oK hr) oM (dv 0) (bE (aa aw (aa aw ah))) rfl) (ak (ax (kJ (j9 (cJ hr.units) cK (df (PE.imp (aR kh rfl T.n_len Qq (aA (dv 1) aB)) (aE kq))) (df ae) (av _)) (lL (ar G_P hr T.F_P (aa (aj aI aK (dv 1) ae) ah)))))) aG)
   (ai (aH (aD (fq hr) ft (dv 0) aw (av _)) (ak (ax (kJ (j9 (cJ hr.units) cK (df (PE.imp (aR kh rfl T.n_len Qq (aA (dv 1) aB)) (aE kq))) (df ae) (av _)) (lL (ar G_S hr T.F_S (aa (aj aI aK (dv 1) ae) ah)))))) aG)
   (ai (aH (aD (fq hr) ft (dv 0) aw (av _)) (ak (ax (kJ (j9 (cJ hr.units) cK (df (PE.imp (aR kh rfl T.n_len Qq (aA (dv 1) aB)) (aE kq))) (df ae) (av _)) (kJ (ar G_P hr T.F_P (aa (aj aI aK (dv 1) ae) ah)) (lL (ar G_T hr T.F_T (aa (aj aI aK (dv 1) ae) ah))))))) aG)
   (ai (aH (aD (fq hr) ft (dv 0) aw (av _)) (ak (ax (kJ (j9 (cJ hr.units) cK (df (PE.imp (aR kh rfl T.n_len Qq (aA (dv 1) aB)) (aE kq))) (df ae) (av _)) (kJ (ar G_U hr T.F_U (aa (aj aI aK (dv 1) ae) ah)) (lL (mL (K':=K) (T:="bool") rfl rfl T.n_isinstance lF (df (aj aI aK (dv 1) ae)) (lY (v:= .ty "bool") rfl T.n_bool sV rfl))))))) aG)
   (ak (ax k8))))))),?_⟩
  walk_at "a";simp only [qt hd,An];walk_at "a";simp only [oN,lM,QC,QW,QB] at q;split
  ·rename_i h;rw [Wt h] at q
   match ps with
   | []=>simpa using q
   | _::r=>
    have h1:(((r.length+1:Nat):Int)==0)=false:=by rw [beq_eq_false_iff_ne];omega
    rw [Px,h1];simpa using q
  rename_i h;rw [Ws h] at q;clear h;split
  ·rename_i h;rw [Wt h] at q
   match ps,hp with
   | [],_=>simpa using q
   | [a],hp=>have ha:=hp a Wv;simpa [aV,qB,ha] using q
   | _::_::r,_=>
    have h1:¬((r.length:Int)+1+1=1):=Ce
    simpa [h1] using q
  rename_i h;rw [Ws h] at q;clear h;split
  ·rename_i h;rw [Wt h] at q
   match ps,hp with
   | [],_=>simpa using q
   | [a],hp=>have ha:=hp a Wv;simpa [aV,FH,ha] using q
   | _::_::r,_=>
    have h1:¬((r.length:Int)+1+1=1):=Ce
    simpa [h1] using q
  rename_i h;rw [Ws h] at q;clear h;split
  ·rename_i h;rw [Wt h] at q
   match ps,hp with
   | [],_=>simpa using q
   | [a],_=>simpa using q
   | [a,b],hp=>
    have ha:=hp a Wv;have hb:=hp b Wv;simp [aV,bw,qB,FI,ha,hb] at q⊢;generalize cM a=A at*;cases A <;> simp at q⊢<;> exact q
   | _::_::_::r,_=>
    have h1:¬((r.length:Int)+1+1+1=2):=Ce
    simpa [h1] using q
  rename_i h;rw [Ws h] at q;clear h;split
  ·rename_i h;rw [Wt h] at q
   match ps,hp with
   | [],_=>simpa using q
   | [a],_=>simpa using q
   | [a,b],hp=>
    have ha:=hp a Wv;have hb:=qZ (hp b Wv);simp [aV,bw,FJ,ha] at q⊢;generalize mX a=A at*;cases A <;> simp at q⊢<;> first | exact q | exact⟨hb,q⟩
   | _::_::_::r,_=>
    have h1:¬((r.length:Int)+1+1+1=2):=Ce
    simpa [h1] using q
  ·rename_i h;rw [Ws h] at q;exact q
def Nw:List Ww->(Ww->Prop)->Prop:=λds Q=>∃d,ds=[d]/\bC d=true/\Q (.bool (lN d))
theorem Nx(T:Txt K mg t):aF P w K mg base CX0 5 t.a_W t.d_W ["thing"] (bh K Nw):=by
 have G_P:=@rS P w _ _ base _ T;have G_C:=@Fl P w _ _ base _ T;have G_V:=@Nv P w _ _ base _ T;refine T.F_W.F.okD MD (λds Q h=>?_) (λ_ _ _ _ H O ds Q E hr h=>?_)
 ·obtain⟨d,rfl,_⟩:=h;rfl
 ·obtain⟨d,rfl,hd,q⟩:=h;refine⟨_,(ai (aH (PW.pt (ke (kj (cb (mL (K':=K) (T:="tuple") rfl rfl T.n_isinstance lF (df (dv 0)) (lY (v:= .ty "tuple") rfl T.n_tuple k7 rfl)))) (kG (aD qR ck (PE.imp (aR kh rfl T.n_len Qq (aA (dv 0) aB)) (aE kq)) ae (av _))))) (ak (ax k8)) aG)
   (ak (ax (kJ (ar G_C hr T.F_C (aa (aj aI aK (dv 0) ae) ah)) (kJ (ar G_P hr T.F_P (aa (aj aI aK (dv 0) ae) ah)) (lL (ar G_V hr T.F_V (aa (aj aI aK (dv 0) ae) (aa (tE (df (dv 0)) (bT ae) kl) ah))))))))),?_⟩
  walk_at "a";simp only [uX];walk_at "a";refine⟨qZ hd,?_⟩;rcases tJ d with⟨l,rfl⟩ | hn
  ·have hl:=tH hd;simp only [pG];walk_at "a"
   match l,hl with
   | [],_=>simpa [lN] using q
   | [a],_=>simpa [lN] using q
   | [a,b],_=>simpa [lN] using q
   | w::n::x::r,hl=>
    have h3:¬((((w::n::x::r).length:Nat):Int) < 3):=by simp only [Px];omega
    rw [Ws h3];have hw:=hl w Wv;have hn:=hl n Wv;have hx:=hl x Wv;have hr':∀p∈r,bC p=true:=λp hp=>hl p (by simp [hp]);have ec:bA (w::n::x::r) (some 3) none=r:=by rw [qp tx (by simp only [Px];omega)];rfl
    simp only [lN] at q;refine⟨_,bw,n,rfl,hn,?_⟩;refine⟨_,rfl,?_⟩;cases e1:mW n with
    | false=>simpa [e1] using q
    | true=>
     rw [Wt rfl];refine⟨_,bX,x,rfl,hx,_,rfl,?_⟩;cases e2:cM x with
     | false=>simpa [e1,e2] using q
     | true=>
      rw [Wt rfl];refine⟨_,aV,w,r,by rw [ec],hw,hr',?_⟩;simpa [e1,e2] using q
  ·rw [DN hn];have e:lN d=false:=by
    unfold lN;split
    ·exact absurd rfl (hn _)
    ·rfl
   rw [e] at q;simpa using q
def BI:Sp:=λvs H Q _=>∃(c:Int),vs=[.int c]/\Rn c<=2000000/\∀n:Int,Q (.int n) H
theorem Ny(T:Txt K mg t):aF P w K mg base CX0 1 t.a_i t.d_i ["_law_cell"] BI:=by
 refine T.F_i.F.ok MM (λvs H Q E h=>?_) (λcdv A outer s H vs Q E hr h=>?_)
 ·obtain⟨c,rfl,_⟩:=h;rfl
 ·obtain⟨c,rfl,hb,k⟩:=h;refine⟨_,(kA (kS (cw om (cw IG (pv 0) cZ) (cw Hk cZ cZ)))),?_⟩;walk_at "c";refine⟨IntMulOk.of_le (m:=2000000) (n:=256) hb (intBits_le_iff.mpr tx) tx,?_,?_,k _⟩
  ·decide
  ·decide
theorem FK{x:Int}(h1:0<=x)(h2:x<=1000000):Rn x<=20:=intBits_le_iff.mpr (by
 have:(2:Nat)^ 20=1048576:=tx
 omega)
theorem Nz{H:Hp}{O:Ex}{v:V}{ns:List Int}(h:Dt K H O v (mD (ns.map .int))):∃a,v= .ref a/\bg K H a (ns.map V.int):=by
 obtain⟨a,xs,rfl,hs,r⟩:=(Sh.dt h).scr;refine⟨a,rfl,?_⟩;have:xs=ns.map V.int:=by
  clear hs h
  induction ns generalizing xs with
  | nil=>rw [Qf] at r;cases r;rfl
  | cons n ns ih=>
   rw [Py] at r;cases r with
   | cons h r=>cases h;rw [Py,ih _ r]
 rw [<-this];exact hs
theorem NA(T:Txt K mg t):aF P w K mg base CX0 2 t.a_j t.d_j ["_law_script","_law_k"] (bh K Jx):=by
 have G_i:=@Ny P w _ _ base _ T;refine T.F_j.F.ok MN (λvs H Q E h=>?_) (λcdv A outer s H vs Q E hr h=>?_)
 ·obtain⟨O,ds,Qd,_,r,⟨ns,i,rfl,_⟩,_⟩:=h;exact r.length
 ·obtain⟨O,ds,Qd,tr,r,⟨ns,i,rfl,hb,i0,i1,q⟩,k⟩:=h;cases r with
  | cons r1 r2=>
   cases r2 with
   | cons r2 r3=>
    cases r3;cases r2;obtain⟨a,rfl,hS⟩:=Nz r1;refine⟨_,bG.newPack (kR (oZ (p6 qR (pv 1) (aR Hy rfl T.n_len Qq (aQ (pv 0) bM)) (av _)) (kA (kS (xR (aQ (lO G_i (hr.mono tx) rfl T.F_i (aQ (cw cD (qf aO (pv 0) (pv 1) (λ_ _=>rfl)) (cw qQ cZ (pv 1))) bM)) bM)))) oY)
   (kA (kS (xR (aQ (lO G_i (hr.mono tx) rfl T.F_i (aQ (cw cD (cw qQ cZ (pv 1)) cZ) bM)) bM))))),?_⟩
    have fin:∀(n:Int)(p:WA),H p=none->∃p' n',V.ref p=V.ref p'/\ao H p (.lst [.int n]) p'=some (.lst [.int n'])/\Q (.ref p) (ao (ao H p (.lst [.int n])) p' (oA p')):=λn p hp=>
     ⟨p,n,rfl,bx,k _ _ _ q (λb o e=>by rw [ay (kz e hp),ay (kz e hp)];exact e) (.pack bx λz=>tr p z hp)⟩
    walk_at "c";refine⟨ns.length,.inl ⟨_,hS,Wv⟩,?_⟩;split
    ·rename_i hlt;obtain⟨j,rfl⟩:=Q2 i0;have hj:j < ns.length:=Ce
     refine CV (v:= .int ns[j]) hS (nL (by simp [hj])) ⟨_,rfl,?_⟩;simp only [BI];walk_at "c";refine⟨?_,λn=>⟨by show 1<=WG;decide,λp hp=>?_⟩⟩
     ·have e1:=hb ns[j] (Sb hj);have e2:Rn (23*(j:Int))<=20:=FK Ce Ce;exact Qz (intBits_add_le e1 e2) tx
     ·simpa using fin n p hp
    ·simp only [BI];walk_at "c";refine⟨?_,λn=>⟨by show 1<=WG;decide,λp hp=>?_⟩⟩
     ·exact Qz (FK Ce Ce) tx
     ·simpa using fin n p hp
theorem qC(T:Txt K mg t):aF P w K mg base CX0 1 t.a_k t.d_k ["_law_pack_here","_law_size"] (bh K Ac):=by
 refine T.F_k.F.ok E2 (λvs H Q E h=>?_) (λcdv A outer s H vs Q E hr h=>?_)
 ·obtain⟨O,ds,Qd,_,r,⟨z,rfl,_⟩,_⟩:=h;exact r.length
 ·obtain⟨O,ds,Qd,tr,r,⟨z,rfl,z0,z1,qq⟩,k⟩:=h;cases r with
  | cons r1 r2=>
   cases r2 with
   | cons r2 r3=>
    cases r3;cases r2;cases r1 with
    | @pack p hp hn=>
     refine⟨_,bG.pack (kR (B3 (aR Hz rfl T.n_divmod IL (aQ (qf aO (pv 0) cZ (λ_ _=>rfl)) (aQ (pv 1) bM))) (sG (n:=2) rfl (my (Hb (pv 0) cZ HZ) (my (bP (i:=2) E2.nd rfl Wu) qO))))
   (kA (kS (pv 2)))),p,hp,λn=>?_⟩
     walk_at "c";refine CV (bg.of bx) rfl ⟨n,rfl,z0,Ce,λq hq=>?_⟩;have hpq:p≠q:=kz bx hq;refine⟨_,aZ.of bx,rfl,_,_,rfl,?_⟩;refine⟨p,[.int n],0,0,rfl,rfl,by rw [ay hpq,bx],rfl,?_⟩;refine⟨_,_,rfl,rfl,?_⟩;refine⟨⟨_,bx⟩,k _ _ _ (qq (n % z) (Int.emod_nonneg _ Ce) (Int.emod_lt_of_pos _ z0)) (λb o e=>?_) (.int _)⟩;by_cases hb:b=p
     ·subst hb;rw [bx,<-hp,e]
     ·have hbq:b≠q:=λy=>by
       subst y;rw [ay hb] at hq;rw [hq] at e;cases e
      rw [ay hb,ay hb,ay hbq,ay hb];exact e
end
end K60
local macro_rules | `(tactic| walk_at "o")=>`(tactic| first | exact Ut rfl | exact TJ rfl)
local macro_rules | `(tactic| walk_at "a") =>do let a <- rzT "bU Py Qf Px P5 QD QE PK Qa P6"; let b <- rzT rzS; `(tactic| ((try $a:tactic); $b:tactic))
open PySem L2
namespace K60
theorem FL:bR (az tR) ["_law_pack_here","_law_many","_law_letters","_law_words","_law_turn","_law_size","_law_at","_law_stem","_law_first"] ["_law_k","_law_letters","_law_pack_here"] 1 [2,0] ⟨Qo,[ (Pw ".0",Yr),(Pw "_law_k",Yr),(Pw "_law_take",Qw),(Pw "_law_letters",Rh),(Pw "_law_pack_here",Rh)],false,false,[]⟩:= .of
theorem FN:bR (az tR) ["_law_pack_here","_law_many","_law_letters","_law_words","_law_turn","_law_size","_law_at","_law_stem","_law_first"] ["_law_k","_law_stem","_law_letters","_law_at","_law_first"] 1 [7,2,6,8] ⟨Qo,[ (Pw ".0",Yr),(Pw "_law_k",Yr),(Pw "_law_at",Rh),(Pw "_law_first",Rh),(Pw "_law_letters",Rh),(Pw "_law_stem",Rh)],false,false,[]⟩:= .of
section
variable {P:WM} {w:WO} {K:Pt} {mg:Str->Option Wx} {base:WL} {t:k9}
structure NB (ns:List Str):Prop where
 len:ns.length=5
 nd:ns.Nodup
 nm:∀n∈ns,Nm n
def lg:List Str:=["paper","kind","keep","days","coming","first","deep","none","never","gone","held","rule","last","end","hold","lift","leave","happens","while","follow","months","years"]
theorem NC:lg.Nodup:=td
theorem ND:∀n∈lg,cM (.str n)=true:=td
theorem NF{n:Str}(h:n∈lg):Nm n:=by
 obtain⟨z,e,hz⟩:=mY (ND n h);injection e with e;rw [e];exact hz
theorem NG{j:Nat}{n:Str}(h:n∈lg.drop j++lg.take j):n∈lg:=by
 rcases Rt.mp h with z | z
 ·exact R0 z
 ·exact RQ z
theorem NH{j:Int}(h0:0<=j)(h1:j < 26):l9 j∈lu.cps.toList:=by
 obtain⟨c,_,e2,_⟩:=tD h0 h1;have:l9 j=c:=by unfold l9;rw [e2];rfl
 rw [this];exact Rr e2
def vR(a b:Str)(fi:Int)(k:Nat):Str:=a++⟨#[l9 ((fi+5*(k:Int))% 26)]⟩++b
def NI:List Ww->(Ww->Prop)->Prop:=λds Q=>ds=[mh,.int 5]/\∀ns,NB ns->Q (.list (ns.map .str))
theorem NJ(T:Txt K mg t):aF P w K mg base CX0 2 t.a_l t.d_l ["_law_pack_here","_law_many"] (bh K NI):=by
 have G_k:=@qC P w _ _ base _ T;refine T.F_l.F.okD oS (λds Q h=>?_) (λ_ _ _ _ H O ds Q E hr h=>?_)
 ·obtain⟨rfl,_⟩:=h;rfl
 ·obtain⟨rfl,q⟩:=h;refine'⟨_,?A,?B⟩
  case A=>
   refine' ai ?C ?D
   case C=>exact(aY (i:=2) oS.nd rfl Wu aw)
   case' D=>refine' ai ?E ?F
   case E=>
    refine' aH ?G ?H aG
    case G=>exact(aD (cJ hr.units) cK (ar G_k hr T.F_k (aa (dv 0) (aa ae ah))) ae (av _))
    case' H=>refine' ai ?I ?J
    case I=>
     generalize hE6_0:S8 _ _=ee6_0;exact aY (i:=3) oS.nd rfl Wu (fe (qr (ds:=[.str "paper",.str "kind",.str "keep",.str "days",.str "coming",.str "first",.str "deep",.str "none",.str "never",.str "gone",.str "held",.str "rule"]) (by first | (subst hE6_0;rfl)))) (hs:=Dn (ds:=[.str "paper",.str "kind",.str "keep",.str "days",.str "coming",.str "first",.str "deep",.str "none",.str "never",.str "gone",.str "held",.str "rule"]) (by first | (subst hE6_0;rfl)))
    case' J=>refine' ai ?K ?L
    case K=>
     generalize hE8_0:S8 _ _=ee8_0;exact(aY (i:=3) oS.nd rfl Wu (fe (lr (df (dv 3)) (df (fe (qr (ds:=[.str "last",.str "end",.str "hold",.str "lift",.str "leave",.str "happens",.str "while",.str "follow",.str "months",.str "years"]) (by first | (subst hE8_0;rfl))))))))
    case' L=>refine' ai ?M ?N
    case M=>exact(aY (i:=4) oS.nd rfl Wu (ar G_k hr T.F_k (aa (dv 0) (aa (PE.imp (aR kh rfl T.n_len Qq (aA (dv 3) aB)) (aE kq)) ah))))
    case' N=>refine' ak ?O
    case' O=>refine' ax ?P
    case' P=>refine' fe ?Q
    case Q=>exact(kC (df (fe (lr (df (fe (kC (df (dv 3)) (bT (dv 4)) kl))) (df (fe (kC (df (dv 3)) kl (bT (dv 4)))))))) kl (bT (dv 1)))
   case' F=>refine' ai ?R ?S
   case R=>exact(aY (i:=5) oS.nd rfl Wu (aW cD cS ae (ar G_k hr T.F_k (aa (dv 0) (aa ae ah)))))
   case' S=>refine' ai ?T ?U
   case T=>exact(aY (i:=6) oS.nd rfl Wu (ar G_k hr T.F_k (aa (dv 0) (aa (dv 5) ah))))
   case' U=>refine' ai ?V ?W
   case V=>
    refine' aY (i:=7) oS.nd rfl Wu ?X (hs:=oO)
    case X=>exact(mJ aw (df (fe (Dh rfl FL rfl T.n_range (aA (dv 5) aB) cj kW tx (λ_ _ _ _=>(bP (i:=0) FL.nd rfl Wu)) (λ_ _ _ _=>kX) (λ_ _ _ _=>(aj xW Ab (dv 1) (ar G_k hr T.F_k (aa (dv 2) (aa ae ah)))))))))
   case' W=>refine' ai ?Y ?Z
   case Y=>exact(aY (i:=8) oS.nd rfl Wu (ar G_k hr T.F_k (aa (dv 0) (aa ae ah))))
   case' Z=>refine' ak ?a
   case' a=>refine' ax ?b
   case' b=>refine' fe ?c
   case c=>exact(Dh rfl FN rfl T.n_range (aA (dv 1) aB) cj kW tx (λ_ _ _ _=>(bP (i:=0) FN.nd rfl Wu)) (λ_ _ _ _=>kX) (λ_ _ _ _=>(aW sO tm (aW sO tm (uQ (df (dv 1)) kl (bT (dv 3))) (aj xW Ab (dv 2) (aW om mT (aW cD cS (dv 4) (aW qQ mT ae (dv 0))) ae))) (uQ (df (dv 1)) (bT (aW cD cS (dv 3) ae)) kl))))
  case B=>
  walk_at "a";rw [show([Pu "paper",Pu "kind",Pu "keep",Pu "days",Pu "coming",Pu "first",Pu "deep",Pu "none",Pu "never",Pu "gone",Pu "held",Pu "rule",Pu "last",Pu "end",Pu "hold",Pu "lift",Pu "leave",Pu "happens",Pu "while",Pu "follow",Pu "months",Pu "years"]:List Ww)=lg.map Pu from rfl];have hl:(lg.map Pu).length=22:=rfl;intro c c0 c1;split
  ·refine⟨tx,tx,λj j0 j1=>?_⟩;have j2:j < 22:=j1;have hj:(j.toNat:Int)=j:=SN j0;rw [qp j0 (by rw [hl];omega),qo j0 (by rw [hl];omega)];have e5:((lg.map Pu).drop j.toNat++(lg.map Pu).take j.toNat)=(lg.drop j.toNat++lg.take j.toNat).map Pu:=by
    rw [RG,Ue,Tc]
   have l5:(lg.drop j.toNat++lg.take j.toNat).length=22:=by
    rw [Rf,RW,Rq,show lg.length=22 from rfl];omega
   refine⟨by rw [RW,Rq,hl];omega,?_⟩;rw [e5,qo tx (by rw [PD,l5];decide),<-Tc];refine q _ ⟨by rw [Rq,l5];rfl,?_,λn hn=>?_⟩
   ·refine List.Nodup.sublist (Uj _ _) ?_;have hp:(lg.drop j.toNat++lg.take j.toNat).Perm lg:=by
     have:=List.perm_append_comm (l₁:=lg.drop j.toNat) (l₂:=lg.take j.toNat)
     rwa [Sy] at this
    exact hp.nodup_iff.mpr NC
   ·exact NF (NG (RQ hn))
  ·intro x x0 x1;refine⟨Ce,Ce,λat0 a0 a1=>⟨Ce,by have:(16777216:Nat)=(16777216:Int):=rfl;omega,?_⟩⟩;refine J6 (λy=>∃c,y= .str ⟨#[c]⟩/\c∈lu.cps.toList) (λy hy R hR=>?_) λds hdl hds=>?_
   ·obtain⟨k,hk,rfl⟩:=QO.mp hy;walk_at "a";refine λj j0 j1=>⟨td,?_⟩;obtain⟨ch,e1,e2,_⟩:=tD j0 j1;exact⟨ch,e1,hR _ ⟨ch,rfl,Rr e2⟩⟩
   ·obtain⟨cs,rfl,hcs⟩:∃cs:List Nat,ds=(cs.map λc=>(⟨#[c]⟩:Str)).map .str/\∀c∈cs,c∈lu.cps.toList:=by
     clear hdl
     induction ds with
     | nil=>exact⟨[],rfl,Wv⟩
     | cons d r ih=>
      obtain⟨c,rfl,hc⟩:=hds d Wv;obtain⟨cs,rfl,h⟩:=ih λy hy=>hds y (by simp [hy]);exact⟨c::cs,rfl,λz hz=>by
       rcases PH.mp hz with e | e
       ·rw [e];exact hc
       ·exact h z e⟩
    rw [Ae,PD,PD] at hdl;have jc:(Txt.join "" (cs.map λc=>(⟨#[c]⟩:Str))).cps.toList=cs:=by
     rw [Ki,Rb];clear hdl hds hcs
     induction cs with
     | nil=>rfl
     | cons c r ih=>rw [Py,R3,ih];rfl
    have sm:((cs.map λc=>(⟨#[c]⟩:Str)).map λx=>x.length).sum=cs.length:=by
     clear hdl hds hcs jc
     induction cs with
     | nil=>rfl
     | cons c r ih=>
      simp only [Py,Sa,Px] at ih⊢;rw [ih,show(⟨#[c]⟩:Str).length=1 from rfl];omega
    refine⟨_,rfl,by rw [sm,PD,show(Pr "").length=0 by decide+kernel];omega,λfi f0 f1=>⟨tx,?_⟩⟩;have hst:(Txt.join "" (cs.map λc=>(⟨#[c]⟩:Str))).length=cs.length:=by rw [nF,jc]
    generalize Txt.join "" (cs.map λc=>(⟨#[c]⟩:Str))=stem at*;have cA:(Txt.slice stem none (some at0)).cps.toList=cs.take at0.toNat:=by rw [DP,jc,Ka a0 Ce]
    have cB:(Txt.slice stem (some (at0+1)) none).cps.toList=cs.drop (at0+1).toNat:=by rw [DP,jc,Kb Ce Ce]
    have lA:(Txt.slice stem none (some at0)).length=at0.toNat:=by rw [nF,cA,Rq];omega
    have lB:(Txt.slice stem (some (at0+1)) none).length=cs.length - (at0+1).toNat:=by rw [nF,cB,RW]
    have lc:∀j,(⟨#[j]⟩:Str).length=1:=λ_=>rfl;refine mK (λy=>match y with | .int k=>.str (vR (Txt.slice stem none (some at0)) (Txt.slice stem (some (at0+1)) none) fi k.toNat) | _=>.none) (λy hy R hR=>?_) ?_
    ·obtain⟨k,hk,rfl⟩:=QO.mp hy;walk_at "a";simp only [Wc,Q9] at hR⊢;have r0:0<=(fi+5*(k:Int))% 26:=Ce
     have r1:(fi+5*(k:Int))% 26 < 26:=Ce
     obtain⟨e1,e2⟩:=JE r0 r1;refine⟨Ce,td,_,e1,by rw [lA,lc];omega,Ce,?_⟩;exact⟨by rw [pF,lA,lB,lc];omega,hR⟩
    ·have e:(lq 0 (Int.toNat 5)).map (λy=>match y with | .int k=>Pu (vR (Txt.slice stem none (some at0)) (Txt.slice stem (some (at0+1)) none) fi k.toNat) | _=>.none)=((Rz 5).map λ(k:Nat)=>vR (Txt.slice stem none (some at0)) (Txt.slice stem (some (at0+1)) none) fi k).map .str:=by
      unfold lq;rw [Rb,Rb];refine TY λk _=>?_;simp only [Function.comp,Wc,Q9]
     rw [e];refine q _ ⟨Wv,?_,λn hn=>?_⟩
     ·rw [List.Nodup,List.pairwise_map];refine We ?_ (List.nodup_range (n:=5));intro a b ha hb hab e;have ha':=Sd.mp ha;have hb':=Sd.mp hb;have z:=JB e;have:=JF Ce Ce Ce Ce z;omega
     ·obtain⟨k,_,rfl⟩:=QO.mp hn;have r0:0<=(fi+5*(k:Int))% 26:=Ce
      have r1:(fi+5*(k:Int))% 26 < 26:=Ce
      unfold vR;refine⟨by rw [pF,pF,lA,lB,lc];omega,by rw [pF,pF,lA,lB,lc];omega,λc hc=>?_⟩;simp only [tq,Sn,Rt] at hc;rcases hc with(h | h) | h
      ·rw [cA] at h;exact hcs c (RQ h)
      ·have:c=l9 ((fi+5*(k:Int))% 26):=by simpa using h
       rw [this];exact NH r0 r1
      ·rw [cB] at h;exact hcs c (R0 h)
open Day
theorem NK{d y m n y' m' n':Int}(D:lI d y m n)(D':lI d y' m' n'):lD y m n=lD y' m' n':=by
 obtain⟨rfl,rfl,rfl⟩:=D.uniq D';rfl
open Classical in
def ku(d:Int):Str:=if h:∃z y m n,lI d y m n/\z=lD y m n then h.choose else Pr ""
theorem vS{d y m n:Int}(D:lI d y m n):lD y m n=ku d:=by
 have h:∃z y m n,lI d y m n/\z=lD y m n:=⟨_,y,m,n,D,rfl⟩;unfold ku;rw [dif_pos h];obtain⟨y',m',n',D',e⟩:=h.choose_spec;rw [e];exact NK D D'
def km:Ww->List Str
 | .tuple [.str a]=>[a]
 | .tuple [.str a,.str b]=>[a,b]
 | _=>[]
def lQ:Ww->List Str
 | .tuple [.str w,.str k]=>[w,k]
 | .tuple [.str w,.str k,s,.int m,.str u]=>[w,k,Txt.join (Pr ":") (km s),Pr (toString m),u]
 | _=>[]
def pO:Ww->List Str
 | .tuple l=>l.filterMap λd=>match d with | .str z=>some z | _=>none
 | _=>[]
def lX:List Ww->List Str
 | [.str k,.tuple l]=>k::pO (.tuple l)
 | [.tuple [.str g,.str y],.bool b]=>[g,y]++if b=true then [Pr "deep"] else []
 | [.str y]=>[y]
 | [.tuple l]=>lQ (.tuple l)
 | _=>[]
theorem rT(ms:List Str):pO (.tuple (ms.map .str))=ms:=by
 show List.filterMap _ (ms.map Pu)=ms;rw [Vi];exact List.filterMap_some
theorem NL:(Pr ":").length=1:=td
theorem t8:(Pr " ").length=1:=td
theorem vT{s:Ww}(h:lU s):s= .tuple ((km s).map .str)/\((km s).map (λx:Str=>x.length)).sum+(km s).length*(Pr ":").length<=16777216:=by
 rw [NL];cases h with
 | coming=>exact⟨rfl,td⟩
 | @first h hn=>
  refine⟨rfl,?_⟩;have a:(Pr "first").length=5:=td
  have:=hn.hi;simp only [km,Py,Qf,Sa,Vm,Px,P5,a];omega
 | @last h hn=>
  refine⟨rfl,?_⟩;have a:(Pr "last").length=4:=td
  have:=hn.hi;simp only [km,Py,Qf,Sa,Vm,Px,P5,a];omega
theorem oU{d:Ww}(h:bo d):∃w n x r,d= .tuple (.str w:: .int n:: .str x::r)/\lx n:=by
 cases h with
 | paper a=>exact⟨_,_,_,_,rfl,a⟩
 | two _ a=>exact⟨_,_,_,_,rfl,a⟩
 | rule a=>exact⟨_,_,_,_,rfl,a⟩
 | one _ a=>exact⟨_,_,_,_,rfl,a⟩
 | hold a=>exact⟨_,_,_,_,rfl,a⟩
def NM:List Ww->(Ww->Prop)->Prop:=λds Q=>∃p,ds=[p]/\lV p/\Q (.list ((lQ p).map .str))
theorem NN(T:Txt K mg t):aF P w K mg base CX0 1 t.a_Y t.d_Y ["parts"] (bh K NM):=by
 refine T.F_Y.F.okD ME (λds Q h=>?_) (λ_ _ _ _ H O ds Q E hr h=>?_)
 ·obtain⟨p,rfl,_⟩:=h;rfl
 ·obtain⟨p,rfl,hp,q⟩:=h;refine'⟨_,?A,?B⟩
  case A=>
   refine' ai ?C ?D
   case C=>
    refine' aH ?E ?F aG
    case E=>exact(aD (cJ hr.units) cK (PE.imp (aR kh rfl T.n_len Qq (aA (dv 0) aB)) (aE kq)) ae (av _))
    case' F=>refine' ak ?G
    case G=>exact(ax (fe (qm rfl T.n_list qh (aA (dv 0) aB))))
   case' D=>refine' ak ?H
   case' H=>generalize hG6:S8 _ _=eg6
   refine' ax ?I
   case' I=>subst hG6
   refine' fe ?J
   case' J=>refine' bz ?K
   case' K=>refine' aa ?L ?M
   case L=>exact(aj aI aK (dv 0) ae)
   case' M=>refine' aa ?N ?O
   case N=>exact(aj aI aK (dv 0) ae)
   case' O=>refine' aa ?P ?Q
   case P=>exact(ED aw (df (aj aI aK (dv 0) ae)))
   case' Q=>refine' aa ?R ?S
   case R=>exact(PE.imp (cE oo rfl T.n_str mS (aA (aj aI aK (dv 0) ae) aB)) (aE oP))
   case' S=>refine' aa ?T ah
   case T=>exact(aj aI aK (dv 0) ae)
  case B=>
  clear hr T;cases hp with
  | wfl hw hk=>
   walk_at "a";rw [Wt tx];exact q
  | kg hw hk hs h0 h1 hu=>
   walk_at "a";rw [Ws tx];obtain⟨e,z⟩:=vT hs;exact⟨_,e,z,nX h0 Ce,q⟩
def NO:List Ww->(Ww->Prop)->Prop:=λds Q=>∃(w:Str)(r:List Ww)(n:Int)(x:Str),ds=[.str w,.tuple r]/\bo (.tuple (.str w:: .int n:: .str x::r))/\Q (.list ((lX r).map .str))
theorem NP(T:Txt K mg t):aF P w K mg base CX0 2 t.a_Z t.d_Z ["word","parts"] (bh K NO):=by
 have G_Y:=@NN P w _ _ base _ T;refine T.F_Z.F.okD MF (λds Q h=>?_) (λ_ _ _ _ H O ds Q E hr h=>?_)
 ·obtain⟨w,r,n,x,rfl,_⟩:=h;rfl
 ·obtain⟨w,r,n,x,rfl,hd,q⟩:=h;refine'⟨_,?A,?B⟩
  case A=>
   refine' ai ?C ?D
   case C=>
    refine' aH ?E ?F aG
    case E=>exact(aD (fq hr) ft (dv 0) aw (av _))
    case' F=>refine' ak ?G
    case' G=>refine' ax ?H
    case' H=>refine' fe ?I
    case' I=>refine' lr (df ?J) (df ?K)
    case J=>exact(fe (bz (aa (aj aI aK (dv 1) ae) ah)))
    case K=>exact(fe (qm rfl T.n_list qh (aA (aj aI aK (dv 1) ae) aB)))
   case' D=>refine' ai ?L ?M
   case L=>
    refine' aH ?N ?O aG
    case N=>exact(aD (fq hr) ft (dv 0) aw (av _))
    case' O=>refine' ak ?P
    case P=>exact(ax (ar G_Y hr T.F_Y (aa (aj aI aK (dv 1) ae) ah)))
   case' M=>refine' ai ?Q ?R
   case Q=>
    refine' aH ?S ?T aG
    case S=>exact(aD (fq hr) ft (dv 0) aw (av _))
    case' T=>refine' ak ?U
    case' U=>refine' ax ?V
    case' V=>refine' fe ?W
    case' W=>refine' lr (df ?X) (df ?Y)
    case X=>exact(fe (qm rfl T.n_list qh (aA (aj aI aK (dv 1) ae) aB)))
    case Y=>exact(uL (cb (aj aI aK (dv 1) ae)) (fe (bz (aa aw ah))) (fe (bz ah)))
   case' R=>refine' ak ?Z
   case Z=>exact(ax (fe (qm rfl T.n_list qh (aA (dv 1) aB))))
  case B=>
  clear hr T G_Y;have nw:∀{u v:Str}{l:List Str},u∈l->(∀z∈l,z≠v)->(u==v)=false:=λh h2=>by simpa using h2 _ h
  cases hd with
  | @paper _ _ k ms _ _ _ hm=>
   walk_at "a";have:=hm.len;refine⟨by rw [PD];omega,?_⟩;have e:lX [Pu k,QF (QY Pu ms)]=k::ms:=by
    show k::pO (.tuple (ms.map .str))=_;rw [rT]
   rw [e] at q;exact q
  | two hw=>
   walk_at "a";rw [nw hw td,nw hw td,nw hw td,Ws Qx,Ws Qx,Ws Qx];exact q
  | rule _ _ hp=>
   walk_at "a";refine⟨_,rfl,hp,?_⟩;cases hp <;> exact q
  | one hw=>
   walk_at "a";rw [nw hw td,nw hw td,nw hw td,Ws Qx,Ws Qx,Ws Qx];exact q
  | @hold _ _ g y b=>
   walk_at "a";cases b
   ·rw [Ws Qx];exact q
   ·rw [Wt rfl];exact q
def kF:Ww->List Str
 | .tuple (.str w:: .int n:: .str x::r)=>w::ku n::x::lX r
 | _=>[]
def bf(d:Ww):Str:=Txt.join (Pr " ") (kF d)
def Wz(z:Str):Prop:=z.length<=20/\∀c∈z.cps.toList,32 < c/\c < 128
theorem tu:∀c∈lu.cps.toList,(32 < c/\c < 128)/\c≠58:=td
theorem nY{z:Str}(h:Nm z):Wz z:=⟨Qz h.hi tx,λc hc=>(tu c (h.ab _ hc)).1⟩
theorem FO{z:Str}(h:Nm z):58 ∉ z.cps.toList:=λc=>(tu 58 (h.ab _ c)).2 rfl
theorem NR{z:Str}(h:Wz z):32 ∉ z.cps.toList:=λc=>RR _ (h.2 32 c).1
theorem vU{n:Int}(h:lx n):n < bu 10000:=by
 have:bu 10000=2921940:=tx
 have:=h.2;omega
theorem NS{n:Int}(h:lx n):Wz (ku n):=by
 unfold ku;split
 ·rename_i hx;obtain⟨y,m,k,D,e⟩:=hx.choose_spec;rw [e];refine⟨by rw [EC];decide,?_⟩;have e:(lD y m k).cps.toList=d4 y.toNat++45::(d2 m.toNat++45::d2 k.toNat):=by simp [lD,rF]
  have hy:=vk D h.1 (vU h);have hb:=rC (y:=y) D.m1 D.m12;have:=D.m12;have:=D.nl;intro c hc;rw [e] at hc;simp only [d4,d2,Qa,P6,PH,P1,or_false] at hc;rcases hc with h | h | h | h | h | h | h | h | h | h <;> omega
 ·unfold Wz;decide+kernel
theorem BJ:∀{a b:List Str},a.map (λp:Str=>p.cps.toList)=b.map (λp:Str=>p.cps.toList)->a=b
 | [],[],_=>rfl
 | [],_::_,h=>by simp at h
 | _::_,[],h=>by simp at h
 | ⟨⟨x⟩⟩::a,⟨⟨y⟩⟩::b,h=>by
  simp only [Py,PJ] at h;rw [BJ h.2,h.1]
theorem vV{c:Nat}{ws:List Str}(hn:ws≠[])(h:∀z∈ws,c ∉ z.cps.toList):Txt.split (Txt.join ⟨#[c]⟩ ws) ⟨#[c]⟩=ws:=by
 have e:Txt.join ⟨#[c]⟩ ws=SM ⟨#[c]⟩ ws:=RU _ _;have h1:=rG (Txt.join ⟨#[c]⟩ ws) c;rw [e,qy,AN c _ (by simpa using hn) (λp hp=>by obtain⟨q,hq,rfl⟩:=QO.mp hp;exact h q hq)] at h1;rw [e];exact BJ h1
theorem rV:Pr ":"=⟨#[58]⟩:=td
theorem pP:Pr " "=⟨#[32]⟩:=td
def ky(m:Int):Str:=Pr (toString m)
theorem NT:∀m:Fin 1000,((ky (m.val:Int)).length<=3/\1<=(ky (m.val:Int)).length)/\bN (ky (m.val:Int)) ((ky (m.val:Int)).length:Int)=true/\(1 < (ky (m.val:Int)).length->(ky (m.val:Int)).cps.toList.headD 48≠48)/\(ky (m.val:Int)).cps.toList.all (λc=>decide (48<=c/\c<=57))=true:=td
theorem BK{m:Int}(h0:0<=m)(h1:m<=999):((ky m).length<=3/\1<=(ky m).length)/\bN (ky m) ((ky m).length:Int)=true/\(1 < (ky m).length->(ky m).cps.toList.headD 48≠48)/\(ky m).cps.toList.all (λc=>decide (48<=c/\c<=57))=true:=by
 obtain⟨k,rfl⟩:=Q2 h0;exact NT ⟨k,Ce⟩
theorem FP{m:Int}(h0:0<=m)(h1:m<=999):Wz (ky m):=by
 obtain⟨a,_,_,b⟩:=BK h0 h1;refine⟨Qz a.1 tx,λc hc=>?_⟩;have:=of_decide_eq_true (Rj.mp b _ hc);omega
theorem ua{c x:Nat}:∀{ps:List (List Nat)},x∈lJ c ps->x=c\/∃p∈ps,x∈p
 | [],h=>by cases h
 | [p],h=>.inr ⟨p,Wv,h⟩
 | p::q::r,h=>by
  have h:x∈p++c::lJ c (q::r):=h;rcases Rt.mp h with z | z
  ·exact .inr ⟨p,Wv,z⟩
  ·rcases PH.mp z with z | z
   ·exact .inl z
   ·rcases ua z with z | ⟨s,hs,z⟩
    ·exact .inl z
    ·exact .inr ⟨s,by simp at hs⊢;exact .inr hs,z⟩
theorem BL{s:Ww}(h:lU s):km s≠[]/\∀z∈km s,Wz z/\58 ∉ z.cps.toList/\z.length<=8:=by
 have c1:Wz (Pr "coming")/\58 ∉ (Pr "coming").cps.toList/\(Pr "coming").length<=8:=by unfold Wz;decide+kernel
 have c2:Wz (Pr "first")/\58 ∉ (Pr "first").cps.toList/\(Pr "first").length<=8:=by unfold Wz;decide+kernel
 have c3:Wz (Pr "last")/\58 ∉ (Pr "last").cps.toList/\(Pr "last").length<=8:=by unfold Wz;decide+kernel
 cases h with
 | coming=>exact⟨by simp [km],λz hz=>by rw [km,Rc] at hz;rw [hz];exact c1⟩
 | first hn=>
  refine⟨by simp [km],λz hz=>?_⟩;simp only [km,PH,P1,or_false] at hz;rcases hz with rfl | rfl
  ·exact c2
  ·exact⟨nY hn,FO hn,hn.hi⟩
 | last hn=>
  refine⟨by simp [km],λz hz=>?_⟩;simp only [km,PH,P1,or_false] at hz;rcases hz with rfl | rfl
  ·exact c3
  ·exact⟨nY hn,FO hn,hn.hi⟩
theorem BM(c:Nat):∀ps:List (List Nat),(lJ c ps).length<=(ps.map Td).sum+ps.length
 | []=>Rv _
 | [p]=>by show p.length<=_;simp
 | p::q::r=>by
  have ih:=BM c (q::r);show(p++c::lJ c (q::r)).length<=_;rw [Rf,Px,Py,Sa,Px];omega
theorem NU{s:Ww}(h:lU s):Wz (Txt.join (Pr ":") (km s)):=by
 obtain⟨_,hw⟩:=BL h;have hl:(km s).length<=2:=by cases h <;> simp [km]
 rw [rV];have e:(Txt.join ⟨#[58]⟩ (km s)).cps.toList=lJ 58 ((km s).map λp=>p.cps.toList):=by
  rw [show Txt.join ⟨#[58]⟩ (km s)=SM ⟨#[58]⟩ (km s) from RU _ _,qy]
 refine⟨?_,λc hc=>?_⟩
 ·show(Txt.join ⟨#[58]⟩ (km s)).cps.size<=20;rw [<-P2,e];refine Qz (BM _ _) ?_;rw [Rb,PD];have:∀l:List Str,(∀z∈l,z.length<=8)->(l.map (Td ∘ λp:Str=>p.cps.toList)).sum<=8*l.length:=λl=>by
   induction l with
   | nil=>simp
   | cons a l ih=>
    intro hh;have h1:=ih λz hz=>hh z (by simp [hz]);have h2:a.cps.toList.length<=8:=by rw [P2];exact hh a Wv
    rw [Py,Sa,Px];show a.cps.toList.length+_<=_;omega
  have:=this (km s) λz hz=>(hw z hz).2.2;omega
 ·rw [e] at hc;rcases ua hc with z | ⟨p,hp,z⟩
  ·rw [z];decide
  ·obtain⟨q,hq,rfl⟩:=QO.mp hp;exact(hw q hq).1.2 c z
theorem lits_wz:∀z∈(["keep","gone","while","follow","leave","days","months","years","paper","kind","happens","rule","end","lift","hold","deep"]:List Str),Wz z:=by unfold Wz;decide+kernel
theorem NV{p:Ww}(h:lV p):(lQ p).length<=5/\∀z∈lQ p,Wz z:=by
 cases h with
 | wfl hw hk=>
  refine⟨by simp [lQ],λz hz=>?_⟩;simp only [lQ,PH,P1,or_false] at hz hw;rcases hz with rfl | rfl
  ·rcases hw with rfl | rfl | rfl <;> exact lits_wz _ Wv
  ·exact nY hk
 | kg hw hk hs h0 h1 hu=>
  refine⟨by simp [lQ],λz hz=>?_⟩;simp only [lQ,units,PH,P1,or_false] at hz hw hu;rcases hz with rfl | rfl | rfl | rfl | rfl
  ·rcases hw with rfl | rfl <;> exact lits_wz _ Wv
  ·exact nY hk
  ·exact NU hs
  ·exact FP h0 h1
  ·rcases hu with rfl | rfl | rfl <;> exact lits_wz _ Wv
theorem uc{d:Ww}(h:bo d):(kF d).length<=8/\∀z∈kF d,Wz z:=by
 have key:∀{w:Str}{n:Int}{x:Str}{ws:List Str},Wz w->lx n->Nm x->ws.length<=5->(∀z∈ws,Wz z)->(w::ku n::x::ws).length<=8/\∀z∈w::ku n::x::ws,Wz z:=λhw hn hx hl hz=>by
  refine⟨by simp only [Px];omega,λz hz'=>?_⟩;rcases PH.mp hz' with rfl | hz'
  ·exact hw
  ·rcases PH.mp hz' with rfl | hz'
   ·exact NS hn
   ·rcases PH.mp hz' with rfl | hz'
    ·exact nY hx
    ·exact hz z hz'
 cases h with
 | @paper n x k ms hn hx hk hm=>
  have e:kF (.tuple [.str "paper",.int n,.str x,.str k,.tuple (ms.map .str)])=Pr "paper"::ku n::x::k::ms:=by
   show Pr "paper"::ku n::x::k::pO (.tuple (ms.map .str))=_;rw [rT]
  rw [e];have:=hm.len;refine key (lits_wz _ Wv) hn hx (by rw [Px];omega) λz hz=>?_;rcases PH.mp hz with rfl | hz
  ·exact nY hk
  ·exact nY (hm.nm z hz)
 | two hw hn hx hy=>
  simp only [PH,P1,or_false] at hw;refine key (ws:=[_]) (by rcases hw with rfl | rfl <;> exact lits_wz _ Wv) hn hx Wv λz hz=>?_;rw [Rc] at hz;rw [hz];exact nY hy
 | rule hn hx hp=>
  have hr:=NV hp;cases hp <;> exact key (lits_wz _ Wv) hn hx hr.1 hr.2
 | one hw hn hx=>
  simp only [PH,P1,or_false] at hw;exact key (ws:=[]) (by rcases hw with rfl | rfl <;> exact lits_wz _ Wv) hn hx Wv λz hz=>by cases hz
 | @hold n x g y b hn hx hg hy=>
  simp only [PH,P1,or_false] at hg;have wg:Wz g:=by rcases hg with rfl | rfl <;> exact lits_wz _ Wv
  refine key (ws:=[g,y]++if b=true then [Pr "deep"] else []) (lits_wz _ Wv) hn hx (by cases b <;> simp) λz hz=>?_;cases b
  ·simp only [PY,PH,P1,or_false,PZ,if_false] at hz;rcases hz with rfl | rfl
   ·exact wg
   ·exact nY hy
  ·simp only [if_true,Qa,P6,PH,P1,or_false] at hz;rcases hz with rfl | rfl | rfl
   ·exact wg
   ·exact nY hy
   ·exact lits_wz _ Wv
theorem vW:∀{ws:List Str},(∀z∈ws,Wz z)->(ws.map (λx:Str=>x.length)).sum<=20*ws.length
 | [],_=>by simp
 | a::l,h=>by
  have ih:=vW (ws:=l) λz hz=>h z (by simp [hz]);have:=(h a Wv).1;rw [Py,Sa,Px];omega
theorem ue{d:Ww}(h:bo d):QX (bf d)=true/\(bf d).length<=200:=by
 obtain⟨hl,hw⟩:=uc h;have e:(bf d).cps.toList=lJ 32 ((kF d).map λp=>p.cps.toList):=by
  unfold bf;rw [pP,show Txt.join ⟨#[32]⟩ (kF d)=SM ⟨#[32]⟩ (kF d) from RU _ _,qy]
 refine⟨nQ.mpr λc hc=>?_,?_⟩
 ·rw [e] at hc;rcases ua hc with z | ⟨p,hp,z⟩
  ·rw [z];decide
  ·obtain⟨q,hq,rfl⟩:=QO.mp hp;exact Vk (hw q hq |>.2 c z).2 tx
 ·show(bf d).cps.size<=200;rw [<-P2,e];refine Qz (BM _ _) ?_;rw [Rb,PD];have sm:=vW hw;have e2:(kF d).map (Td ∘ λp:Str=>p.cps.toList)=(kF d).map λx:Str=>x.length:=TY λz _=>P2;rw [e2];omega
def NW:List Ww->(Ww->Prop)->Prop:=λds Q=>∃d,ds=[d]/\bo d/\Q (.str (bf d))
theorem FQ(T:Txt K mg t):aF P w K mg base CX0 6 t.a_a t.d_a ["deed"] (bh K NW):=by
 have G_L:=@Ng P w _ _ base _ T;have G_Z:=@NP P w _ _ base _ T;refine T.F_a.F.okD MG (λds Q h=>?_) (λ_ _ _ _ H O ds Q E hr h=>?_)
 ·obtain⟨d,rfl,_⟩:=h;rfl
 ·obtain⟨d,rfl,hd,q⟩:=h;refine'⟨_,?A,?B⟩
  case A=>
   refine' ak ?C
   case' C=>generalize hG2:VY _ _ _ _=eg2
   refine' ax ?D
   case' D=>subst hG2
   exact(mJ aw (df (fe (lr (df (fe (bz (aa (aj aI aK (dv 0) ae) (aa (ar G_L hr T.F_L (aa (aj aI aK (dv 0) ae) ah)) (aa (aj aI aK (dv 0) ae) ah)))))) (df (ar G_Z hr T.F_Z (aa (aj aI aK (dv 0) ae) (aa (tE (df (dv 0)) (bT ae) kl) ah))))))))
  case B=>
  clear hr T G_L G_Z;have hw:=uc hd;obtain⟨w,n,x,r,rfl,hn⟩:=oU hd;walk_at "a";have sm:=vW hw.2;have hl:=hw.1;have e:kF (.tuple (.str w:: .int n:: .str x::r))=w::ku n::x::lX r:=rfl;rw [e] at sm hl;refine⟨n,rfl,hn.1,vU hn,λy m k D=>?_⟩;rw [vS D];refine⟨w,r,n,x,rfl,hd,_,rfl,?_,w::ku n::x::lX r,rfl,?_,q⟩
  ·rw [PD];simp only [Px] at hl;omega
  ·rw [t8];omega
local macro_rules | `(tactic| walk_at "d") =>rzT "um wI wL wK wJ qP ni oh tC p4 wY rI mR rU xK xM pd uy tB wu wz wA wD wF wG wH sQ sP uB sR xP xQ sF qN sE wN wO CL CM CN CO CP CQ CS CT bZ cC b0 L2.start Py Qf Px P5 PK Qa P6 PY QD QE QP QK QQ PR PL P8 P9 P0 exists_eq_left' exists_eq_left exists_and_left exists_and_right V.int.injEq V.bl.injEq V.str.injEq V.ref.injEq PJ and_true true_and QR exists_const decide_eq_true_eq QS QU QH QI P4 decide_eq_false_iff_not and_assoc bF Ql Qc Qm L2.cxK L2.cmK or_true true_or uz if_true if_false PZ Qb not_true_eq_false not_false_eq_true QL QA ite_true ite_false eq_self L2.E0 exists_eq forall_eq'"
def kZ(z:Str):Ww:=match me z with
 | some k=>.int k
 | none=>.none
def NX:List Ww->(Ww->Prop)->Prop:=λds Q=>∃z:Str,ds=[.str z]/\z.length<=1000/\Q (kZ z)
theorem NY(T:Txt K mg t):aF P w K mg base CX0 5 t.a_d t.d_d ["word"] (bh K NX):=by
 have G_N:=@Nk P w _ _ base _ T;refine T.F_d.F.ok MJ (λvs H Q E h=>?_) (λcdv A outer s H vs Q E hr h=>?_)
 ·obtain⟨O,ds,Qd,_,r,⟨d,rfl,_⟩,_⟩:=h;exact r.length
 ·obtain⟨O,ds,Qd,tr,r,⟨z,rfl,hz,q⟩,k⟩:=h;obtain⟨v,rfl,r1⟩:∃v,vs=[v]/\Dt K H O v (.str z):=by
   cases r with
   | cons r1 r2=>cases r2;exact⟨_,rfl,r1⟩
  refine'⟨_,?A,?B⟩
  case A=>
   refine' kA ?C
   case C=>exact(Ml (C:=t.u_NoText) G_N (hr.mono tx) rfl T.F_N.m T.F_N.kp T.F_N.b (λE'=>(aQ (pv 0) bM)) rfl rfl T.c_NoText rfl T.xm_NoText.seen T.xm_NoText.seen tx T.i_NoText_NoText (λe=>(kA (kS pX))))
  case B=>
  walk_at "d";have ha:Fy (.str z):=And.intro (λx h=>by cases h) (λy h=>by cases h;exact hz);refine⟨_,rfl,O,[.str z],λx=>x=kZ z,λn=>me z=none,tr,.cons r1 .nil,⟨_,rfl,ha,λk hk=>?_,λh=>h⟩,?_,?_⟩
  ·unfold kZ;rw [show me z=some k from hk]
  ·rintro x v2 H2 rfl s2 r2;exact k _ _ _ q s2 r2
  ·rintro n hn dd H2 s2 hdd;refine⟨rfl,λe he=>?_⟩;walk_at "d";have e0:kZ z= .none:=by unfold kZ;rw [hn]
   rw [e0] at q;exact k _ _ _ q (s2.trans (aq.new he)) .non
def BN(a:Nat):List Nat:=[48+a]
def BO(a:Nat):List Nat:=[48+a / 100,48+a / 10 % 10,48+a % 10]
theorem NZ:∀m:Fin 10,intText? ⟨(BN m.val).toArray⟩=some (m.val:Int):=td
theorem N0:∀m:Fin 1000,intText? ⟨(BO m.val).toArray⟩=some (m.val:Int):=td
theorem BP{z:Str}{k:Int}(h:bN z k=true)(h1:1<=k)(h3:k<=3):∃y:Nat,y < 1000/\intText? z=some (y:Int):=by
 unfold bN at h;rw [Qh,decide_eq_true_eq,Rj] at h;obtain⟨hl,hm⟩:=h;have hz:z.cps.toList.length=1\/z.cps.toList.length=2\/z.cps.toList.length=3:=by rw [show z.cps.toList.length=z.length from P2];omega
 have fm:∀x∈z.cps.toList,48<=x/\x < 58:=λx hx=>tY (by simpa using hm x hx)
 match e:z.cps.toList with
 | [a]=>
  have ha:=fm a (by rw [e];simp);have e1:[a]=BN (a - 48):=by unfold BN;rw [PJ];exact⟨Ce,rfl⟩
  exact⟨a - 48,Ce,by rw [pN e,e1];exact NZ ⟨a - 48,Ce⟩⟩
 | [a,b]=>
  have ha:=fm a (by rw [e];simp);have hb:=fm b (by rw [e];simp);have e1:[a,b]=d2 ((a - 48)*10+(b - 48)):=by unfold d2;rw [PJ,PJ];exact⟨Ce,Ce,rfl⟩
  exact⟨(a - 48)*10+(b - 48),Ce,by rw [pN e,e1];exact rE ⟨_,Ce⟩⟩
 | [a,b,c]=>
  have ha:=fm a (by rw [e];simp);have hb:=fm b (by rw [e];simp);have hc:=fm c (by rw [e];simp);have e1:[a,b,c]=BO ((a - 48)*100+(b - 48)*10+(c - 48)):=by unfold BO;rw [PJ,PJ,PJ];exact⟨Ce,Ce,Ce,rfl⟩
  exact⟨(a - 48)*100+(b - 48)*10+(c - 48),Ce,by rw [pN e,e1];exact N0 ⟨_,Ce⟩⟩
 | []=>rw [e] at hz;simp at hz
 | _::_::_::_::r=>rw [e] at hz;simp at hz
def uf(z:Str):Prop:=1<=z.length/\z.length<=3/\bN z (z.length:Int)=true/\¬(1 < z.length/\z.cps.toList.headD 48=48)
instance {z:Str}:Decidable (uf z):=by unfold uf;infer_instance
def nZ(z:Str):Ww:=if uf z then .int (nv z) else .none
def N1:List Ww->(Ww->Prop)->Prop:=λds Q=>∃z:Str,ds=[.str z,.int 3]/\z.length<=1000/\Q (nZ z)
theorem N2(T:Txt K mg t):aF P w K mg base CX0 2 t.a_c t.d_c ["word","figures"] (bh K N1):=by
 have G_M:=@Fq P w _ _ base _ T;refine T.F_c.F.okD MI (λds Q h=>?_) (λ_ _ _ _ H O ds Q E hr h=>?_)
 ·obtain⟨m,rfl,_⟩:=h;rfl
 ·obtain⟨z,rfl,hz,q⟩:=h;refine'⟨_,?A,?B⟩
  case A=>
   refine' ai ?C ?D
   case C=>
    refine' aH ?E ?F aG
    case E=>exact(PW.pt (ke (kj (pA ko ko ck ck (df ae) (df (PE.imp (aR oz rfl T.n_len Qq (aA (dv 0) aB)) (aE oJ))) (df (dv 1)))) (kG (kj (cb (ar G_M hr T.F_M (aa (dv 0) (aa (PE.imp (aR oz rfl T.n_len Qq (aA (dv 0) aB)) (aE oJ)) ah))))))))
    case F=>refine' ak (ax ki)
   case' D=>refine' ak ?G
   case' G=>refine' ax ?H
   case H=>exact(uL (PW.pt (kH (aD pe ck (PE.imp (aR oz rfl T.n_len Qq (aA (dv 0) aB)) (aE oJ)) ae (av _)) (lG (aD (fq hr) ft (aj xW Ab (dv 0) ae) aw (av _))))) ki (PE.imp (cE rA rfl T.n_int nj (aA (dv 0) aB)) (aE rB)))
  case B=>
  clear hr T G_M;simp only [Fs,true_and,↓jd,↓jm,↓jn,↓jo,↓jq,↓jr,↓jt,↓je,↓fB,↓iK,↓jT,↓jU,↓jV,↓jW,↓jX,↓jY,↓iL,↓iM,↓iN,↓iO,↓iP,↓iQ,↓iR,↓iS,↓iT,↓iU,↓iV,↓iW,↓iX,↓iY,↓iZ,↓i3,↓i4,↓i5,↓i6,↓i7,↓i8,↓i9,↓ja,↓jb,cf,cN,cg,dD,fR,fS,cO,dE,dF,dM,dN,fX,dh,dC,bB,dI,dU,dW,dX,gf,dY,cn,eJ,eG,d3,dZ,dL,cP,di,fO,cG,cy,bI,dj,dm,dn,dz,fP,dA,dB,cH,cz,fQ,gK,gM,gN,gO,gP,gQ,gR,gS,gT,gU,gW,gX,gY,gZ,g6,g9,hJ,hV,hW,hX,hZ,h7,ic,ie,ig,ij,ik,il,ip,iq,iu,iw,ix,iy,iz,iA,iB,iC,iD,iE,iF,iG,iH,gL,d8,gc,eL,cV,gj,gh,d6,d7,d9,eg,ei,eD,eF,cT,eM,eN,eO,bS,fY,fZ,gb,dO,dP,fT,fU,dQ,fV,dR,fW,fj,fv,fw,gH,gI,gG,gJ,eZ,ff,fg,fh,cq,fu,fk,eX,eY,fx,fy,fz,fA,cu,iI,iJ,jg,jf,jh,ji,jj,jk,jl,fC,fD,jx,jv,jw,ju,jC,jy,jz,jA,jB,cX,fE,jG,jH,jD,jE,jF,jI,jJ,jK,fF,jL,jM,fG,jO,fH,jP,jQ,jR,jN,jS,fJ,fK,fL,fM,jZ,j3,j5,fN,bY,gx,gy,gz,gA,gB,gC,gD,gE,gF,ne_eq,bK,gp,gr,gs,gu,gk,gm,gn,cI,cR,dS,cQ,dJ,dH,dG,bJ,bU,bp,bZ,cC,b0,Py,Qf,Px,P5,PK,Qa,P6,PY,QD,QE,QP,QK,QQ,PR,PL,Qc,P8,P9,P0,exists_eq_left',exists_eq_left,exists_and_left,exists_and_right,Ql,Qm,Sl.v.injEq,Sl.o.injEq,Sl.k.injEq,Qp,Qj,Qr,Qe,Qk,PJ,and_true,true_and,QR,Qs,exists_const,decide_eq_true_eq,QS,QU,QH,QI,P4,decide_eq_false_iff_not,and_assoc,or_true,true_or,↓reduceIte,if_true,if_false,PZ,Qb,not_true_eq_false,not_false_eq_true,QL,QA,ite_true,ite_false,eq_self,exists_eq,reduceCtorEq,false_and,and_false,or_false,false_or,exists_false,Qv,Qy,cx,QG,QV,QC,QW,P7,QB,Qg,QM,aV,bw,bX,cU,eQ,aT,cL,eV,beq_self_eq_true,eR,eT,gi,aS,WN];have hl:z.cps.toList.length=z.length:=P2;have no:¬uf z->Q .none:=λh=>by unfold nZ at q;rw [Ws h] at q;exact q
  refine⟨Ce,?_⟩;split
  ·rename_i h1;split
   ·rename_i h2;exact no λh=>by have:=h.2.1;omega
   ·rename_i h2;refine⟨Ce,Ce,?_⟩;by_cases hf:bN z (z.length:Int)=true
    ·rw [Ws (by rw [hf];decide)];refine⟨Ce,?_⟩;obtain⟨y,y1,y2⟩:=BP hf h1 Ce;have fin:¬(1 < z.length/\z.cps.toList.headD 48=48)->∃x,intText? z=some x/\z.length<=640/\Q (.int x):=λh=>by
      have g:uf z:=⟨Ce,Ce,hf,h⟩;unfold nZ at q;rw [Wt g] at q;exact⟨_,y2,Ce,by unfold nv at q;rw [y2] at q;exact q⟩
     split
     ·rename_i h3;refine⟨Ce,?_⟩
      match e:z.cps.toList with
      | []=>rw [e] at hl;simp at hl;omega
      | c::r=>
       refine⟨c,aV,?_⟩;by_cases hc:c=48
       ·rw [Wt (by rw [hc];decide+kernel)];exact no λh=>h.2.2.2 ⟨Ce,by rw [e,hc];rfl⟩
       ·rw [Ws λz=>hc (by
         have z:=eq_of_beq z;rw [show Pr "0"=⟨#[48]⟩ by decide+kernel] at z;simpa using z)]
        exact fin λh=>hc (by have:=h.2;rw [e] at this;exact this)
     ·rename_i h3;exact fin λh=>h3 Ce
    ·rw [Wt (by simpa using hf)];exact no λh=>hf h.2.2.1
  ·rename_i h1;exact no λh=>by have:=h.1;omega
theorem FT{xs:List Ww}{k:Nat}:bA xs none (some (k:Int))=xs.take k:=by
 by_cases h:k<=xs.length
 ·rw [qo Ce Ce,Q9]
 ·unfold bA;have e:HT.sIx xs.length xs.length (some (k:Int))=xs.length:=by
   simp only [HT.sIx];rw [Ws Ce,Q9];omega
  rw [qc,UP,V9,e,RJ (PQ _),RJ Ce]
theorem N3{xs:List Ww}{k:Nat}:bA xs (some (k:Int)) none=xs.drop k:=by
 by_cases h:k<=xs.length
 ·rw [qp Ce Ce,Q9]
 ·unfold bA;have e:HT.sIx xs.length 0 (some (k:Int))=xs.length:=by
   simp only [HT.sIx];rw [Ws Ce,Q9];omega
  rw [e,RK (PQ _),RK Ce,U7]
theorem vX{ws:List Str}{k:Nat}:bA (ws.map Pu) none (some (k:Int))=(ws.take k).map .str:=by rw [FT,Tc]
theorem pQ{ws:List Str}{k:Nat}:bA (ws.map Pu) (some (k:Int)) none=(ws.drop k).map .str:=by rw [N3,Ue]
theorem FU:∀{ws:List Str},(∀z∈ws,QX z=true)->Q6 (ws.map .str)=true/\Ry (ws.map .str)=0
 | [],_=>⟨rfl,rfl⟩
 | z::r,h=>by
  obtain⟨a,b⟩:=FU (ws:=r) λy hy=>h y (by simp [hy]);rw [Py,Q6,Ry,a,b,QZ,h z Wv];exact⟨rfl,rfl⟩
theorem pR{ws:List Str}(h:∀z∈ws,QX z=true):PM (.list (ws.map .str))=true/\PM (.tuple (ws.map .str))=true:=by
 obtain⟨a,b⟩:=FU h;unfold PM;rw [QZ,QZ,Sk,Sk,a,b];exact⟨rfl,rfl⟩
theorem vY:∀{a b:List Str},Rg (a.map .str) (b.map .str)=decide (a=b)
 | [],[]=>by simp [Rg]
 | [],_::_=>by simp [Rg]
 | _::_,[]=>by simp [Rg]
 | x::a,y::b=>by
  rw [Py,Py,Rg,aT,vY,RO];simp
def lE(ws:List Str):List Ww:=ws.map .str
def rW:List Str->Ww
 | [a,b,c,d,e]=>.tuple [.str a,.str b,.tuple (lE (Txt.split c (Pr ":"))),nZ d,.str e]
 | ws=>.tuple (lE ws)
def N4:List Ww->(Ww->Prop)->Prop:=λds Q=>∃ws:List Str,ds=[.list (lE ws)]/\ws.length<=1002/\(∀z∈ws,z.length<=1000)/\Q (rW ws)
theorem N5(T:Txt K mg t):aF P w K mg base CX0 3 t.a_e t.d_e ["words"] (bh K N4):=by
 have G_c:=@N2 P w _ _ base _ T;refine T.F_e.F.okD MK (λds Q h=>?_) (λ_ _ _ _ H O ds Q E hr h=>?_)
 ·obtain⟨p,rfl,_⟩:=h;rfl
 ·obtain⟨ws,rfl,hl,hw,q⟩:=h;refine'⟨_,?A,?B⟩
  case A=>
   refine' ai ?C ?D
   case C=>
    refine' aH ?E ?F aG
    case E=>exact(aD (mH hr.units) mI (PE.imp (aR kh rfl T.n_len Qq (aA (dv 0) aB)) (aE kq)) ae (av _))
    case' F=>refine' ak ?G
    case G=>exact(ax (PE.imp (cE lZ rfl T.n_tuple k7 (aA (dv 0) aB)) (aE l8)))
   case' D=>refine' ak ?H
   case' H=>generalize hG6:Expr.Tuple _ _ _=eg6
   refine' ax ?I
   case' I=>subst hG6
   refine' bE ?J
   case' J=>refine' aa ?K ?L
   case K=>exact(aj aO aP (dv 0) ae)
   case' L=>refine' aa ?M ?N
   case M=>exact(aj aO aP (dv 0) ae)
   case' N=>refine' aa ?O ?P
   case O=>exact(PE.imp (cE lZ rfl T.n_tuple k7 (aA (fe (oQ (aj aO aP (dv 0) ae) aw)) aB)) (aE l8))
   case' P=>refine' aa ?Q ?R
   case Q=>exact(ar G_c hr T.F_c (aa (aj aO aP (dv 0) ae) (aa (dc (kn rfl T.c_MANY_FIGURES T.r_MANY_FIGURES) (λ_ _=>.int _)) ah)))
   case' R=>refine' aa ?S ah
   case S=>exact(aj aO aP (dv 0) ae)
  case B=>
  clear hr T G_c;unfold lE;walk_at "a"
  match ws,hl,hw,q with
  | [a,b,c,d,e],hl,hw,q=>
   rw [Ws Wv];simp only [true_and,and_true,↓jd,↓jm,↓jn,↓jo,↓jq,↓jr,↓jt,↓je,↓fB,↓iK,↓jT,↓jU,↓jV,↓jW,↓jX,↓jY,↓iL,↓iM,↓iN,↓iO,↓iP,↓iQ,↓iR,↓iS,↓iT,↓iU,↓iV,↓iW,↓iX,↓iY,↓iZ,↓i3,↓i4,↓i5,↓i6,↓i7,↓i8,↓i9,↓ja,↓jb,cf,cN,cg,dD,fR,fS,cO,dE,dF,dM,dN,fX,dh,dC,bB,dI,dU,dW,dX,gf,dY,cn,eJ,eG,d3,dZ,dL,cP,di,fO,cG,cy,bI,dj,dm,dn,dz,fP,dA,dB,cH,cz,fQ,gK,gM,gN,gO,gP,gQ,gR,gS,gT,gU,gW,gX,gY,gZ,g6,g9,hJ,hV,hW,hX,hZ,h7,ic,ie,ig,ij,ik,il,ip,iq,iu,iw,ix,iy,iz,iA,iB,iC,iD,iE,iF,iG,iH,gL,d8,gc,eL,cV,gj,gh,d6,d7,d9,eg,ei,eD,eF,cT,eM,eN,eO,bS,fY,fZ,gb,dO,dP,fT,fU,dQ,fV,dR,fW,fj,fv,fw,gH,gI,gG,gJ,eZ,ff,fg,fh,cq,fu,fk,eX,eY,fx,fy,fz,fA,cu,iI,iJ,jg,jf,jh,ji,jj,jk,jl,fC,fD,jx,jv,jw,ju,jC,jy,jz,jA,jB,cX,fE,jG,jH,jD,jE,jF,jI,jJ,jK,fF,jL,jM,fG,jO,fH,jP,jQ,jR,jN,jS,fJ,fK,fL,fM,jZ,j3,j5,fN,bY,gx,gy,gz,gA,gB,gC,gD,gE,gF,ne_eq,bK,gp,gr,gs,gu,gk,gm,gn,cI,cR,dS,cQ,dJ,dH,dG,bJ,bU,bp,bZ,cC,b0,Py,Qf,Px,P5,PK,Qa,P6,PY,QD,QE,QP,QK,QQ,PR,PL,Qc,P8,P9,P0,exists_eq_left',exists_eq_left,exists_and_left,exists_and_right,Ql,Qm,Sl.v.injEq,Sl.o.injEq,Sl.k.injEq,Qp,Qj,Qr,Qe,Qk,PJ,and_true,true_and,QR,Qs,exists_const,decide_eq_true_eq,QS,QU,QH,QI,P4,decide_eq_false_iff_not,and_assoc,or_true,true_or,↓reduceIte,if_true,if_false,PZ,Qb,not_true_eq_false,not_false_eq_true,QL,QA,ite_true,ite_false,eq_self,exists_eq,reduceCtorEq,false_and,and_false,or_false,false_or,exists_false,Qv,Qy,cx,QG,QV,QC,QW,P7,QB,Qg,QM,aV,bw,bX,cU,eQ,aT,cL,eV,beq_self_eq_true,eR,eT,gi,aS,WN];have hc:=hw c Wv;have hd:=hw d Wv;exact⟨td,Ce,d,rfl,hd,q⟩
  | [],_,_,q=>rw [Wt Wv];exact q
  | [_],_,_,q=>rw [Wt Wv];exact q
  | [_,_],_,_,q=>rw [Wt Wv];exact q
  | [_,_,_],_,_,q=>rw [Wt Wv];exact q
  | [_,_,_,_],_,_,q=>rw [Wt Wv];exact q
  | _::_::_::_::_::_::r,_,_,q=>rw [Wt (by simp;omega)];exact q
def ng(w:Str)(ws:List Str):List Ww:=
 if w="paper" then lE (ws.take 1)++[.tuple (lE (ws.drop 1))]
 else if w="rule" then [rW ws]
 else if w="hold" then [.tuple (lE (ws.take 2)),.bool (decide (ws.drop 2=[Pr "deep"]))]
 else lE ws
def N6:List Ww->(Ww->Prop)->Prop:=λds Q=>∃(w:Str)(ws:List Str),ds=[.str w,.list (lE ws)]/\ws.length<=1002/\(∀z∈ws,z.length<=1000/\QX z=true)/\Q (.tuple (ng w ws))
theorem N7(T:Txt K mg t):aF P w K mg base CX0 4 t.a_f t.d_f ["word","words"] (bh K N6):=by
 have G_e:=@N5 P w _ _ base _ T;refine T.F_f.F.okD ML (λds Q h=>?_) (λ_ _ _ _ H O ds Q E hr h=>?_)
 ·obtain⟨w,ws,rfl,_⟩:=h;rfl
 ·obtain⟨w,ws,rfl,hl,hw,q⟩:=h;refine'⟨_,?A,?B⟩
  case A=>
   refine' ai ?C ?D
   case C=>
    refine' aH ?E ?F aG
    case E=>exact(aD (fq hr) ft (dv 0) aw (av _))
    case' F=>refine' ak ?G
    case' G=>refine' ax ?H
    case' H=>refine' aW nS nT ?I ?J
    case I=>exact(PE.imp (cE lZ rfl T.n_tuple k7 (aA (fe (kC (df (dv 1)) kl (bT ae))) aB)) (aE l8))
    case J=>exact(bE (aa (PE.imp (cE lZ rfl T.n_tuple k7 (aA (fe (kC (df (dv 1)) (bT ae) kl)) aB)) (aE l8)) ah))
   case' D=>refine' ai ?K ?L
   case K=>
    refine' aH ?M ?N aG
    case M=>exact(aD (fq hr) ft (dv 0) aw (av _))
    case' N=>refine' ak ?O
    case O=>exact(ax (bE (aa (ar G_e hr T.F_e (aa (dv 1) ah)) ah)))
   case' L=>refine' ai ?P ?Q
   case P=>
    refine' aH ?R ?S aG
    case R=>exact(aD (fq hr) ft (dv 0) aw (av _))
    case' S=>refine' ak ?T
    case' T=>refine' ax ?U
    case' U=>refine' bE ?V
    case' V=>refine' aa ?W ?X
    case W=>exact(PE.imp (cE lZ rfl T.n_tuple k7 (aA (fe (kC (df (dv 1)) kl (bT ae))) aB)) (aE l8))
    case' X=>refine' aa ?Y ah
    case Y=>exact(j9 (cJ hr.units) cK (df (fe (kC (df (dv 1)) (bT ae) kl))) (df (fe (bz (aa aw ah)))) (av _))
   case' Q=>refine' ak ?Z
   case Z=>exact(ax (PE.imp (cE lZ rfl T.n_tuple k7 (aA (dv 1) aB)) (aE l8)))
  case B=>
  clear hr T G_e;unfold lE;walk_at "a";have t1:bA (ws.map Pu) none (some 1)=(ws.take 1).map .str:=vX (k:=1);have t2:bA (ws.map Pu) none (some 2)=(ws.take 2).map .str:=vX (k:=2);have d1:bA (ws.map Pu) (some 1) none=(ws.drop 1).map .str:=pQ (k:=1);have d2:bA (ws.map Pu) (some 2) none=(ws.drop 2).map .str:=pQ (k:=2);rw [t1,t2,d1,d2];unfold ng lE at q;have bq:∀{u v:Str},(u==v)=true↔u=v:=beq_iff_eq;simp only [bq];split
  ·rename_i h;rw [Wt h] at q;exact⟨by rw [PD,Rq];omega,q⟩
  ·rename_i h;rw [Ws h] at q;split
   ·rename_i h2;rw [Wt h2] at q;exact⟨ws,rfl,hl,λz hz=>(hw z hz).1,q⟩
   ·rename_i h2;rw [Ws h2] at q;split
    ·rename_i h3;rw [Wt h3] at q;refine⟨(pR λz hz=>(hw z (R0 hz)).2).1,td,?_⟩;rw [show((Ra ((ws.drop 2).map .str)).eqv (Ra [Pu (Pr "deep")]))=decide (ws.drop 2=[Pr "deep"]) by rw [PN];exact vY (b:=[Pr "deep"])];exact q
    ·rename_i h3;rw [Ws h3] at q;exact q
def ug:List Str->Ww
 | w::b::x::more=>.tuple ([.str w,kZ b,.str x]++ng w more)
 | _=>.none
theorem N8(d:Int):∃y m n,lI d y m n:=by
 have yo:=EB d;generalize qx d=y at yo;have key:∀k:Nat,k<=12->d - bu y < aL y ((k:Int)+1)->∃mo:Int,1<=mo/\mo<=12/\aL y mo<=d - bu y/\d - bu y < aL y (mo+1):=λk=>by
  induction k with
  | zero=>intro _ h;rw [show((0:Nat):Int)+1=1 from rfl,rD] at h;omega
  | succ k ih=>
   intro hk h;by_cases z:d - bu y < aL y ((k:Int)+1)
   ·exact ih Ce z
   ·exact⟨(k:Int)+1,Ce,Ce,Ce,by rw [show((k+1:Nat):Int)+1=(k:Int)+1+1 by omega] at h;exact h⟩
 have ys:=vg y;have ba:=tP y;obtain⟨mo,m1,m2,h1,h2⟩:=key 12 (PQ _) (by rw [show((12:Nat):Int)+1=13 from rfl];omega);have bs:=lC (y:=y) m1;exact⟨y,mo,d - bu y - aL y mo+1,m1,m2,Ce,Ce,by unfold lW;omega⟩
theorem FV{n:Int}(h:lx n):me (ku n)=some n:=by
 obtain⟨y,m,k,D⟩:=N8 n;have hy:=vk D h.1 (vU h);have hb:=rC (y:=y) D.m1 D.m12;have:=D.m1;have:=D.m12;have:=D.n1;have:=D.nl;have e1:=AJ (y:=y.toNat) Ce Ce;have e2:=rE ⟨m.toNat,Ce⟩;have e3:=rE ⟨k.toNat,Ce⟩;simp only [SN (show 0<=y by omega),SN (show 0<=m by omega),SN (show 0<=k by omega)] at e1 e2 e3;rw [<-vS D];unfold me;rw [Lg];have v1:nv ⟨(d4 y.toNat).toArray⟩=y:=by unfold nv;rw [e1];rfl
 have v2:nv ⟨(d2 m.toNat).toArray⟩=m:=by unfold nv;rw [e2];rfl
 have v3:nv ⟨(d2 k.toNat).toArray⟩=k:=by unfold nv;rw [e3];rfl
 have en:lW y m k=n:=D.eq;dsimp only;rw [v1,v2,v3,en,Wt ⟨Ni Ce,Ft Ce,Ft Ce,⟨Ce,Ce,Ce,Ce,Ce,Ce⟩,h.2⟩]
theorem N9{n:Int}(h:lx n):kZ (ku n)= .int n:=by unfold kZ;rw [FV h]
theorem Oa{m:Int}(h0:0<=m)(h1:m<=999):nZ (ky m)= .int m:=by
 obtain⟨⟨l1,l2⟩,f1,f2,_⟩:=BK h0 h1;have rd:intText? (ky m)=some m:=by
  obtain⟨k,rfl⟩:=Q2 h0;exact UU Ce Ce
 unfold nZ;rw [Wt ⟨l2,l1,f1,λh=>f2 h.1 h.2⟩];unfold nv;rw [rd];rfl
theorem Ob{p:Ww}(h:lV p):rW (lQ p)=p:=by
 cases h with
 | wfl hw hk=>rfl
 | kg hw hk hs h0 h1 hu=>
  have hw:=BL hs;show QF [_,_,.tuple (lE (Txt.split (Txt.join (Pr ":") (km _)) (Pr ":"))),nZ (ky _),_]=_;rw [rV,vV hw.1 λz hz=>(hw.2 z hz).2.1,Oa h0 h1];unfold lE;rw [<-(vT hs).1]
theorem Oc{w:Str}{n:Int}{x:Str}{r:List Ww}(h:bo (.tuple (.str w:: .int n:: .str x::r))):ng w (lX r)=r:=by
 have nw:∀{u v:Str}{l:List Str},u∈l->(∀z∈l,z≠v)->¬u=v:=λh h2=>h2 _ h;have n1:¬(Pr "rule"=Pr "paper"):=td
 have n2:¬(Pr "hold"=Pr "paper"):=td
 have n3:¬(Pr "hold"=Pr "rule"):=td
 unfold ng;cases h with
 | @paper _ _ k ms _ _ _ hm=>
  have e:lX [Pu k,QF (QY Pu ms)]=k::ms:=by
   show k::pO (.tuple (ms.map .str))=_;rw [rT]
  rw [e,Wt rfl];rfl
 | two hw=>rw [Ws (nw hw td),Ws (nw hw td),Ws (nw hw td)];rfl
 | rule _ _ hp=>
  rw [Ws n1,Wt rfl];have e:∀{p:Ww},lV p->lX [p]=lQ p:=λh=>by cases h <;> rfl
  rw [e hp,Ob hp]
 | one hw=>rw [Ws (nw hw td),Ws (nw hw td),Ws (nw hw td)];rfl
 | @hold _ _ g y b=>
  rw [Ws n2,Ws n3,Wt rfl];have dd:(decide (([]:List Str)=[Pr "deep"]))=false:=td
  have de:(decide (([Pr "deep"]:List Str)=[Pr "deep"]))=true:=td
  cases b
  ·show [_,TK (decide (([]:List Str)=[Pr "deep"]))]=_;rw [dd];rfl
  ·show [_,TK (decide (([Pr "deep"]:List Str)=[Pr "deep"]))]=_;rw [de];rfl
theorem uh{d:Ww}(h:bo d):Txt.split (bf d) (Pr " ")=kF d/\ug (kF d)=d:=by
 have hw:=uc h;obtain⟨w,n,x,r,rfl,hn⟩:=oU h;constructor
 ·unfold bf;rw [pP];exact vV (by simp [kF]) λz hz=>NR (hw.2 z hz)
 ·show QF ([.str w,kZ (ku n),.str x]++ng w (lX r))=_;rw [N9 hn,Oc h];rfl
theorem ui{c:Nat}{z p:Str}(h:p∈Txt.split z ⟨#[c]⟩):p.length<=z.length:=by
 have h2:p.cps.toList∈kE c z.cps.toList:=by
  rw [<-rG];exact QO.mpr ⟨p,h,rfl⟩
 have:=t6 _ h2;have e1:p.cps.toList.length=p.length:=P2;have e2:z.cps.toList.length=z.length:=P2;omega
theorem vZ{c:Nat}:∀{l:List Nat},∀p∈kE c l,∀x∈p,x∈l
 | [],p,h,x,hx=>by simp [kE] at h;rw [h] at hx;cases hx
 | a::xs,p,h,x,hx=>by
  unfold kE at h;split at h
  ·rcases PH.mp h with e | h
   ·rw [e] at hx;cases hx
   ·exact Q4 _ (vZ p h x hx)
  ·split at h
   ·rename_i e;exact absurd e (AL c xs)
   ·rename_i q qs e;rcases PH.mp h with e2 | h
    ·rw [e2] at hx;rcases PH.mp hx with e3 | hx
     ·rw [e3];simp
     ·exact Q4 _ (vZ q (by rw [e];simp) x hx)
    ·exact Q4 _ (vZ p (by rw [e];simp [h]) x hx)
theorem uj{c:Nat}{z p:Str}(hz:QX z=true)(h:p∈Txt.split z ⟨#[c]⟩):QX p=true:=by
 have h2:p.cps.toList∈kE c z.cps.toList:=by
  rw [<-rG];exact QO.mpr ⟨p,h,rfl⟩
 exact nQ.mpr λx hx=>nQ.mp hz x (vZ _ h2 x hx)
def qD(z:Str):Prop:=z.length<=1000/\QX z=true
theorem rX:∀{ws:List Str},(∀z∈ws,z.length<=1000)->ma (lE ws)=true
 | [],_=>rfl
 | z::r,h=>by
  show(bC (.str z) && ma (lE r))=true;rw [rX λy hy=>h y (by simp [hy]),P7];show decide (z.length<=1000)=true;exact decide_eq_true (h z Wv)
theorem FW:∀{a b:List Ww},ma a=true->ma b=true->ma (a++b)=true
 | [],_,_,h=>h
 | x::a,b,h,h2=>by
  have h:(bC x && ma a)=true:=h;rw [Qh] at h;show(bC x && ma (a++b))=true;rw [h.1,FW h.2 h2];rfl
theorem Od(z:Str):bC (kZ z)=true:=by unfold kZ;split <;> rfl
theorem Oe(z:Str):bC (nZ z)=true:=by unfold nZ;split <;> rfl
theorem rY{l:List Ww}(h:ma l=true):bC (.tuple l)=true:=by simpa [bC] using h
theorem Of{ws:List Str}(h:∀z∈ws,z.length<=1000):bC (rW ws)=true:=by
 unfold rW;split
 ·rename_i a b c d e;have st:∀z∈[a,b,c,d,e],bC (.str z)=true:=λz hz=>decide_eq_true (h z hz);have tc:=rX (ws:=Txt.split c (Pr ":")) λz hz=>by
   rw [rV] at hz;exact Qz (ui hz) (h c Wv)
  refine rY ?_;show(bC (.str a) && (bC (.str b) && (bC (.tuple _) && (bC (nZ d) && (bC (.str e) && true)))))=true;rw [st a Wv,st b Wv,st e Wv,Oe,rY tc];rfl
 ·exact rY (rX h)
theorem Og{w:Str}{ws:List Str}(h:∀z∈ws,z.length<=1000):ma (ng w ws)=true:=by
 have tk:=λk=>rX (ws:=ws.take k) λz hz=>h z (RQ hz);have dk:=λk=>rX (ws:=ws.drop k) λz hz=>h z (R0 hz);unfold ng;split
 ·exact FW (tk 1) (by show(bC (.tuple _) && true)=true;rw [rY (dk 1)];rfl)
 ·split
  ·show(bC (rW ws) && true)=true;rw [Of h];rfl
  ·split
   ·show(bC (.tuple _) && (bC (.bool _) && true))=true;rw [rY (tk 2)];rfl
   ·exact rX h
def Oh:List Ww->(Ww->Prop)->Prop:=λds Q=>∃z,ds=[.str z]/\qD z/\(∀d,bo d->bf d=z->Q d)/\((∀d,bo d->bf d≠z)->Q .none)
theorem Oi(T:Txt K mg t):aF P w K mg base CX0 7 t.a_g t.d_g ["row"] (bh K Oh):=by
 have G_d:=@NY P w _ _ base _ T;have G_f:=@N7 P w _ _ base _ T;have G_W:=@Nx P w _ _ base _ T;have G_a:=@FQ P w _ _ base _ T;refine T.F_g.F.okD BB (λds Q h=>?_) (λ_ _ _ _ H O ds Q E hr h=>?_)
 ·obtain⟨d,rfl,_⟩:=h;rfl
 ·obtain⟨z,rfl,hz,q1,q2⟩:=h;refine'⟨_,?A,?B⟩
  case A=>
   refine' ai ?C ?D
   case C=>exact(aY (i:=1) BB.nd rfl Wu (fe (oQ (dv 0) aw)))
   case' D=>refine' ai ?E ?F
   case E=>
    refine' aH ?G ?H aG
    case G=>exact(aD qR ck (PE.imp (aR kh rfl T.n_len Qq (aA (dv 1) aB)) (aE kq)) ae (av _))
    case H=>refine' ak (ax ki)
   case' F=>refine' ai ?I ?J
   case I=>
    generalize hG8:VU _ _ _ _=eg8;refine' aY (i:=2) BB.nd rfl Wu ?K (hs:=by subst hG8;exact qv)
    case' K=>subst hG8
    refine' aW nS nT ?L ?M
    case L=>
     refine' bE ?N
     case' N=>refine' aa ?O ?P
     case O=>exact(aj aO aP (dv 1) ae)
     case' P=>refine' aa ?Q ?R
     case Q=>exact(ar G_d hr T.F_d (aa (aj aO aP (dv 1) ae) ah))
     case' R=>refine' aa ?S ah
     case S=>exact(aj aO aP (dv 1) ae)
    case M=>exact(ar G_f hr T.F_f (aa (aj aO aP (dv 1) ae) (aa (fe (kC (df (dv 1)) (bT ae) kl)) ah)))
   case' J=>refine' ak ?T
   case' T=>refine' ax ?U
   case U=>exact(uL (PW.pt (kH (cb (ar G_W hr T.F_W (aa (dv 2) ah))) (lG (aD (fq hr) ft (ar G_a hr T.F_a (aa (dv 2) ah)) (dv 0) (av _))))) (dv 2) ki)
  case B=>
  clear hr T G_d G_f G_W G_a;walk_at "a";have hd:∀d,bo d->bf d=z->ug (Txt.split z (Pr " "))=d:=λd h e=>by
   rw [<-e,(uh h).1];exact(uh h).2
  have hb:∀p∈Txt.split z (Pr " "),p.length<=1000/\QX p=true:=λp hp=>by
   rw [pP] at hp;exact⟨Qz (ui hp) hz.1,uj hz.2 hp⟩
  have hl:(Txt.split z (Pr " ")).length<=1002:=Qz (S6 z _) (by have:=hz.1;omega);refine⟨td,by have:=hz.1;omega,?_⟩;generalize Txt.split z (Pr " ")=ws at*;have few:ws.length < 3->Q .none:=λh=>q2 λd hv e=>by
   have e:=hd d hv e;obtain⟨w,n,x,r,rfl,_⟩:=oU hv
   match ws,h with
   | [],_=>cases e
   | [_],_=>cases e
   | [_,_],_=>cases e
  match ws with
  | []=>rw [Wt Wv];exact few Wv
  | [_]=>rw [Wt Wv];exact few Wv
  | [_,_]=>rw [Wt Wv];exact few Wv
  | w::b::x::more=>
   clear few;rw [Ws (by simp only [PD,Px];omega)];have ec:bA (QY Pu (w::b::x::more)) (some 3) none=lE more:=by
    rw [show bA (QY Pu (w::b::x::more)) (some 3) none=_ from pQ (k:=3)];rfl
   rw [ec];have hm:∀z∈more,z.length<=1000/\QX z=true:=λz hz=>hb z (by simp [hz]);have pl:(ng w more).length<=1004:=by
    simp only [Px] at hl;unfold ng lE;split
    ·rw [Rf,PD,Rq];simp;omega
    ·split
     ·simp
     ·split
      ·simp
      ·rw [PD];omega
   refine⟨.str w,aV,.str b,bw,b,rfl,(hb b Wv).1,.str x,bX,.str w,aV,w,more,rfl,by simp only [Px] at hl;omega,hm,_,rfl,Ce,?_⟩;have ed:QF (.str w::kZ b:: .str x::ng w more)=ug (w::b::x::more):=rfl;rw [ed];have tg:bC (ug (w::b::x::more))=true:=by
    refine rY ?_;show(bC (.str w) && (bC (kZ b) && (bC (.str x) && ma (ng w more))))=true;rw [Od,Og λz hz=>(hm z hz).1,show bC (.str w)=true from decide_eq_true (hb w Wv).1,show bC (.str x)=true from decide_eq_true (hb x Wv).1];rfl
   refine⟨_,rfl,tg,_,rfl,?_⟩;generalize ug (w::b::x::more)=d0 at*;by_cases hv:lN d0=true
   ·rw [Wt hv];have hv:=D3.mp hv;refine⟨d0,rfl,hv,rfl,?_⟩;rw [aT];by_cases ee:bf d0=z
    ·rw [Wt (by rw [ee];simp)];exact q1 d0 hv ee
    ·rw [Ws (by simpa using ee)];exact q2 λd h e=>ee (by rw [hd d h e];exact e)
   ·rw [Ws hv];exact q2 λd h e=>hv (by rw [hd d h e];exact D3.mpr h)
end
local macro_rules | `(tactic| walk_at "d") =>rzT "um wI wL wK wJ qP ni oh tC p4 wY rI mR rU xK xM pd uy tB wu wz wA wD wF wG wH sQ sP uB sR xP xQ sF qN sE wN wO CL CM CN CO CP CQ CS CT bZ cC b0 L2.start Py Qf Px P5 PK Qa P6 PY QD QE QP QK QQ PR PL P8 P9 P0 exists_eq_left' exists_eq_left exists_and_left exists_and_right V.int.injEq V.bl.injEq V.str.injEq V.ref.injEq PJ and_true true_and QR exists_const decide_eq_true_eq QS QU QH QI P4 decide_eq_false_iff_not and_assoc bF Ql Qc Qm L2.cxK L2.cmK or_true true_or uz if_true if_false PZ Qb not_true_eq_false not_false_eq_true QL QA ite_true ite_false eq_self L2.E0 exists_eq forall_eq'"
open Day
theorem FX:bR (az vF) ["_law_pack_here","_law_way","_law_year","_law_month","_law_last"] ["_law_k","_law_year"] 1 [2] ⟨Qo,[ (Pw ".0",Yr),(Pw "_law_k",Yr),(Pw "_law_length",Qw),(Pw "_law_year",Rh)],false,false,[]⟩:= .of
section
variable {P:WM} {w:WO} {K:Pt} {mg:Str->Option Wx} {base:WL} {t:k9}
theorem Oj{y m:Int}(h1:1<=m)(h2:m<=12)(hm:m≠2):atI [PV 31,PV 29,PV 31,PV 30,PV 31,PV 30,PV 31,PV 31,PV 30,PV 31,PV 30,PV 31] (m - 1)=some (.int (bj y m)):=by
 have a:=vi y;rcases AG h1 h2 with z | z | z | z | z | z | z | z | z | z | z | z <;> subst z
 ·rw [a.1];rfl
 ·exact absurd rfl hm
 ·rw [a.2.1];rfl
 ·rw [a.2.2.1];rfl
 ·rw [a.2.2.2.1];rfl
 ·rw [a.2.2.2.2.1];rfl
 ·rw [a.2.2.2.2.2.1];rfl
 ·rw [a.2.2.2.2.2.2.1];rfl
 ·rw [a.2.2.2.2.2.2.2.1];rfl
 ·rw [a.2.2.2.2.2.2.2.2.1];rfl
 ·rw [a.2.2.2.2.2.2.2.2.2.1];rfl
 ·rw [a.2.2.2.2.2.2.2.2.2.2];rfl
theorem FY{y:Int}(h:2000<=y):365*(y - 2000)<=bu y:=by unfold bu lb;omega
theorem qE(ss:List Str){i:Int}(h0:0<=i)(h1:i < ss.length):∃nm∈ss,atI (ss.map Pu) i=some (.str nm):=by
 obtain⟨v,e,m⟩:=CW (xs:=ss.map Pu) h0 (by rw [PD];exact h1);obtain⟨nm,hn,rfl⟩:=QO.mp m;exact⟨nm,hn,e⟩
theorem Ol:∀m:Fin 100,Txt.slice (Pr (toString (100+(m.val:Int)))) (some 1) none=⟨(d2 m.val).toArray⟩/\(Pr (toString (100+(m.val:Int)))).length=3:=td
theorem FZ{m:Int}(h0:0<=m)(h1:m < 100):Txt.slice (Pr (toString (100+m))) (some 1) none=⟨(d2 m.toNat).toArray⟩/\(Pr (toString (100+m))).length=3:=by
 obtain⟨k,rfl⟩:=Q2 h0;exact Ol ⟨k,Ce⟩
theorem F0{y m n:Int}:Txt.join (Pr "-") [⟨(d4 y.toNat).toArray⟩,⟨(d2 m.toNat).toArray⟩,⟨(d2 n.toNat).toArray⟩]=lD y m n:=by
 have e:Pr "-"=⟨#[45]⟩:=td
 have h:(Txt.join (Pr "-") [⟨(d4 y.toNat).toArray⟩,⟨(d2 m.toNat).toArray⟩,⟨(d2 n.toNat).toArray⟩]).cps.toList=(lD y m n).cps.toList:=by
  rw [e,show Txt.join ⟨#[45]⟩ [⟨(d4 y.toNat).toArray⟩,⟨(d2 m.toNat).toArray⟩,⟨(d2 n.toNat).toArray⟩]=SM ⟨#[45]⟩ _ from RU _ _,qy];simp [lD,rF,lJ]
 have:=BJ (a:=[_]) (b:=[_]) (congrArg (λl=>[l]) h);exact(List.cons.inj this).1
def F1:List Ww->(Ww->Prop)->Prop:=λds Q=>∃y m:Int,ds=[.int y,.int m]/\1<=m/\m<=12/\Q (.int (bj y m))
theorem BQ(T:Txt K mg t):aF P w K mg base CX0 1 t.a_n t.d_n ["_law_year","_law_month"] (bh K F1):=by
 refine T.F_n.F.okD MO (λds Q h=>?_) (λ_ _ _ _ H O ds Q E hr h=>?_)
 ·obtain⟨y,m,rfl,_⟩:=h;rfl
 ·obtain⟨y,m,rfl,h1,h2,q⟩:=h;refine'⟨_,?A,?B⟩
  case A=>
   refine' ai ?C ?D
   case C=>
    refine' aH ?E ?F aG
    case E=>exact(PW.pt (kH (aD (cJ hr.units) cK (dv 1) ae (av _)) (lG (PW.pt (ke (aD (mH hr.units) mI (aW om mT (dv 0) ae) ae (av _)) (kG (PW.pt (kH (aD (cJ hr.units) cK (aW om mT (dv 0) ae) ae (av _)) (lG (aD (mH hr.units) mI (aW om mT (dv 0) ae) ae (av _)))))))))))
    case F=>refine' ak (ax ae)
   case' D=>refine' ak ?G
   case' G=>generalize hE6_0:S8 _ _=ee6_0
   exact(ax (aj aO aP (fe (qr (ds:=[.int 31,.int 29,.int 31,.int 30,.int 31,.int 30,.int 31,.int 31,.int 30,.int 31,.int 30,.int 31]) (by first | (subst hE6_0;rfl)))) (aW lh cS (dv 1) ae)))
  case B=>
  clear hr T;walk_at "a";have tb:=Oj (y:=y) h1 h2;by_cases hm:m=2
  ·subst hm;have l1:=AE y;have e2:=AF y;have t29:nH y=true->∃d,atI [PV 31,PV 29,PV 31,PV 30,PV 31,PV 30,PV 31,PV 31,PV 30,PV 31,PV 30,PV 31] (2 - 1)=some d/\Q d:=λh=>⟨.int 29,rfl,by rw [e2] at q;unfold ld at q;rw [h] at q;exact q⟩;have t28:¬nH y=true->Q (.int 28):=λh=>by rw [e2] at q;unfold ld at q;rw [Ws h] at q;exact q
   rw [Wt tx];split
   ·rename_i h4;exact t28 (by rw [l1];simp at h4;omega)
   ·rename_i h4;simp at h4;split
    ·rename_i h5;simp at h5;split
     ·rename_i h6;exact t28 (by rw [l1];simp at h6;omega)
     ·rename_i h6;exact t29 (l1.mpr (by simp at h6;omega))
    ·rename_i h5;exact t29 (l1.mpr (by simp at h5;omega))
  ·rw [Ws (by simpa using hm)];exact⟨_,tb hm,q⟩
def F2:List Ww->(Ww->Prop)->Prop:=λds Q=>∃y:Int,ds=[.int y]/\Q (.int (bu y))
theorem BR(T:Txt K mg t):aF P w K mg base CX0 1 t.a_o t.d_o ["_law_year"] (bh K F2):=by
 refine T.F_o.F.okD E3 (λds Q h=>?_) (λ_ _ _ _ H O ds Q E hr h=>?_)
 ·obtain⟨y,rfl,_⟩:=h;rfl
 ·obtain⟨y,rfl,q⟩:=h;refine'⟨_,?A,?B⟩
  case A=>
   refine' ai ?C ?D
   case C=>exact(aY (i:=1) E3.nd rfl Wu (aW lh cS (dv 0) ae))
   case' D=>refine' ak ?E
   case' E=>generalize hG4:VU _ _ _ _=eg4
   refine' ax ?F
   case' F=>subst hG4
   exact(aW cD cS (aW lh cS (aW cD cS (aW qQ mT ae (dv 1)) (aW oj mT (aW cD cS (dv 1) ae) ae)) (aW oj mT (aW cD cS (dv 1) ae) ae)) (aW oj mT (aW cD cS (dv 1) ae) ae))
  case B=>
  clear hr T;walk_at "a";have e:365*(y - 2000)+(y - 2000+3)/ 4 - (y - 2000+99)/ 100+(y - 2000+399)/ 400=bu y:=by rw [<-Lc y]
  rw [e];exact q
def Om:List Ww->(Ww->Prop)->Prop:=λds Q=>∃d:Int,ds=[.int d]/\lx d/\Q (.str (ku d))
theorem Oo(T:Txt K mg t):aF P w K mg base CX0 2 t.a_p t.d_p ["_law_day"] (bh K Om):=by
 have G_o:=@BR P w _ _ base _ T;have G_n:=@BQ P w _ _ base _ T;refine T.F_p.F.okD rN (λds Q h=>?_) (λ_ _ _ _ H O ds Q E hr h=>?_)
 ·obtain⟨d,rfl,_⟩:=h;rfl
 ·obtain⟨d,rfl,hd,q⟩:=h;refine'⟨_,?A,?B⟩
  case A=>
   refine' ai ?C ?D
   case C=>exact(aY (i:=1) rN.nd rfl Wu (aW cD cS ae (aW oj mT (dv 0) ae)))
   case' D=>refine' ai ?E ?F
   case E=>
    refine' Az RP ?G ?H
    case G=>exact(aD ko ck (ar G_o hr T.F_o (aa (aW cD cS (dv 1) ae) ah)) (dv 0) (av _))
    case' H=>refine' ak ?I
    case I=>exact(aY (i:=1) rN.nd rfl Wu (aW cD cS (dv 1) ae))
   case' F=>refine' ai ?J ?K
   case J=>exact(Jl (i:=2) (j:=3) rfl rN.nd rfl rfl tx rfl rfl (aa ae (aa (aW cD cS (aW lh cS (dv 0) (ar G_o hr T.F_o (aa (dv 1) ah))) ae) ah)) (by rfl))
   case' K=>refine' ai ?L ?M
   case L=>
    refine' Az RP ?N ?O
    case N=>exact(aD pe ck (dv 3) (ar G_n hr T.F_n (aa (dv 1) (aa (dv 2) ah))) (av _))
    case' O=>refine' ai ?P ?Q
    case P=>exact(aY (i:=3) rN.nd rfl Wu (aW lh cS (dv 3) (ar G_n hr T.F_n (aa (dv 1) (aa (dv 2) ah)))))
    case' Q=>refine' ak ?R
    case R=>exact(aY (i:=2) rN.nd rfl Wu (aW cD cS (dv 2) ae))
   case' M=>refine' ak ?S
   case' S=>generalize hG16:VY _ _ _ _=eg16
   refine' ax ?T
   case' T=>subst hG16
   exact(mJ aw (df (fe (bz (aa (PE.imp (cE oo rfl T.n_str mS (aA (dv 1) aB)) (aE oP)) (aa (uQ (df (PE.imp (cE oo rfl T.n_str mS (aA (aW cD cS ae (dv 2)) aB)) (aE oP))) (bT ae) kl) (aa (uQ (df (PE.imp (cE oo rfl T.n_str mS (aA (aW cD cS ae (dv 3)) aB)) (aE oP))) (bT ae) kl) ah)))))))
  case B=>
  clear hr T G_o G_n;walk_at "a";have d0:=hd.1;refine⟨λm δ=>∃y:Int,2000<=y/\bu y<=d/\m=(2001+d - y).toNat/\δ=[some (Sl.v (PV d)),some (Sl.v (PV y)),none,none],⟨_,_,Ce,Ld d0,rfl,rfl⟩,?_⟩;rintro m δ ⟨y,y0,hy,rfl,rfl⟩;walk_at "a";refine⟨y+1,rfl,?_⟩;walk_at "a";by_cases hc:bu (y+1)<=d
  ·rw [Wt hc];have:=FY (y:=y+1) Ce;exact⟨_,Ce,y+1,Ce,hc,rfl,rfl⟩
  ·rw [Ws hc];refine⟨y,rfl,?_⟩;walk_at "a";have ys:=vg y;refine⟨λm δ=>∃mo:Int,1<=mo/\mo<=12/\aL y mo<=d - bu y/\m=(12 - mo).toNat/\δ=[some (Sl.v (PV d)),some (Sl.v (PV y)),some (Sl.v (PV mo)),some (Sl.v (PV (d - bu y - aL y mo+1)))],⟨11,1,Ce,Ce,by rw [rD];omega,rfl,by rw [rD,Int.sub_zero]⟩,?_⟩;rintro m δ ⟨mo,m1,m2,hb,rfl,rfl⟩;have ba:=vj (y:=y) m1 m2;have bs:=lC (y:=y) m1;walk_at "a";refine⟨y,mo,rfl,m1,m2,?_⟩;walk_at "a";split
   ·rename_i hge;have lt12:mo < 12:=by
     by_cases z:mo < 12
     ·exact z
     ·have e:mo=12:=Ce
      subst e;rw [show(12:Int)+1=13 from rfl] at bs;have:=(tP y);omega
    refine⟨y,mo,rfl,m1,m2,?_⟩;walk_at "a";exact⟨_,Ce,mo+1,Ce,Ce,by rw [bs];omega,rfl,rfl,by rw [bs];omega⟩
   ·rename_i hlt;have D:lI d y mo (d - bu y - aL y mo+1):=⟨m1,m2,Ce,Ce,by unfold lW;omega⟩;generalize d - bu y - aL y mo+1=n at D⊢;have hyb:=vk D d0 (vU hd);have hb2:=rC (y:=y) m1 m2;have:=D.n1;have:=D.nl;have e1:=vn (y:=y.toNat) Ce Ce;rw [SN Ce] at e1;obtain⟨s1,s2⟩:=FZ (m:=mo) Ce Ce;obtain⟨s3,s4⟩:=FZ (m:=n) Ce Ce;have lm:(Pr "-").length=1:=td
    refine⟨nX Ce Ce,nX Ce Ce,by rw [s2];decide,nX Ce Ce,by rw [s4];decide,?_,?_⟩
    ·rw [e1,s1,s3,lm];show 4+(2+(2+0))+3*1<=16777216;decide
    ·rw [e1,s1,s3,F0,vS D];exact q
def F3:List Ww->(Ww->Prop)->Prop:=λds Q=>ds=[mh]/\∀d:Int,lx d->Q (.int d)
theorem Oq(T:Txt K mg t):aF P w K mg base CX0 2 t.a_q t.d_q ["_law_pack_here"] (bh K F3):=by
 have G_k:=@qC P w _ _ base _ T;have G_o:=@BR P w _ _ base _ T;have G_n:=@BQ P w _ _ base _ T;refine T.F_q.F.okD tV (λds Q h=>?_) (λ_ _ _ _ H O ds Q E hr h=>?_)
 ·obtain⟨rfl,_⟩:=h;rfl
 ·obtain⟨rfl,q⟩:=h;refine'⟨_,?A,?B⟩
  case A=>
   refine' ai ?C ?D
   case C=>exact(aY (i:=1) tV.nd rfl Wu (ar G_k hr T.F_k (aa (dv 0) (aa ae ah))))
   case' D=>refine' ai ?E ?F
   case E=>
    refine' aH ?G ?H aG
    case G=>exact(aD (cJ hr.units) cK (dv 1) ae (av _))
    case' H=>refine' ak ?I
    case I=>exact(ax (ar G_k hr T.F_k (aa (dv 0) (aa ae ah))))
   case' F=>refine' ai ?J ?K
   case J=>
    refine' aH ?L ?M aG
    case L=>exact(aD (cJ hr.units) cK (dv 1) ae (av _))
    case' M=>refine' ak ?N
    case N=>exact(ax (ar G_k hr T.F_k (aa (dv 0) (aa ae ah))))
   case' K=>refine' ai ?O ?P
   case O=>
    refine' aH ?Q ?R aG
    case Q=>exact(aD (cJ hr.units) cK (dv 1) ae (av _))
    case' R=>refine' ak ?S
    case' S=>generalize hE14_0:S8 _ _=ee14_0
    exact(ax (aj aO aP (fe (qr (ds:=[.int 0,.int 99999,.int 59,.int 60,.int 365,.int 366,.int 36524,.int 36525,.int 99996]) (by first | (subst hE14_0;rfl)))) (ar G_k hr T.F_k (aa (dv 0) (aa ae ah)))))
   case' P=>refine' ai ?T ?U
   case T=>exact(Dc (bE (aa (aW cD cS ae (ar G_k hr T.F_k (aa (dv 0) (aa ae ah)))) (aa (aW cD cS ae (ar G_k hr T.F_k (aa (dv 0) (aa ae ah)))) ah))) (sG (n:=2) rfl (my (bP (i:=2) tV.nd rfl Wu) (my (bP (i:=3) tV.nd rfl Wu) qO))) (uP (nu cj (nu cj tj))))
   case' U=>refine' ai ?V ?W
   case V=>
    refine' aY (i:=4) tV.nd rfl Wu ?X (hs:=qv)
    case X=>exact(aW lh cS (aW cD cS (ar G_o hr T.F_o (aa (dv 2) ah)) (PE.imp (aR (y4 rfl) rfl T.n_sum TU (aA (fe (Ag rfl FX rfl T.n_range (aA ae (aA (aW cD cS (dv 3) ae) aB)) cj kW tx (λ_ _ _ _=>(bP (i:=0) FX.nd rfl Wu)) (λ_ _ _ _=>kX) (λ_ _ _ _=>(ar G_n hr T.F_n (aa (dv 1) (aa (dv 0) ah)))))) aB)) (aE Ew))) ae)
   case' W=>refine' ak ?Y
   case' Y=>refine' ax ?Z
   case Z=>exact(PE.imp (aR (Ck rfl) rfl T.n_min UW (aA ae (aA (aW cD cS (dv 4) (ar G_k hr T.F_k (aa (dv 0) (aa ae ah)))) aB))) (aE Aa))
  case B=>
  clear hr T G_k G_o G_n;simp only [bY,true_and,↓jd,↓jm,↓jn,↓jo,↓jq,↓jr,↓jt,↓je,↓fB,↓iK,↓jT,↓jU,↓jV,↓jW,↓jX,↓jY,↓iL,↓iM,↓iN,↓iO,↓iP,↓iQ,↓iR,↓iS,↓iT,↓iU,↓iV,↓iW,↓iX,↓iY,↓iZ,↓i3,↓i4,↓i5,↓i6,↓i7,↓i8,↓i9,↓ja,↓jb,cf,cN,cg,dD,fR,fS,cO,dE,dF,dM,dN,fX,dh,dC,bB,dI,dU,dW,dX,gf,dY,cn,eJ,eG,d3,dZ,dL,cP,di,fO,cG,cy,bI,dj,dm,dn,dz,fP,dA,dB,cH,cz,fQ,gK,gM,gN,gO,gP,gQ,gR,gS,gT,gU,gW,gX,gY,gZ,g6,g9,hJ,hV,hW,hX,hZ,h7,ic,ie,ig,ij,ik,il,ip,iq,iu,iw,ix,iy,iz,iA,iB,iC,iD,iE,iF,iG,iH,gL,d8,gc,eL,cV,gj,gh,d6,d7,d9,eg,ei,eD,eF,cT,eM,eN,eO,bS,fY,fZ,gb,dO,dP,fT,fU,dQ,fV,dR,fW,fj,fv,fw,gH,gI,gG,gJ,eZ,ff,fg,fh,cq,fu,fk,eX,eY,fx,fy,fz,fA,cu,iI,iJ,jg,jf,jh,ji,jj,jk,jl,fC,fD,jx,jv,jw,ju,jC,jy,jz,jA,jB,cX,fE,jG,jH,jD,jE,jF,jI,jJ,jK,fF,jL,jM,fG,jO,fH,jP,jQ,jR,jN,jS,fJ,fK,fL,fM,jZ,j3,j5,fN,bY,gx,gy,gz,gA,gB,gC,gD,gE,gF,ne_eq,bK,gp,gr,gs,gu,gk,gm,gn,cI,cR,dS,cQ,dJ,dH,dG,bJ,bU,bp,bZ,cC,b0,Py,Qf,Px,P5,PK,Qa,P6,PY,QD,QE,QP,QK,QQ,PR,PL,Qc,P8,P9,P0,exists_eq_left',exists_eq_left,exists_and_left,exists_and_right,Ql,Qm,Sl.v.injEq,Sl.o.injEq,Sl.k.injEq,Qp,Qj,Qr,Qe,Qk,PJ,and_true,true_and,QR,Qs,exists_const,decide_eq_true_eq,QS,QU,QH,QI,P4,decide_eq_false_iff_not,and_assoc,or_true,true_or,↓reduceIte,if_true,if_false,PZ,Qb,not_true_eq_false,not_false_eq_true,QL,QA,ite_true,ite_false,eq_self,exists_eq,reduceCtorEq,false_and,and_false,or_false,false_or,exists_false,Qv,Qy,cx,QG,QV,QC,QW,P7,QB,Qg,QM,aV,bw,bX,cU,eQ,aT,cL,eV,beq_self_eq_true,eR,eT,gi,aS,WN];intro i i0 i1;split
  ·exact λj j0 j1=>q j ⟨j0,Ce⟩
  ·split
   ·exact λj j0 j1=>q j ⟨j0,Ce⟩
   ·split
    ·intro j j0 j1;obtain⟨v,e,hv⟩:=CW (xs:=[PV 0,PV 99999,PV 59,PV 60,PV 365,PV 366,PV 36524,PV 36525,PV 99996]) (i:=j) j0 (by show _ < ((9:Nat):Int);omega);refine⟨v,e,?_⟩;simp only [PH,P1,or_false] at hv;rcases hv with rfl | rfl | rfl | rfl | rfl | rfl | rfl | rfl | rfl <;> exact q _ ⟨tx,tx⟩
    ·intro y y0 y1 m m0 m1;have yg:=FY (y:=2000+y) Ce;refine⟨_,rfl,by have:((16777216:Nat):Int)=16777216:=rfl;omega,Ce,Ce,?_⟩;refine⟨λi acc=>∃ns:List Int,acc=ns.map .int/\(i:Int)<=ns.sum,⟨[],rfl,Wv⟩,?_,?_⟩
     ·rintro i z acc hz ⟨ns,rfl,hs⟩;obtain⟨hi,rfl⟩:=Ad hz;have hb:=rC (y:=2000+y) (m:=1+(i:Int)) Ce Ce;walk_at "a";exact⟨_,_,rfl,Ce,Ce,ns++[_],by rw [RG];rfl,by rw [UG,List.sum_singleton];omega⟩
     ·rintro acc ⟨ns,rfl,hs⟩;rw [Ae] at hs;refine⟨ns,rfl,_,rfl,λj j0 j1=>q _ ?_⟩;unfold lx;split <;> omega
def Ot:List Ww->(Ww->Prop)->Prop:=λds Q=>∃a b c d e:Str,ds=[mh,.list [.str a,.str b,.str c,.str d,.str e]]/\(∀z∈[a,b,c,d,e],Nm z)/\∀p,lV p->Q p
theorem Ou(T:Txt K mg t):aF P w K mg base CX0 2 t.a_m t.d_m ["_law_pack_here","_law_names_here"] (bh K Ot):=by
 have G_k:=@qC P w _ _ base _ T;refine T.F_m.F.okD oT (λds Q h=>?_) (λ_ _ _ _ H O ds Q E hr h=>?_)
 ·obtain⟨a,b,c,d,e,rfl,_⟩:=h;rfl
 ·obtain⟨a,b,c,d,e,rfl,hn,q⟩:=h;refine'⟨_,?A,?B⟩
  case A=>
   refine' ai ?C ?D
   case C=>
    generalize hE2_0:S8 _ _=ee2_0;exact(aY (i:=2) oT.nd rfl Wu (aj aO aP (fe (qr (ds:=[.str "keep",.str "gone",.str "keep",.str "gone",.str "while",.str "follow",.str "leave"]) (by first | (subst hE2_0;rfl)))) (ar G_k hr T.F_k (aa (dv 0) (aa ae ah)))))
   case' D=>refine' ai ?E ?F
   case E=>exact(aY (i:=3) oT.nd rfl Wu (aj aO aP (dv 1) (ar G_k hr T.F_k (aa (dv 0) (aa ae ah)))))
   case' F=>refine' ai ?G ?H
   case G=>
    refine' aH ?I ?J aG
    case I=>exact(aD (oI hr) mV (dv 2) (fe (bz (nA (ds:=[.str "while",.str "follow",.str "leave"]) (by rfl)))) rfl)
    case' J=>refine' ak ?K
    case K=>exact(ax (bE (aa (dv 2) (aa (dv 3) ah))))
   case' H=>refine' ai ?L ?M
   case L=>exact(aY (i:=4) oT.nd rfl Wu (bE (aa aw ah)))
   case' M=>refine' ai ?N ?O
   case N=>exact(aY (i:=5) oT.nd rfl Wu (ar G_k hr T.F_k (aa (dv 0) (aa ae ah))))
   case' O=>refine' ai ?P ?Q
   case P=>
    refine' aH ?R ?S aG
    case R=>exact(aD pe ck (dv 5) ae (av _))
    case' S=>refine' ak ?T
    case' T=>refine' aY (i:=4) oT.nd rfl Wu ?U (hs:=Ar)
    case' U=>refine' bE ?V
    case' V=>refine' aa ?W ?X
    case W=>exact(aj aO aP (fe (bz (aa aw (aa aw ah)))) (aW lh cS (dv 5) ae))
    case' X=>refine' aa ?Y ah
    case Y=>exact(aj aO aP (dv 1) (ar G_k hr T.F_k (aa (dv 0) (aa ae ah))))
   case' Q=>refine' ai ?Z ?a
   case Z=>exact(aY (i:=5) oT.nd rfl Wu (ar G_k hr T.F_k (aa (dv 0) (aa ae ah))))
   case' a=>refine' ai ?b ?c
   case b=>exact(aY (i:=6) oT.nd rfl Wu (aj aO aP (fe (bz (aa ae (aa ae ah)))) (aW om mT (dv 5) ae)))
   case' c=>refine' ai ?d ?e
   case d=>
    refine' aH ?f ?g aG
    case f=>exact(aD pe ck (dv 5) ae (av _))
    case' g=>refine' ak ?h
    case' h=>refine' aY (i:=6) oT.nd rfl Wu ?i (hs:=oO)
    case i=>exact(ar G_k hr T.F_k (aa (dv 0) (aa (aj aO aP (fe (bz (aa ae (aa ae ah)))) (aW lh cS (dv 5) ae)) ah)))
   case' e=>refine' ak ?j
   case' j=>refine' ax ?k
   case' k=>refine' bE ?l
   case' l=>refine' aa (dv 2) ?m
   case' m=>refine' aa (dv 3) ?n
   case' n=>refine' aa (dv 4) ?o
   case' o=>refine' aa (dv 6) ?p
   case' p=>refine' aa ?q ah
   case' q=>refine' pC aO aP (df ?r) ?s
   case r=>exact(fe (bz (nA (ds:=[.str "days",.str "months",.str "years"]) (by rfl))))
   case s=>exact(df (ar G_k hr T.F_k (aa (dv 0) (aa ae ah))))
  case B=>
  clear hr T G_k;simp only [bY,true_and,↓jd,↓jm,↓jn,↓jo,↓jq,↓jr,↓jt,↓je,↓fB,↓iK,↓jT,↓jU,↓jV,↓jW,↓jX,↓jY,↓iL,↓iM,↓iN,↓iO,↓iP,↓iQ,↓iR,↓iS,↓iT,↓iU,↓iV,↓iW,↓iX,↓iY,↓iZ,↓i3,↓i4,↓i5,↓i6,↓i7,↓i8,↓i9,↓ja,↓jb,cf,cN,cg,dD,fR,fS,cO,dE,dF,dM,dN,fX,dh,dC,bB,dI,dU,dW,dX,gf,dY,cn,eJ,eG,d3,dZ,dL,cP,di,fO,cG,cy,bI,dj,dm,dn,dz,fP,dA,dB,cH,cz,fQ,gK,gM,gN,gO,gP,gQ,gR,gS,gT,gU,gW,gX,gY,gZ,g6,g9,hJ,hV,hW,hX,hZ,h7,ic,ie,ig,ij,ik,il,ip,iq,iu,iw,ix,iy,iz,iA,iB,iC,iD,iE,iF,iG,iH,gL,d8,gc,eL,cV,gj,gh,d6,d7,d9,eg,ei,eD,eF,cT,eM,eN,eO,bS,fY,fZ,gb,dO,dP,fT,fU,dQ,fV,dR,fW,fj,fv,fw,gH,gI,gG,gJ,eZ,ff,fg,fh,cq,fu,fk,eX,eY,fx,fy,fz,fA,cu,iI,iJ,jg,jf,jh,ji,jj,jk,jl,fC,fD,jx,jv,jw,ju,jC,jy,jz,jA,jB,cX,fE,jG,jH,jD,jE,jF,jI,jJ,jK,fF,jL,jM,fG,jO,fH,jP,jQ,jR,jN,jS,fJ,fK,fL,fM,jZ,j3,j5,fN,bY,gx,gy,gz,gA,gB,gC,gD,gE,gF,ne_eq,bK,gp,gr,gs,gu,gk,gm,gn,cI,cR,dS,cQ,dJ,dH,dG,bJ,bU,bp,bZ,cC,b0,Py,Qf,Px,P5,PK,Qa,P6,PY,QD,QE,QP,QK,QQ,PR,PL,Qc,P8,P9,P0,exists_eq_left',exists_eq_left,exists_and_left,exists_and_right,Ql,Qm,Sl.v.injEq,Sl.o.injEq,Sl.k.injEq,Qp,Qj,Qr,Qe,Qk,PJ,and_true,true_and,QR,Qs,exists_const,decide_eq_true_eq,QS,QU,QH,QI,P4,decide_eq_false_iff_not,and_assoc,or_true,true_or,↓reduceIte,if_true,if_false,PZ,Qb,not_true_eq_false,not_false_eq_true,QL,QA,ite_true,ite_false,eq_self,exists_eq,reduceCtorEq,false_and,and_false,or_false,false_or,exists_false,Qv,Qy,cx,QG,QV,QC,QW,P7,QB,Qg,QM,aV,bw,bX,cU,eQ,aT,cL,eV,beq_self_eq_true,eR,eT,gi,aS,WN];intro i i0 i1;obtain⟨wo,hw,ew⟩:=qE [Pr "keep",Pr "gone",Pr "keep",Pr "gone",Pr "while",Pr "follow",Pr "leave"] (i:=i) i0 (by show _ < ((7:Nat):Int);omega)
  refine⟨_,ew,λi i0 i1=>?_⟩;have nm5:∀i:Int,0<=i->i < 5->∃nm,atI [Pu a,Pu b,Pu c,Pu d,Pu e] i=some (.str nm)/\Nm nm:=λi i0 i1=>by
   obtain⟨nm,hm,en⟩:=qE [a,b,c,d,e] i0 (show i < ((5:Nat):Int) by omega);exact⟨nm,en,hn nm hm⟩
  obtain⟨kd,ek,hk⟩:=nm5 i i0 i1;have hw2:wo∈(["while","follow","leave"]:List Str)\/wo∈(["keep","gone"]:List Str):=by
   simp only [PH,P1,or_false] at hw⊢;rcases hw with h | h | h | h | h | h | h <;> simp [h]
  have wl:∀z∈(["while","follow","leave","keep","gone"]:List Str),PM (.str z)=true:=td
  refine⟨_,ek,wl wo (by
   simp only [PH,P1,or_false] at hw2⊢;rcases hw2 with(h | h | h) | (h | h) <;> simp [h]),td,?_⟩
  rw [aT,aT,aT];split
  ·rename_i h;refine q _ (.wfl ?_ hk);simp only [Th,beq_iff_eq] at h;simp only [PH,P1,or_false];rcases h with h | h | h <;> simp [h]
  ·rename_i h;have hkg:wo∈(["keep","gone"]:List Str):=by
    rcases hw2 with z | z
    ·exfalso;apply h;simp only [PH,P1,or_false] at z;rcases z with rfl | rfl | rfl <;> decide+kernel
    ·exact z
   have un:∀(s:Ww)(m:Int),lU s->0<=m->m<=999->∀i:Int,0<=i->i < 3->∃x_3,atI [Pu (Pr "days"),Pu (Pr "months"),Pu (Pr "years")] i=some x_3/\Q (QF [.str wo,.str kd,s,.int m,x_3]):=λs m hs m0 m1 i i0 i1=>by
    obtain⟨u,hu,eu⟩:=qE [Pr "days",Pr "months",Pr "years"] i0 (show i < ((3:Nat):Int) by omega);exact⟨_,eu,q _ (.kg hkg hk hs m0 m1 hu)⟩
   have tl:∀s:Ww,lU s->∀i:Int,0<=i->i < 4->∃d,atI [PV 0,PV 999] (i % 2)=some d/\if 1 < i then ∃d,atI [PV 1000,PV 13] (i - 2)=some d/\Ac [mh,d] λd=>∀i:Int,0<=i->i < 3->∃x_3,atI [Pu (Pr "days"),Pu (Pr "months"),Pu (Pr "years")] i=some x_3/\Q (QF [.str wo,.str kd,s,d,x_3]) else ∀i:Int,0<=i->i < 3->∃x_3,atI [Pu (Pr "days"),Pu (Pr "months"),Pu (Pr "years")] i=some x_3/\Q (QF [.str wo,.str kd,s,d,x_3]):=λs hs i i0 i1=>by
    rcases(show i=0\/i=1\/i=2\/i=3 by omega) with rfl | rfl | rfl | rfl
    ·exact⟨_,rfl,un s 0 hs tx tx⟩
    ·exact⟨_,rfl,un s 999 hs tx tx⟩
    ·exact⟨_,rfl,_,rfl,1000,rfl,tx,tx,λj j0 j1=>un s j hs j0 Ce⟩
    ·exact⟨_,rfl,_,rfl,13,rfl,tx,tx,λj j0 j1=>un s j hs j0 Ce⟩
   intro i i0 i1;rcases(show i=0\/i=1\/i=2 by omega) with rfl | rfl | rfl
   ·exact tl _ .coming
   ·refine⟨_,rfl,λj j0 j1=>?_⟩;obtain⟨h,eh,hh⟩:=nm5 j j0 j1;exact⟨_,eh,tl _ (.first hh)⟩
   ·refine⟨_,rfl,λj j0 j1=>?_⟩;obtain⟨h,eh,hh⟩:=nm5 j j0 j1;exact⟨_,eh,tl _ (.last hh)⟩
end
theorem F4:bR (az vI) ["_law_word","_law_most"] ["_law_sign"] 1 [] ⟨Qo,[(Pw ".0",Yr),(Pw "_law_sign",Yr)],false,false,[]⟩:= .of
theorem F5:bR (az vJ) ["_law_word"] ["_law_sign"] 1 [] ⟨Qo,[(Pw ".0",Yr),(Pw "_law_sign",Yr)],false,false,[]⟩:= .of
theorem F6:bR (az qA) ["_law_word","_law_parts","_law_year","_law_month","_law_number","_law_day"] ["_law_part"] 1 [] ⟨Qo,[ (Pw ".0",Yr),(Pw "_law_part",Yr),(Pw "_law_figures",Qw)],false,false,[]⟩:= .of
theorem F7:bR (az qA) ["_law_word","_law_parts","_law_year","_law_month","_law_number","_law_day"] ["_law_part"] 1 [] ⟨Qo,[ (Pw ".0",Yr),(Pw "_law_part",Yr),(Pw "len",Qw)],false,false,[]⟩:= .of
theorem F8:bR (az qA) ["_law_word","_law_parts","_law_year","_law_month","_law_number","_law_day"] ["_law_part"] 1 [] ⟨Qo,[ (Pw ".0",Yr),(Pw "_law_part",Yr),(Pw "int",Qw)],false,false,[]⟩:= .of
theorem F9:bR (az qA) ["_law_word","_law_parts","_law_year","_law_month","_law_number","_law_day"] ["_law_k","_law_year"] 1 [2] ⟨Qo,[ (Pw ".0",Yr),(Pw "_law_k",Yr),(Pw "_law_length",Qw),(Pw "_law_year",Rh)],false,false,[]⟩:= .of
section
variable {P:WM} {w:WO} {K:Pt} {mg:Str->Option Wx} {base:WL} {t:k9}
theorem Ov{z:Str}(h:bN z (z.length:Int)=true)(h1:1<=z.length)(h4:z.length<=4):∃y:Nat,intText? z=some (y:Int):=by
 by_cases e:z.length=4
 ·obtain⟨y,_,_,h,_⟩:=tZ (z:=z) (by rw [e] at h;exact h);exact⟨y,h⟩
 ·obtain⟨y,_,h⟩:=BP h Ce Ce;exact⟨y,h⟩
def mv(z:Str)(m:Int):Prop:=1<=z.length/\(z.length:Int)<=m/\bN z (z.length:Int)=true
instance {z:Str} {m:Int}:Decidable (mv z m):=by unfold mv;infer_instance
def k6(z:Str)(m:Int):Ww:=if mv z m then .int (nv z) else .none
def Ga:List Ww->(Ww->Prop)->Prop:=λds Q=>∃(z:Str)(m:Int),ds=[.str z,.int m]/\z.length<=1000/\m<=4/\Q (k6 z m)
theorem Gb(T:Txt K mg t):aF P w K mg base CX0 1 t.a_v t.d_v ["_law_word","_law_most"] (bh K Ga):=by
 refine T.F_v.F.okD MR (λds Q h=>?_) (λ_ _ _ _ H O ds Q E hr h=>?_)
 ·obtain⟨z,m,rfl,_⟩:=h;rfl
 ·obtain⟨z,m,rfl,hz,hm,q⟩:=h;refine'⟨_,?A,?B⟩
  case A=>
   refine' ai ?C ?D
   case C=>
    refine' aH ?E ?F aG
    case E=>exact(PW.pt (ke (kj (pA ko ko ck ck (df ae) (df (PE.imp (aR oz rfl T.n_len Qq (aA (dv 0) aB)) (aE oJ))) (df (dv 1)))) (kG (kj (cb (PE.imp (aR (pq rfl) rfl T.n_all pw (aA (fe (uT rfl F4 (df (dv 0)) cj kW tx (λ_ _ _ _=>(bP (i:=0) F4.nd rfl Wu)) (λ_ _ _ _=>kX) (λ_ _ _ _=>(j9 ux uV (df (dv 0)) (df aw) rfl)))) aB)) (aE ny)))))))
    case F=>refine' ak (ax ki)
   case' D=>refine' ak ?G
   case G=>exact(ax (PE.imp (cE rA rfl T.n_int nj (aA (dv 0) aB)) (aE rB)))
  case B=>
  clear hr T;walk_at "a";refine⟨Ce,?_⟩;have no:¬mv z m->Q .none:=λh=>by unfold k6 at q;rw [Ws h] at q;exact q
  split
  ·rename_i h1;split
   ·rename_i h2;exact no λh=>h2 h.2.1
   ·rename_i h2;refine⟨Ce,qu (p:=λb=>if b=false then Q .none else ∃x,intText? z=some x/\z.length<=640/\Q (.int x)) (λx=>match x with | .str y=>decide (y.cps.toList.headD 0∈pM.cps.toList) | _=>false) (λx hx R hR=>?_) ?_⟩
    ·obtain⟨c,_,rfl⟩:=QO.mp hx;walk_at "a";rw [TC];exact hR
    ·have e:(QY (λx=>match x with | Pu y=>decide (y.cps.toList.headD 0∈pM.cps.toList) | _=>false) (qY z)).all id=bN z (z.length:Int):=by
      unfold bN qY;rw [decide_eq_true rfl,Qg,Rb,SK];rfl
     simp only [e];by_cases hf:bN z (z.length:Int)=true
     ·rw [Ws (by rw [hf];decide)];obtain⟨y,hy⟩:=Ov hf Ce Ce;have g:mv z m:=⟨Ce,Ce,hf⟩;unfold k6 nv at q;rw [Wt g,hy] at q;exact⟨_,hy,Ce,q⟩
     ·rw [Wt (by simpa using hf)];exact no λh=>hf h.2.2
  ·rename_i h1;exact no λh=>by have:=h.1;omega
def v5:List Ww->(Ww->Prop)->Prop:=λds Q=>∃z:Str,ds=[.str z]/\z.length<=1000/\Q (.bool (cM (.str z)))
theorem Gd(T:Txt K mg t):aF P w K mg base CX0 1 t.a_w t.d_w ["_law_word"] (bh K v5):=by
 refine T.F_w.F.okD MS (λds Q h=>?_) (λ_ _ _ _ H O ds Q E hr h=>?_)
 ·obtain⟨z,rfl,_⟩:=h;rfl
 ·obtain⟨z,rfl,hz,q⟩:=h;refine'⟨_,?A,?B⟩
  case A=>
   refine' ak ?C
   case' C=>refine' ax ?D
   case D=>exact(kJ (uM ko ko ck ck (df ae) (df (PE.imp (aR oz rfl T.n_len Qq (aA (dv 0) aB)) (aE oJ))) (df ae)) (lL (PE.imp (aR (pq rfl) rfl T.n_all pw (aA (fe (uT rfl F5 (df (dv 0)) cj kW tx (λ_ _ _ _=>(bP (i:=0) F5.nd rfl Wu)) (λ_ _ _ _=>kX) (λ_ _ _ _=>(j9 ux uV (df (dv 0)) (df aw) rfl)))) aB)) (aE ny))))
  case B=>
  clear hr T;walk_at "a";refine⟨Ce,?_⟩;simp only [cM] at q;split
  ·rename_i h1;rw [decide_eq_true (p:=1<=z.length) Ce,Qg] at q;split
   ·rename_i h2;rw [decide_eq_true (p:=z.length<=8) Ce,Qg] at q;refine⟨Ce,qu (p:=λb=>Q (.bool b)) (λx=>match x with | .str y=>decide (y.cps.toList.headD 0∈lu.cps.toList) | _=>false) (λx hx R hR=>?_) ?_⟩
    ·obtain⟨c,_,rfl⟩:=QO.mp hx;walk_at "a";rw [TC];exact hR
    ·unfold qY;rw [Rb,SK];exact q
   ·rename_i h2;rw [decide_eq_false (p:=z.length<=8) Ce] at q;exact q
  ·rename_i h1;rw [decide_eq_false (p:=1<=z.length) Ce] at q;exact q
theorem qF{z:Str}{m:Int}{Q:Ww->Prop}:Ga [.str z,.int m] Q↔z.length<=1000/\m<=4/\Q (k6 z m):=⟨λuu63=>by obtain⟨_,_,e,h⟩:=uu63;cases e;exact h,λh=>⟨_,_,rfl,h⟩⟩
theorem Ge{y m:Int}{Q:Ww->Prop}:F1 [.int y,.int m] Q↔1<=m/\m<=12/\Q (.int (bj y m)):=⟨λuu64=>by obtain⟨_,_,e,h⟩:=uu64;cases e;exact h,λh=>⟨_,_,rfl,h⟩⟩
theorem Ow{y:Int}{Q:Ww->Prop}:F2 [.int y] Q↔Q (.int (bu y)):=⟨λuu65=>by obtain⟨_,e,h⟩:=uu65;cases e;exact h,λh=>⟨_,rfl,h⟩⟩
theorem Gf:∀{ns:List Int},Q6 (ns.map .int)=true/\Ry (ns.map .int)=0
 | []=>⟨rfl,rfl⟩
 | n::r=>by
  obtain⟨a,b⟩:=Gf (ns:=r);rw [Py,Q6,Ry,a,b,QZ];exact⟨rfl,rfl⟩
theorem Ox{ns:List Int}:PM (.list (ns.map .int))=true:=by
 obtain⟨a,b⟩:=Gf (ns:=ns);unfold PM;rw [QZ,Sk,a,b];rfl
theorem Gg(z:Str)(m:Int):QZ (k6 z m)=true/\(k6 z m).eqv .none=!decide (mv z m):=by
 unfold k6;split
 ·rename_i h;rw [decide_eq_true h];exact⟨rfl,rfl⟩
 ·rename_i h;rw [decide_eq_false h];exact⟨rfl,rfl⟩
def Gh:Ww->Ww | .str y=>.int y.length | _=>.none
def Oy:Ww->Ww | .str y=>k6 y 4 | _=>.none
def Gi:Ww->Ww | .str y=>.int (nv y) | _=>.none
theorem Oz(ws:List Str):(ws.map Pu).map Gh=(ws.map λy:Str=>(y.length:Int)).map .int:=by rw [Rb,Rb];rfl
def Gj:List Ww->(Ww->Prop)->Prop:=λds Q=>∃z:Str,ds=[.str z]/\z.length<=1000/\Q (kZ z)
theorem OA(T:Txt K mg t):aF P w K mg base CX0 2 t.a_x t.d_x ["_law_word"] (bh K Gj):=by
 have G_v:=@Gb P w _ _ base _ T;have G_o:=@BR P w _ _ base _ T;have G_n:=@BQ P w _ _ base _ T;refine T.F_x.F.okD rQ (λds Q h=>?_) (λ_ _ _ _ H O ds Q E hr h=>?_)
 ·obtain⟨z,rfl,_⟩:=h;rfl
 ·obtain⟨z,rfl,hz,q⟩:=h;refine'⟨_,?A,?B⟩
  case A=>
   refine' ai ?C ?D
   case C=>exact(aY (i:=1) rQ.nd rfl Wu (fe (oQ (dv 0) aw)))
   case' D=>refine' ai ?E ?F
   case E=>
    refine' aH ?G ?H aG
    case G=>exact(PW.pt (ke (aD (mH hr.units) mI (fe (oF rfl F7 (df (dv 1)) cj kW tx (λ_ _ _ _=>(bP (i:=0) F7.nd rfl Wu)) (λ_ _ _ _=>kX) (λ_ _ _ _=>(PE.imp (aR oz rfl T.n_len Qq (aA (dv 0) aB)) (aE oJ))))) (fe (bz (nA (ds:=[.int 4,.int 2,.int 2]) (by rfl)))) (av _)) (kG (aD (oI hr) mV ki (fe (oF rfl F6 (df (dv 1)) cj kW tx (λ_ _ _ _=>(bP (i:=0) F6.nd rfl Wu)) (λ_ _ _ _=>kX) (λ_ _ _ _=>(ar G_v hr T.F_v (aa (dv 0) (aa ae ah)))))) rfl))))
    case H=>refine' ak (ax ki)
   case' F=>refine' ai ?I ?J
   case I=>exact(Dc (fe (oF rfl F8 (df (dv 1)) cj kW tx (λ_ _ _ _=>(bP (i:=0) F8.nd rfl Wu)) (λ_ _ _ _=>kX) (λ_ _ _ _=>(PE.imp (cE rA rfl T.n_int nj (aA (dv 0) aB)) (aE rB))))) (JI (n:=3) rfl (my (bP (i:=2) rQ.nd rfl Wu) (my (bP (i:=3) rQ.nd rfl Wu) (my (bP (i:=4) rQ.nd rfl Wu) qO)))) (JJ (nu cj (nu cj (nu cj tj)))))
   case' J=>refine' ai ?K ?L
   case K=>
    refine' aH ?M ?N aG
    case M=>exact(PW.pt (ke (aD qR ck (dv 2) ae (av _)) (ke (kj (pA ko ko ck ck (df ae) (df (dv 3)) (df ae))) (kG (kj (pA ko ko ck ck (df ae) (df (dv 4)) (df (ar G_n hr T.F_n (aa (dv 2) (aa (dv 3) ah))))))))))
    case N=>refine' ak (ax ki)
   case' L=>refine' ai ?O ?P
   case O=>
    refine' aY (i:=5) rQ.nd rfl Wu ?Q (hs:=qv)
    case Q=>exact(aW lh cS (aW cD cS (aW cD cS (ar G_o hr T.F_o (aa (dv 2) ah)) (PE.imp (aR (y4 rfl) rfl T.n_sum TU (aA (fe (Ag rfl F9 rfl T.n_range (aA ae (aA (dv 3) aB)) cj kW tx (λ_ _ _ _=>(bP (i:=0) F9.nd rfl Wu)) (λ_ _ _ _=>kX) (λ_ _ _ _=>(ar G_n hr T.F_n (aa (dv 1) (aa (dv 0) ah)))))) aB)) (aE Ew))) (dv 4)) ae)
   case' P=>refine' ak ?R
   case' R=>refine' ax ?S
   case' S=>refine' pC aO aP (df ?T) ?U
   case T=>exact(fe (bz (aa ki (aa (dv 5) ah))))
   case U=>exact(df (PE.imp (cE uA rfl T.n_int nj (aA (j9 ko ck (df (dv 5)) (df ae) (av _)) aB)) (aE uR)))
  case B=>
  clear hr T G_v G_o G_n;walk_at "a";have hl:(Txt.split z (Pr "-")).length<=1002:=Qz (S6 z _) Ce;refine⟨td,Ce,by rw [PD];omega,?_⟩;have wl:=λp=>Fw (z:=z) (p:=p);have q1:∀k,me z=some k->Q (.int k):=λk e=>by unfold kZ at q;rw [e] at q;exact q
  have q2:me z=none->Q .none:=λe=>by unfold kZ at q;rw [e] at q;exact q
  clear q;unfold me at q1 q2;generalize Txt.split z (Pr "-")=ws at*;refine mK Gh (λx hx R hR=>?_) ?_
  ·obtain⟨p,hp,rfl⟩:=QO.mp hx;walk_at "a";have:=wl p hp;exact⟨Ce,hR⟩
  ·rw [Oz];refine⟨Ox,td,?_⟩
   match ws with
   | [a,b,c]=>
    have la:=wl a Wv;have lb:=wl b Wv;have lc:=wl c Wv;simp only [] at q1 q2;have e:(Ra (([a,b,c].map λy:Str=>(y.length:Int)).map .int)).eqv (Ra [PV 4,PV 2,PV 2])=decide (a.length=4/\b.length=2/\c.length=2):=by
     rw [RO];simp [PN,Rg];omega
    rw [e];by_cases hL:a.length=4/\b.length=2/\c.length=2
    ·rw [Ws (by rw [decide_eq_true hL];decide)];obtain⟨l4,l2,l2'⟩:=hL;refine⟨by rw [PD];exact Qz hl tx,?_⟩;refine mK Oy (λx hx R hR=>?_) ?_
     ·obtain⟨p,hp,rfl⟩:=QO.mp hx;have:=wl p hp;simp only [qF,true_and,↓jd,↓jm,↓jn,↓jo,↓jq,↓jr,↓jt,↓je,↓fB,↓iK,↓jT,↓jU,↓jV,↓jW,↓jX,↓jY,↓iL,↓iM,↓iN,↓iO,↓iP,↓iQ,↓iR,↓iS,↓iT,↓iU,↓iV,↓iW,↓iX,↓iY,↓iZ,↓i3,↓i4,↓i5,↓i6,↓i7,↓i8,↓i9,↓ja,↓jb,cf,cN,cg,dD,fR,fS,cO,dE,dF,dM,dN,fX,dh,dC,bB,dI,dU,dW,dX,gf,dY,cn,eJ,eG,d3,dZ,dL,cP,di,fO,cG,cy,bI,dj,dm,dn,dz,fP,dA,dB,cH,cz,fQ,gK,gM,gN,gO,gP,gQ,gR,gS,gT,gU,gW,gX,gY,gZ,g6,g9,hJ,hV,hW,hX,hZ,h7,ic,ie,ig,ij,ik,il,ip,iq,iu,iw,ix,iy,iz,iA,iB,iC,iD,iE,iF,iG,iH,gL,d8,gc,eL,cV,gj,gh,d6,d7,d9,eg,ei,eD,eF,cT,eM,eN,eO,bS,fY,fZ,gb,dO,dP,fT,fU,dQ,fV,dR,fW,fj,fv,fw,gH,gI,gG,gJ,eZ,ff,fg,fh,cq,fu,fk,eX,eY,fx,fy,fz,fA,cu,iI,iJ,jg,jf,jh,ji,jj,jk,jl,fC,fD,jx,jv,jw,ju,jC,jy,jz,jA,jB,cX,fE,jG,jH,jD,jE,jF,jI,jJ,jK,fF,jL,jM,fG,jO,fH,jP,jQ,jR,jN,jS,fJ,fK,fL,fM,jZ,j3,j5,fN,bY,gx,gy,gz,gA,gB,gC,gD,gE,gF,ne_eq,bK,gp,gr,gs,gu,gk,gm,gn,cI,cR,dS,cQ,dJ,dH,dG,bJ,bU,bp,bZ,cC,b0,Py,Qf,Px,P5,PK,Qa,P6,PY,QD,QE,QP,QK,QQ,PR,PL,Qc,P8,P9,P0,exists_eq_left',exists_eq_left,exists_and_left,exists_and_right,Ql,Qm,Sl.v.injEq,Sl.o.injEq,Sl.k.injEq,Qp,Qj,Qr,Qe,Qk,PJ,and_true,true_and,QR,Qs,exists_const,decide_eq_true_eq,QS,QU,QH,QI,P4,decide_eq_false_iff_not,and_assoc,or_true,true_or,↓reduceIte,if_true,if_false,PZ,Qb,not_true_eq_false,not_false_eq_true,QL,QA,ite_true,ite_false,eq_self,exists_eq,reduceCtorEq,false_and,and_false,or_false,false_or,exists_false,Qv,Qy,cx,QG,QV,QC,QW,P7,QB,Qg,QM,aV,bw,bX,cU,eQ,aT,cL,eV,beq_self_eq_true,eR,eT,gi,aS,WN];exact⟨Ce,hR⟩
     ·have f4:mv a 4↔bN a 4=true:=by unfold mv;rw [l4];simp
      have f2:mv b 4↔bN b 2=true:=by unfold mv;rw [l2];simp
      have f2':mv c 4↔bN c 2=true:=by unfold mv;rw [l2'];simp
      show Q6 [k6 a 4,k6 b 4,k6 c 4]=true/\if ([k6 a 4,k6 b 4,k6 c 4].any λd=>d.eqv .none)=true then _ else _
      refine⟨by simp [Q6,Gg],?_⟩;rw [show([k6 a 4,k6 b 4,k6 c 4].any λd=>d.eqv .none)=!decide (bN a 4=true/\bN b 2=true/\bN c 2=true) by
       rw [RO];simp [Gg,f4,f2,f2']]
      by_cases hF:bN a 4=true/\bN b 2=true/\bN c 2=true
      ·rw [Ws (by rw [decide_eq_true hF];decide)];obtain⟨fa,fb,fc⟩:=hF;obtain⟨y,y1,y2,y3,_⟩:=tZ fa;obtain⟨m,m1,m2,m3⟩:=rR fb;obtain⟨n,n1,n2,n3⟩:=rR fc;have ea:nv a=y:=by unfold nv;rw [y3];rfl
       have eb:nv b=m:=by unfold nv;rw [m3];rfl
       have ec:nv c=n:=by unfold nv;rw [n3];rfl
       rw [ea,eb,ec] at q1 q2;refine⟨by rw [PD];exact Qz hl tx,?_⟩;refine mK Gi (λx hx R hR=>?_) ?_
       ·obtain⟨p,hp,rfl⟩:=QO.mp hx;walk_at "a";simp only [PH,P1,or_false] at hp;rcases hp with rfl | rfl | rfl
        ·exact⟨_,y3,Ce,by rw [<-ea];exact hR⟩
        ·exact⟨_,m3,Ce,by rw [<-eb];exact hR⟩
        ·exact⟨_,n3,Ce,by rw [<-ec];exact hR⟩
       ·simp only [Py,Qf,Gi];rw [ea,eb,ec];unfold Ds;simp only [Ge,Ow,true_and,↓jd,↓jm,↓jn,↓jo,↓jq,↓jr,↓jt,↓je,↓fB,↓iK,↓jT,↓jU,↓jV,↓jW,↓jX,↓jY,↓iL,↓iM,↓iN,↓iO,↓iP,↓iQ,↓iR,↓iS,↓iT,↓iU,↓iV,↓iW,↓iX,↓iY,↓iZ,↓i3,↓i4,↓i5,↓i6,↓i7,↓i8,↓i9,↓ja,↓jb,cf,cN,cg,dD,fR,fS,cO,dE,dF,dM,dN,fX,dh,dC,bB,dI,dU,dW,dX,gf,dY,cn,eJ,eG,d3,dZ,dL,cP,di,fO,cG,cy,bI,dj,dm,dn,dz,fP,dA,dB,cH,cz,fQ,gK,gM,gN,gO,gP,gQ,gR,gS,gT,gU,gW,gX,gY,gZ,g6,g9,hJ,hV,hW,hX,hZ,h7,ic,ie,ig,ij,ik,il,ip,iq,iu,iw,ix,iy,iz,iA,iB,iC,iD,iE,iF,iG,iH,gL,d8,gc,eL,cV,gj,gh,d6,d7,d9,eg,ei,eD,eF,cT,eM,eN,eO,bS,fY,fZ,gb,dO,dP,fT,fU,dQ,fV,dR,fW,fj,fv,fw,gH,gI,gG,gJ,eZ,ff,fg,fh,cq,fu,fk,eX,eY,fx,fy,fz,fA,cu,iI,iJ,jg,jf,jh,ji,jj,jk,jl,fC,fD,jx,jv,jw,ju,jC,jy,jz,jA,jB,cX,fE,jG,jH,jD,jE,jF,jI,jJ,jK,fF,jL,jM,fG,jO,fH,jP,jQ,jR,jN,jS,fJ,fK,fL,fM,jZ,j3,j5,fN,bY,gx,gy,gz,gA,gB,gC,gD,gE,gF,ne_eq,bK,gp,gr,gs,gu,gk,gm,gn,cI,cR,dS,cQ,dJ,dH,dG,bJ,bU,bp,bZ,cC,b0,Py,Qf,Px,P5,PK,Qa,P6,PY,QD,QE,QP,QK,QQ,PR,PL,Qc,P8,P9,P0,exists_eq_left',exists_eq_left,exists_and_left,exists_and_right,Ql,Qm,Sl.v.injEq,Sl.o.injEq,Sl.k.injEq,Qp,Qj,Qr,Qe,Qk,PJ,and_true,true_and,QR,Qs,exists_const,decide_eq_true_eq,QS,QU,QH,QI,P4,decide_eq_false_iff_not,and_assoc,or_true,true_or,↓reduceIte,if_true,if_false,PZ,Qb,not_true_eq_false,not_false_eq_true,QL,QA,ite_true,ite_false,eq_self,exists_eq,reduceCtorEq,false_and,and_false,or_false,false_or,exists_false,Qv,Qy,cx,QG,QV,QC,QW,P7,QB,Qg,QM,aV,bw,bX,cU,eQ,aT,cL,eV,beq_self_eq_true,eR,eT,gi,aS,WN];have no:¬lP y m n->Q .none:=λz=>q2 (Ws λw=>z w.2.2.2.1)
        split
        ·exact no λz=>by have:=z.1;omega
        ·split
         ·split
          ·exact no λz=>by have:=z.2.2.2.1;omega
          ·split
           ·refine⟨Ce,Ce,?_⟩;split
            ·exact no λz=>by have:=z.2.2.2.2.2;omega
            ·have hd:lP y m n:=⟨Ce,Ce,Ce,Ce,Ce,Ce⟩;refine⟨Ce,Ce,Ce,?_⟩;refine mK (λx=>match x with | .int k=>.int (bj y k) | _=>.none) (λx hx R hR=>?_) ?_
             ·obtain⟨k,hk,rfl⟩:=QO.mp hx;have hk:=Sd.mp hk;simp only [Ge,true_and,↓jd,↓jm,↓jn,↓jo,↓jq,↓jr,↓jt,↓je,↓fB,↓iK,↓jT,↓jU,↓jV,↓jW,↓jX,↓jY,↓iL,↓iM,↓iN,↓iO,↓iP,↓iQ,↓iR,↓iS,↓iT,↓iU,↓iV,↓iW,↓iX,↓iY,↓iZ,↓i3,↓i4,↓i5,↓i6,↓i7,↓i8,↓i9,↓ja,↓jb,cf,cN,cg,dD,fR,fS,cO,dE,dF,dM,dN,fX,dh,dC,bB,dI,dU,dW,dX,gf,dY,cn,eJ,eG,d3,dZ,dL,cP,di,fO,cG,cy,bI,dj,dm,dn,dz,fP,dA,dB,cH,cz,fQ,gK,gM,gN,gO,gP,gQ,gR,gS,gT,gU,gW,gX,gY,gZ,g6,g9,hJ,hV,hW,hX,hZ,h7,ic,ie,ig,ij,ik,il,ip,iq,iu,iw,ix,iy,iz,iA,iB,iC,iD,iE,iF,iG,iH,gL,d8,gc,eL,cV,gj,gh,d6,d7,d9,eg,ei,eD,eF,cT,eM,eN,eO,bS,fY,fZ,gb,dO,dP,fT,fU,dQ,fV,dR,fW,fj,fv,fw,gH,gI,gG,gJ,eZ,ff,fg,fh,cq,fu,fk,eX,eY,fx,fy,fz,fA,cu,iI,iJ,jg,jf,jh,ji,jj,jk,jl,fC,fD,jx,jv,jw,ju,jC,jy,jz,jA,jB,cX,fE,jG,jH,jD,jE,jF,jI,jJ,jK,fF,jL,jM,fG,jO,fH,jP,jQ,jR,jN,jS,fJ,fK,fL,fM,jZ,j3,j5,fN,bY,gx,gy,gz,gA,gB,gC,gD,gE,gF,ne_eq,bK,gp,gr,gs,gu,gk,gm,gn,cI,cR,dS,cQ,dJ,dH,dG,bJ,bU,bp,bZ,cC,b0,Py,Qf,Px,P5,PK,Qa,P6,PY,QD,QE,QP,QK,QQ,PR,PL,Qc,P8,P9,P0,exists_eq_left',exists_eq_left,exists_and_left,exists_and_right,Ql,Qm,Sl.v.injEq,Sl.o.injEq,Sl.k.injEq,Qp,Qj,Qr,Qe,Qk,PJ,and_true,true_and,QR,Qs,exists_const,decide_eq_true_eq,QS,QU,QH,QI,P4,decide_eq_false_iff_not,and_assoc,or_true,true_or,↓reduceIte,if_true,if_false,PZ,Qb,not_true_eq_false,not_false_eq_true,QL,QA,ite_true,ite_false,eq_self,exists_eq,reduceCtorEq,false_and,and_false,or_false,false_or,exists_false,Qv,Qy,cx,QG,QV,QC,QW,P7,QB,Qg,QM,aV,bw,bX,cU,eQ,aT,cL,eV,beq_self_eq_true,eR,eT,gi,aS,WN];exact⟨Ce,Ce,hR⟩
             ·refine⟨(Rz ((m:Int) - 1).toNat).map λ(i:Nat)=>bj y (1+(i:Int)),?_,?_⟩
              ·unfold lq;rw [Rb,Rb];rfl
              ·rw [show bu y+((Rz ((m:Int) - 1).toNat).map λ(i:Nat)=>bj y (1+(i:Int))).sum+n - 1=lW y m n from rfl];split
               ·exact⟨_,rfl,q1 _ (Wt ⟨fa,fb,fc,hd,Ce⟩)⟩
               ·exact⟨_,rfl,q2 (Ws λw=>by have:=w.2.2.2.2;omega)⟩
           ·exact no λz=>by have:=z.2.2.2.2.1;omega
         ·exact no λz=>by have:=z.2.2.1;omega
      ·rw [Wt (by rw [decide_eq_false hF];decide)];exact q2 (Ws λz=>hF ⟨z.1,z.2.1,z.2.2.1⟩)
    ·rw [Wt (by rw [decide_eq_false hL])];exact q2 (Ws λz=>hL (by
      obtain⟨_,_,h4,_⟩:=tZ z.1;obtain⟨_,_,h2,_⟩:=rR z.2.1;obtain⟨_,_,h2',_⟩:=rR z.2.2.1;exact⟨h4,h2,h2'⟩))
   | []=>rw [Wt (by simp [PN,Rg])];exact q2 rfl
   | [a]=>rw [Wt (by simp [PN,Rg])];exact q2 rfl
   | [a,b]=>rw [Wt (by simp [PN,Rg])];exact q2 rfl
   | a::b::c::d::r=>rw [Wt (by simp [PN,Rg])];exact q2 rfl
end
theorem Gk:bR (az vG) ["_law_pack_here","_law_names_here","_law_word","_law_head","_law_other","_law_some","_law_target"] ["_law_name_here","_law_pack_here"] 1 [0] ⟨Qo,[ (Pw ".0",Yr),(Pw "_law_name_here",Yr),(Pw "_law_take",Qw),(Pw "_law_pack_here",Rh)],false,false,[]⟩:= .of
section
variable {P:WM} {w:WO} {K:Pt} {mg:Str->Option Wx} {base:WL} {t:k9}
theorem Gm{ns:List Str}(h:ns.Nodup):(kY ns).Pairwise pI:=by
 have p:=Dy ns;have n:(kY ns).Nodup:=(uW ns).nodup_iff.mpr h;refine List.Pairwise.imp₂ (λa b h1 h2=>?_) p n;by_cases q:a.cps.toList < b.cps.toList
 ·exact q
 ·exact absurd (Dx h1 (decide_eq_true (Wi.mp q))) h2
theorem OB{Q:Ww->Prop}:F3 [mh] Q↔∀d:Int,lx d->Q (.int d):=⟨λuu66=>by obtain⟨_,h⟩:=uu66;exact h,λh=>⟨rfl,h⟩⟩
def OC:List Ww->(Ww->Prop)->Prop:=λds Q=>∃a b c d e:Str,ds=[mh,.list [.str a,.str b,.str c,.str d,.str e]]/\(∀z∈[a,b,c,d,e],Nm z)/\[a,b,c,d,e].Nodup/\∀p,bo p->Q p
theorem OD(T:Txt K mg t):aF P w K mg base CX0 3 t.a_r t.d_r ["_law_pack_here","_law_names_here"] (bh K OC):=by
 have G_k:=@qC P w _ _ base _ T;have G_q:=@Oq P w _ _ base _ T;have G_m:=@Ou P w _ _ base _ T;refine T.F_r.F.okD rO (λds Q h=>?_) (λ_ _ _ _ H O ds Q E hr h=>?_)
 ·obtain⟨a,b,c,d,e,rfl,_⟩:=h;rfl
 ·obtain⟨a,b,c,d,e,rfl,hn,nd,q⟩:=h;refine'⟨_,?A,?B⟩
  case A=>
   refine' ai ?C ?D
   case C=>
    generalize hE2_0:S8 _ _=ee2_0;exact(aY (i:=2) rO.nd rfl Wu (aj aO aP (fe (qr (ds:=[.str "paper",.str "happens",.str "rule",.str "rule",.str "end",.str "hold",.str "lift",.str "leave"]) (by first | (subst hE2_0;rfl)))) (ar G_k hr T.F_k (aa (dv 0) (aa ae ah)))))
   case' D=>refine' ai ?E ?F
   case E=>
    refine' aY (i:=3) rO.nd rfl Wu ?G (hs:=Ar)
    case' G=>refine' bE ?H
    case' H=>refine' aa (dv 2) ?I
    case' I=>refine' aa ?J ?K
    case J=>exact(ar G_q hr T.F_q (aa (dv 0) ah))
    case' K=>refine' aa ?L ah
    case L=>exact(aj aO aP (dv 1) (ar G_k hr T.F_k (aa (dv 0) (aa ae ah))))
   case' F=>refine' ai ?M ?N
   case M=>exact(aY (i:=4) rO.nd rfl Wu (aj aO aP (dv 1) (ar G_k hr T.F_k (aa (dv 0) (aa ae ah)))))
   case' N=>refine' ai ?O ?P
   case O=>
    refine' aH ?Q ?R aG
    case Q=>exact(aD (fq hr) ft (dv 2) aw (av _))
    case' R=>refine' ai ?S ?T
    case S=>
     refine' aY (i:=5) rO.nd rfl Wu ?U (hs:=oO)
     case U=>exact(fe (JZ rfl T.n_sorted Ux (aA (fe (oF rfl Gk (df (dv 1)) cj kW tx (λ_ _ _ _=>(bP (i:=0) Gk.nd rfl Wu)) (λ_ _ _ _=>(ID (aD (cJ hr.units) cK (ar G_k hr T.F_k (aa (dv 1) (aa ae ah))) ae (av _)))) (λ_ _ _ _=>(dv 0)))) aB)))
    case' T=>refine' ak ?V
    case' V=>refine' ax ?W
    case' W=>refine' aW nS nT (dv 3) ?X
    case' X=>refine' bE ?Y
    case' Y=>refine' aa (dv 4) ?Z
    case' Z=>refine' aa ?a ah
    case a=>exact(PE.imp (cE lZ rfl T.n_tuple k7 (aA (fe (kC (df (dv 5)) kl (bT ae))) aB)) (aE l8))
   case' P=>refine' ai ?b ?c
   case b=>
    refine' aH ?d ?e aG
    case d=>exact(aD (fq hr) ft (dv 2) aw (av _))
    case' e=>refine' ak ?f
    case' f=>refine' ax ?g
    case' g=>refine' aW nS nT (dv 3) ?h
    case h=>exact(bE (aa (ar G_m hr T.F_m (aa (dv 0) (aa (dv 1) ah))) ah))
   case' c=>refine' ai ?i ?j
   case i=>
    refine' aH ?k ?l aG
    case k=>exact(aD (fq hr) ft (dv 2) aw (av _))
    case' l=>refine' ai ?m ?n
    case m=>
     refine' aY (i:=6) rO.nd rfl Wu ?o (hs:=Kk)
     case' o=>refine' pC aO aP (df ?p) ?q
     case p=>
      refine' fe ?r
      case' r=>refine' bz ?s
      case' s=>refine' aa ?t ?u
      case t=>exact(bE (aa aw (aa (dv 4) ah)))
      case' u=>refine' aa ?v ah
      case v=>exact(bE (aa aw (aa (dv 4) ah)))
     case q=>exact(df (ar G_k hr T.F_k (aa (dv 0) (aa ae ah))))
    case' n=>refine' ak ?w
    case' w=>refine' ax ?x
    case' x=>refine' aW nS nT (dv 3) ?y
    case' y=>refine' bE ?z
    case' z=>refine' aa (dv 6) ?A0
    case' A0=>refine' aa ?A1 ah
    case A1=>exact(j9 (cJ hr.units) cK (df (ar G_k hr T.F_k (aa (dv 0) (aa ae ah)))) (df ae) (av _))
   case' j=>refine' ai ?A2 ?A3
   case A2=>
    refine' aH ?A4 ?A5 aG
    case A4=>exact(PW.pt (ke (aD (fq hr) ft (dv 2) aw (av _)) (kG (aD (fq hr) ft (dv 2) aw (av _)))))
    case' A5=>refine' ak ?A6
    case A6=>exact(ax (aW nS nT (dv 3) (bE (aa (dv 4) ah))))
   case' A3=>refine' ak ?A7
   case A7=>exact(ax (dv 3))
  case B=>
  clear hr T G_k G_q G_m;simp only [bY,OB,true_and,↓jd,↓jm,↓jn,↓jo,↓jq,↓jr,↓jt,↓je,↓fB,↓iK,↓jT,↓jU,↓jV,↓jW,↓jX,↓jY,↓iL,↓iM,↓iN,↓iO,↓iP,↓iQ,↓iR,↓iS,↓iT,↓iU,↓iV,↓iW,↓iX,↓iY,↓iZ,↓i3,↓i4,↓i5,↓i6,↓i7,↓i8,↓i9,↓ja,↓jb,cf,cN,cg,dD,fR,fS,cO,dE,dF,dM,dN,fX,dh,dC,bB,dI,dU,dW,dX,gf,dY,cn,eJ,eG,d3,dZ,dL,cP,di,fO,cG,cy,bI,dj,dm,dn,dz,fP,dA,dB,cH,cz,fQ,gK,gM,gN,gO,gP,gQ,gR,gS,gT,gU,gW,gX,gY,gZ,g6,g9,hJ,hV,hW,hX,hZ,h7,ic,ie,ig,ij,ik,il,ip,iq,iu,iw,ix,iy,iz,iA,iB,iC,iD,iE,iF,iG,iH,gL,d8,gc,eL,cV,gj,gh,d6,d7,d9,eg,ei,eD,eF,cT,eM,eN,eO,bS,fY,fZ,gb,dO,dP,fT,fU,dQ,fV,dR,fW,fj,fv,fw,gH,gI,gG,gJ,eZ,ff,fg,fh,cq,fu,fk,eX,eY,fx,fy,fz,fA,cu,iI,iJ,jg,jf,jh,ji,jj,jk,jl,fC,fD,jx,jv,jw,ju,jC,jy,jz,jA,jB,cX,fE,jG,jH,jD,jE,jF,jI,jJ,jK,fF,jL,jM,fG,jO,fH,jP,jQ,jR,jN,jS,fJ,fK,fL,fM,jZ,j3,j5,fN,bY,gx,gy,gz,gA,gB,gC,gD,gE,gF,ne_eq,bK,gp,gr,gs,gu,gk,gm,gn,cI,cR,dS,cQ,dJ,dH,dG,bJ,bU,bp,bZ,cC,b0,Py,Qf,Px,P5,PK,Qa,P6,PY,QD,QE,QP,QK,QQ,PR,PL,Qc,P8,P9,P0,exists_eq_left',exists_eq_left,exists_and_left,exists_and_right,Ql,Qm,Sl.v.injEq,Sl.o.injEq,Sl.k.injEq,Qp,Qj,Qr,Qe,Qk,PJ,and_true,true_and,QR,Qs,exists_const,decide_eq_true_eq,QS,QU,QH,QI,P4,decide_eq_false_iff_not,and_assoc,or_true,true_or,↓reduceIte,if_true,if_false,PZ,Qb,not_true_eq_false,not_false_eq_true,QL,QA,ite_true,ite_false,eq_self,exists_eq,reduceCtorEq,false_and,and_false,or_false,false_or,exists_false,Qv,Qy,cx,QG,QV,QC,QW,P7,QB,Qg,QM,aV,bw,bX,cU,eQ,aT,cL,eV,beq_self_eq_true,eR,eT,gi,aS,WN];intro i i0 i1;obtain⟨wo,hw,ew⟩:=qE [Pr "paper",Pr "happens",Pr "rule",Pr "rule",Pr "end",Pr "hold",Pr "lift",Pr "leave"] (i:=i) i0 (by show _ < ((8:Nat):Int);omega)
  have nm5:∀i:Int,0<=i->i < 5->∃nm,atI [Pu a,Pu b,Pu c,Pu d,Pu e] i=some (.str nm)/\Nm nm:=λi i0 i1=>by
   obtain⟨nm,hm,en⟩:=qE [a,b,c,d,e] i0 (show i < ((5:Nat):Int) by omega);exact⟨nm,en,hn nm hm⟩
  refine⟨_,ew,λn hd i i0 i1=>?_⟩;obtain⟨x,ex,hx⟩:=nm5 i i0 i1;refine⟨_,ex,λi i0 i1=>?_⟩;obtain⟨y,ey,hy⟩:=nm5 i i0 i1;refine⟨_,ey,bK,?_⟩;rw [aT];split
  ·rename_i h;rw [eq_of_beq h];refine Kl (λx hx R S hR hS=>?_) λys hy'=>?_
   ·walk_at "a";intro i i0 i1;split
    ·exact hR
    ·exact hS
   ·have e5:([Pu a,.str b,.str c,.str d,.str e]:List Ww)=[a,b,c,d,e].map .str:=rfl;rw [e5] at hy';obtain⟨zs,hz,rfl⟩:=List.sublist_map_iff.mp hy';have zl:zs.length<=5:=hz.length_le;refine⟨zs,rfl,Ce,?_⟩;have ce:bA ((kY zs).map Pu) none (some 4)=((kY zs).take 4).map .str:=by rw [Tc];exact FT (k:=4)
    rw [ce];refine q _ (.paper hd hx hy ⟨by rw [Rq];omega,λm hm=>hn m (hz.subset ((uW zs).mem_iff.mp (RQ hm))),(Gm (nd.sublist hz)).sublist (Uj _ _)⟩)
  ·rename_i hp;refine⟨bK,?_⟩;rw [aT];split
   ·rename_i h;rw [eq_of_beq h];exact⟨a,b,c,d,e,rfl,hn,λp pp=>q _ (.rule hd hx pp)⟩
   ·rename_i hr;refine⟨bK,?_⟩;rw [aT];split
    ·rename_i h;rw [eq_of_beq h];intro i i0 i1;rcases(show i=0\/i=1 by omega) with rfl | rfl
     ·exact⟨_,rfl,λj _ _=>q _ (.hold hd hx Wv hy)⟩
     ·exact⟨_,rfl,λj _ _=>q _ (.hold hd hx Wv hy)⟩
    ·rename_i ho;refine⟨bK,?_⟩;rw [aT];split
     ·rename_i h;exact q _ (.two (by rw [eq_of_beq h];simp) hd hx hy)
     ·rename_i hh;refine⟨bK,?_⟩;rw [aT];split
      ·rename_i h;exact q _ (.two (by rw [eq_of_beq h];simp) hd hx hy)
      ·rename_i hl;refine q _ (.one ?_ hd hx);simp only [PH,P1,or_false] at hw⊢;rcases hw with h | h | h | h | h | h | h | h
       ·exact absurd (by rw [h];rfl) hp
       ·exact absurd (by rw [h];rfl) hh
       ·exact absurd (by rw [h];rfl) hr
       ·exact absurd (by rw [h];rfl) hr
       ·exact .inl h
       ·exact absurd (by rw [h];rfl) ho
       ·exact .inr h
       ·exact absurd (by rw [h];rfl) hl
theorem OE{d:Ww}(h:bo d):((kF d).map (λx:Str=>x.length)).sum+(kF d).length*(Pr " ").length<=16777216:=by
 have dw:=uc h;have:=vW dw.2;have:=dw.1;rw [t8];omega
def OF:List Ww->(Ww->Prop)->Prop:=λds Q=>∃d,ds=[d]/\bo d/\Q (.str (bf d))
theorem OG(T:Txt K mg t):aF P w K mg base CX0 3 t.a_s t.d_s ["_law_deed"] (bh K OF):=by
 have G_p:=@Oo P w _ _ base _ T;refine T.F_s.F.okD rP (λds Q h=>?_) (λ_ _ _ _ H O ds Q E hr h=>?_)
 ·obtain⟨d,rfl,_⟩:=h;rfl
 ·obtain⟨d,rfl,hd,q⟩:=h;refine'⟨_,?A,?B⟩
  case A=>
   refine' ai ?C ?D
   case C=>
    refine' nP (i:=1) rP.nd rfl Wu ?E (hs:=Kj)
    case' E=>refine' bz ?F
    case' F=>refine' aa ?G ?H
    case G=>exact(aj aI aK (dv 0) ae)
    case' H=>refine' aa ?I ?J
    case I=>exact(ar G_p hr T.F_p (aa (aj aI aK (dv 0) ae) ah))
    case' J=>refine' aa ?K ah
    case K=>exact(aj aI aK (dv 0) ae)
   case' D=>refine' ai ?L ?M
   case L=>
    refine' aH ?N ?O aG
    case N=>exact(aD (fq hr) ft (aj aI aK (dv 0) ae) aw (av _))
    case' O=>refine' ak ?P
    case' P=>refine' nP (i:=1) rP.nd rfl Wu ?Q (hs:=qv)
    case' Q=>refine' lr (df ?R) (df ?S)
    case R=>exact(fe (lr (dw 1) (df (fe (bz (aa (aj aI aK (dv 0) ae) ah))))))
    case S=>exact(fe (qm rfl T.n_list qh (aA (aj aI aK (dv 0) ae) aB)))
   case' M=>refine' ai ?T ?U
   case T=>
    refine' aH ?V ?W aG
    case V=>exact(aD (fq hr) ft (aj aI aK (dv 0) ae) aw (av _))
    case' W=>refine' ai ?X ?Y
    case X=>
     refine' nP (i:=1) rP.nd rfl Wu ?Z (hs:=qv)
     case' Z=>refine' lr (dw 1) (df ?a)
     case a=>exact(fe (qm rfl T.n_list qh (aA (tE (df (aj aI aK (dv 0) ae)) kl (bT ae)) aB)))
    case' Y=>refine' ak ?b
    case' b=>refine' aH ?c ?d aG
    case c=>exact(aD (cJ hr.units) cK (PE.imp (aR kh rfl T.n_len Qq (aA (aj aI aK (dv 0) ae) aB)) (aE kq)) ae (av _))
    case' d=>refine' ak ?e
    case' e=>generalize hG27:VU _ _ _ _=eg27
    refine' nP (i:=1) rP.nd rfl Wu ?f (hs:=by subst hG27;exact qv)
    case' f=>subst hG27
    refine' lr (dw 1) (df ?g)
    case' g=>refine' fe ?h
    case' h=>refine' bz ?i
    case' i=>refine' aa ?j ?k
    case j=>exact(ED aw (df (aj aI aK (aj aI aK (dv 0) ae) ae)))
    case' k=>refine' aa ?l ?m
    case l=>exact(PE.imp (cE oo rfl T.n_str mS (aA (aj aI aK (aj aI aK (dv 0) ae) ae) aB)) (aE oP))
    case' m=>refine' aa ?n ah
    case n=>exact(aj aI aK (aj aI aK (dv 0) ae) ae)
   case' U=>refine' ai ?o ?p
   case o=>
    refine' aH ?q ?r aG
    case q=>exact(aD (fq hr) ft (aj aI aK (dv 0) ae) aw (av _))
    case' r=>refine' ak ?s
    case' s=>refine' nP (i:=1) rP.nd rfl Wu ?t (hs:=qv)
    case' t=>refine' lr (df ?u) (df ?v)
    case u=>
     refine' fe ?w
     case' w=>refine' lr (dw 1) (df ?x)
     case x=>exact(fe (qm rfl T.n_list qh (aA (aj aI aK (dv 0) ae) aB)))
    case' v=>refine' fe ?y
    case y=>exact(Li (bz (aa aw ah)) (PE.imp (cE uA rfl T.n_int nj (aA (aj aI aK (dv 0) ae) aB)) (aE uR)))
   case' p=>refine' ai ?z ?A0
   case z=>
    refine' aH ?A1 ?A2 aG
    case A1=>exact(PW.pt (ke (aD (fq hr) ft (aj aI aK (dv 0) ae) aw (av _)) (kG (aD (fq hr) ft (aj aI aK (dv 0) ae) aw (av _)))))
    case' A2=>refine' ak ?A3
    case A3=>exact(sZ (i:=1) (pv 1) (aj aI aK (dv 0) ae))
   case' A0=>refine' ak ?A4
   case A4=>exact(ax (mJ aw (dw 1)))
  case B=>
  clear hr T G_p;have sz:=OE hd;cases hd with
  | @paper n x k ms hn hx hk hm=>
   have e:kF (.tuple [.str "paper",.int n,.str x,.str k,.tuple (ms.map .str)])=Pr "paper"::ku n::x::k::ms:=by
    show Pr "paper"::ku n::x::k::pO (.tuple (ms.map .str))=_;rw [rT]
   walk_at "a";have:=hm.len;unfold bf at q;rw [e] at sz q;exact⟨n,rfl,hn,by rw [PD];omega,_,rfl,sz,q⟩
  | two hw hn hx hy=>
   simp only [PH,P1,or_false] at hw;rcases hw with rfl | rfl
   ·walk_at "a";exact⟨_,rfl,hn,_,rfl,sz,q⟩
   ·walk_at "a";exact⟨_,rfl,hn,_,rfl,sz,q⟩
  | rule hn hx hp=>
   cases hp with
   | wfl hw hk=>
    walk_at "a";refine⟨_,rfl,hn,?_⟩;dsimp only;rw [Ws tx];exact⟨_,rfl,sz,q⟩
   | kg hw hk hs h0 h1 hu=>
    walk_at "a";refine⟨_,rfl,hn,?_⟩;dsimp only;rw [Wt tx];obtain⟨e,z⟩:=vT hs;exact⟨_,e,z,nX h0 Ce,_,rfl,sz,q⟩
  | one hw hn hx=>
   simp only [PH,P1,or_false] at hw;rcases hw with rfl | rfl
   ·walk_at "a";exact⟨_,rfl,hn,_,rfl,sz,q⟩
   ·walk_at "a";exact⟨_,rfl,hn,_,rfl,sz,q⟩
  | @hold n x g y b hn hx hg hy=>
   cases b
   ·walk_at "a";exact⟨n,rfl,hn,(by show(5:Nat)<=16777216;decide),[Pr "hold",ku n,x,g,y],rfl,sz,q⟩
   ·walk_at "a";exact⟨n,rfl,hn,(by show(6:Nat)<=16777216;decide),[Pr "hold",ku n,x,g,y,Pr "deep"],rfl,sz,q⟩
end
theorem Gn:bR (az vK) ["_law_text","_law_words","_law_head","_law_more"] ["_law_word"] 1 [] ⟨Qo,[ (Pw ".0",Yr),(Pw "_law_word",Yr),(Pw "_law_name",Qw)],false,false,[]⟩:= .of
section
variable {P:WM} {w:WO} {K:Pt} {mg:Str->Option Wx} {base:WL} {t:k9}
theorem mO{z:Str}{Q:Ww->Prop}:v5 [.str z] Q↔z.length<=1000/\Q (.bool (cM (.str z))):=⟨λuu67=>by obtain⟨_,e,h⟩:=uu67;cases e;exact h,λh=>⟨_,rfl,h⟩⟩
theorem Gp{z:Str}{Q:Ww->Prop}:Gj [.str z] Q↔z.length<=1000/\Q (kZ z):=⟨λuu68=>by obtain⟨_,e,h⟩:=uu68;cases e;exact h,λh=>⟨_,rfl,h⟩⟩
theorem mw{z:Str}:cM (.str z)=true↔Nm z:=⟨λh=>by obtain⟨y,e,hy⟩:=mY h;injection e with e;rw [e];exact hy,Nm.is⟩
theorem rZ{u v a:Str}:(u==a || v==a)=decide (a∈[u,v]):=by
 rw [RO,Th,beq_iff_eq,beq_iff_eq,decide_eq_true_eq,PH,Rc];exact or_congr eq_comm eq_comm
theorem Gq{u v w a:Str}:(u==a || (v==a || w==a))=decide (a∈[u,v,w]):=by
 rw [RO,Th,Th,beq_iff_eq,beq_iff_eq,beq_iff_eq,decide_eq_true_eq,PH,PH,Rc];exact or_congr eq_comm (or_congr eq_comm eq_comm)
theorem v7{z:Str}{c:Nat}:Txt.join ⟨#[c]⟩ (Txt.split z ⟨#[c]⟩)=z:=by
 rw [show Txt.join ⟨#[c]⟩ (Txt.split z ⟨#[c]⟩)=SM ⟨#[c]⟩ _ from RU _ _];exact T7 z ⟨#[c]⟩
theorem OH{a b:List Str}:(QF (a.map .str)).eqv (QF (b.map .str))=decide (a=b):=by rw [PN];exact vY
theorem qG{a b:List Str}:(Ra (a.map .str)).eqv (Ra (b.map .str))=decide (a=b):=by rw [PN];exact vY
theorem n5{c:DB}{t r:DS}{E:pz}{δ:Dl}(h:∀R,R=r->c δ λb=>if b=true then t {E with nx:=R E} δ else R E δ):cf (cg c t cN) r E δ:=h r rfl
theorem OI{cs:List Str}{Q:Ww->Prop}{X:Prop}(hw:∀z∈cs,qD z)(q:(∀s,lU s->km s≠cs)->Q .none)(hx:∀s,lU s->km s=cs->X):
 PM (QF (QY Pu cs))=true/\PM (QF [Pu (Pr "coming")])=true/\
  if (QF (QY Pu cs)).eqv (QF [Pu (Pr "coming")])=false then
   if (((QY Pu cs).length:Int)==2)=false then Q R8
   else ∃x,atI (QY Pu cs) 0=some x/\PM x=true/\Q6 [Pu (Pr "first"),Pu (Pr "last")]=true/\
    if ((Pu (Pr "first")).eqv x || (Pu (Pr "last")).eqv x)=false then Q R8
    else ∃x,atI (QY Pu cs) 1=some x/\v5 [x] λd=>∃b,d=TK b/\if b=false then Q R8 else X
  else X:=by
 refine⟨(pR λz hz=>(hw z hz).2).2,td,?_⟩;rw [show(QF (QY Pu cs)).eqv (QF [Pu (Pr "coming")])=decide (cs=[Pr "coming"]) from OH (b:=[Pr "coming"])];by_cases hc:cs=[Pr "coming"]
 ·rw [Ws (by rw [decide_eq_true hc];decide)];exact hx _ .coming hc.symm
 ·rw [Wt (decide_eq_false hc)];have no:(∀a b,cs=[a,b]->¬(a∈[Pr "first",Pr "last"]/\Nm b))->Q .none:=λh=>q λs hs e=>by
   cases hs with
   | coming=>exact hc e.symm
   | first hh=>exact h _ _ e.symm ⟨Wv,hh⟩
   | last hh=>exact h _ _ e.symm ⟨Wv,hh⟩
  match cs,hw with
  | [a,b],hw=>
   have wa:=hw a Wv;have wb:=hw b Wv;rw [Ws Wv];refine⟨_,aV,mi.mpr wa.2,td,?_⟩;rw [aT,aT,rZ];by_cases ha:a∈[Pr "first",Pr "last"]
   ·rw [Ws (by rw [decide_eq_true ha];decide)];refine⟨_,bw,_,rfl,wb.1,_,rfl,?_⟩;by_cases hb:Nm b
    ·rw [Ws (by rw [mw.mpr hb];decide)];simp only [PH,P1,or_false] at ha;rcases ha with rfl | rfl
     ·exact hx _ (.first hb) rfl
     ·exact hx _ (.last hb) rfl
    ·rw [Wt (by simpa using λz=>hb (mw.mp z))];exact no λ_ _ e z=>by injection e with _ e;injection e with e;exact hb (e▸z.2)
   ·rw [Wt (decide_eq_false ha)];exact no λ_ _ e z=>by injection e with e _;exact ha (e▸z.1)
  | [],_=>rw [Wt Wv];exact no λ_ _ e=>by cases e
  | [_],_=>rw [Wt Wv];exact no λ_ _ e=>by cases e
  | _::_::_::_,_=>rw [Wt (by simp;omega)];exact no λ_ _ e=>by cases e
theorem OJ{z:Str}(h:Wz z):QX z=true:=nQ.mpr λc hc=>Vk (h.2 c hc).2 tx
def OK:List Ww->(Ww->Prop)->Prop:=λds Q=>∃ws:List Str,ds=[.list (lE ws)]/\ws.length<=1002/\(∀z∈ws,qD z)/\(∀p,lV p->lQ p=ws->Q p)/\((∀p,lV p->lQ p≠ws)->Q .none)
theorem OL(T:Txt K mg t):aF P w K mg base CX0 2 t.a_y t.d_y ["_law_words"] (bh K OK):=by
 have G_v:=@Gb P w _ _ base _ T;have G_w:=@Gd P w _ _ base _ T;refine T.F_y.F.okD BC (λds Q h=>?_) (λ_ _ _ _ H O ds Q E hr h=>?_)
 ·obtain⟨ws,rfl,_⟩:=h;rfl
 ·obtain⟨ws,rfl,hl,hw,q1,q2⟩:=h;refine'⟨_,?A,?B⟩
  case A=>
   refine' ai ?C ?D
   case C=>
    refine' aH ?E ?F aG
    case E=>exact(PW.pt (kH (aD (cJ hr.units) cK (PE.imp (aR kh rfl T.n_len Qq (aA (dv 0) aB)) (aE kq)) ae (av _)) (kH (aD (oI hr) mV (aj aO aP (dv 0) ae) (fe (bz (nA (ds:=[.str "while",.str "follow",.str "leave"]) (by rfl)))) rfl) (lG (cb (ar G_w hr T.F_w (aa (aj aO aP (dv 0) ae) ah)))))))
    case' F=>refine' ak ?G
    case G=>exact(ax (PE.imp (cE lZ rfl T.n_tuple k7 (aA (dv 0) aB)) (aE l8)))
   case' D=>refine' ai ?H ?I
   case H=>
    refine' aH ?J ?K aG
    case J=>exact(PW.pt (ke (aD (mH hr.units) mI (PE.imp (aR kh rfl T.n_len Qq (aA (dv 0) aB)) (aE kq)) ae (av _)) (ke (aD (Ai hr) mV (aj aO aP (dv 0) ae) (fe (bz (aa aw (aa aw ah)))) rfl) (kG (kj (cb (ar G_w hr T.F_w (aa (aj aO aP (dv 0) ae) ah))))))))
    case K=>refine' ak (ax ki)
   case' I=>refine' ai ?L ?M
   case L=>
    refine' aY (i:=1) BC.nd rfl Wu ?N (hs:=oO)
    case N=>exact(PE.imp (cE lZ rfl T.n_tuple k7 (aA (fe (oQ (aj aO aP (dv 0) ae) aw)) aB)) (aE l8))
   case' M=>refine' ai ?O ?P
   case O=>
    refine' aH ?Q ?R aG
    case Q=>exact(aD (mH hr.units) mI (dv 1) (bE (aa aw ah)) (av _))
    case' R=>refine' ak ?S
    case' S=>refine' aH ?T ?U aG
    case T=>exact(PW.pt (ke (aD (mH hr.units) mI (PE.imp (aR kh rfl T.n_len Qq (aA (dv 1) aB)) (aE kq)) ae (av _)) (ke (aD (Ai hr) mV (aj aI aK (dv 1) ae) (fe (bz (aa aw (aa aw ah)))) rfl) (kG (kj (cb (ar G_w hr T.F_w (aa (aj aI aK (dv 1) ae) ah))))))))
    case U=>refine' ak (ax ki)
   case' P=>refine' ai ?V ?W
   case V=>exact(aY (i:=2) BC.nd rfl Wu (ar G_v hr T.F_v (aa (aj aO aP (dv 0) ae) (aa ae ah))))
   case' W=>refine' ai ?X ?Y
   case X=>
    refine' aH ?Z ?a aG
    case Z=>exact(PW.pt (ke (aD qS va (dv 2) ki (av _)) (ke (aD (mH hr.units) mI (PE.imp (cE oo rfl T.n_str mS (aA (dv 2) aB)) (aE oP)) (aj aO aP (dv 0) ae) (av _)) (kG (aD (Ai hr) mV (aj aO aP (dv 0) ae) (fe (bz (nA (ds:=[.str "days",.str "months",.str "years"]) (by rfl)))) rfl)))))
    case a=>refine' ak (ax ki)
   case' Y=>refine' ak ?b
   case' b=>refine' ax ?c
   case' c=>refine' bE ?d
   case' d=>refine' aa ?e ?f
   case e=>exact(aj aO aP (dv 0) ae)
   case' f=>refine' aa ?g ?h
   case g=>exact(aj aO aP (dv 0) ae)
   case' h=>refine' aa (dv 1) ?i
   case' i=>refine' aa (dv 2) ?j
   case' j=>refine' aa ?k ah
   case k=>exact(aj aO aP (dv 0) ae)
  case B=>
  clear hr T G_v G_w;unfold lE;have two:(∀(a b:Str),ws≠[a,b])->(∀(a b c d e:Str),ws≠[a,b,c,d,e])->Q .none:=λh h2=>q2 λp hp e=>by
   cases hp with
   | wfl _ _=>exact h _ _ e.symm
   | kg _ _ _ _ _ _=>exact h2 _ _ _ _ _ e.symm
  refine n5 λR hR=>?_;simp only [mO,qF,true_and,↓jd,↓jm,↓jn,↓jo,↓jq,↓jr,↓jt,↓je,↓fB,↓iK,↓jT,↓jU,↓jV,↓jW,↓jX,↓jY,↓iL,↓iM,↓iN,↓iO,↓iP,↓iQ,↓iR,↓iS,↓iT,↓iU,↓iV,↓iW,↓iX,↓iY,↓iZ,↓i3,↓i4,↓i5,↓i6,↓i7,↓i8,↓i9,↓ja,↓jb,cf,cN,cg,dD,fR,fS,cO,dE,dF,dM,dN,fX,dh,dC,bB,dI,dU,dW,dX,gf,dY,cn,eJ,eG,d3,dZ,dL,cP,di,fO,cG,cy,bI,dj,dm,dn,dz,fP,dA,dB,cH,cz,fQ,gK,gM,gN,gO,gP,gQ,gR,gS,gT,gU,gW,gX,gY,gZ,g6,g9,hJ,hV,hW,hX,hZ,h7,ic,ie,ig,ij,ik,il,ip,iq,iu,iw,ix,iy,iz,iA,iB,iC,iD,iE,iF,iG,iH,gL,d8,gc,eL,cV,gj,gh,d6,d7,d9,eg,ei,eD,eF,cT,eM,eN,eO,bS,fY,fZ,gb,dO,dP,fT,fU,dQ,fV,dR,fW,fj,fv,fw,gH,gI,gG,gJ,eZ,ff,fg,fh,cq,fu,fk,eX,eY,fx,fy,fz,fA,cu,iI,iJ,jg,jf,jh,ji,jj,jk,jl,fC,fD,jx,jv,jw,ju,jC,jy,jz,jA,jB,cX,fE,jG,jH,jD,jE,jF,jI,jJ,jK,fF,jL,jM,fG,jO,fH,jP,jQ,jR,jN,jS,fJ,fK,fL,fM,jZ,j3,j5,fN,bY,gx,gy,gz,gA,gB,gC,gD,gE,gF,ne_eq,bK,gp,gr,gs,gu,gk,gm,gn,cI,cR,dS,cQ,dJ,dH,dG,bJ,bU,bp,bZ,cC,b0,Py,Qf,Px,P5,PK,Qa,P6,PY,QD,QE,QP,QK,QQ,PR,PL,Qc,P8,P9,P0,exists_eq_left',exists_eq_left,exists_and_left,exists_and_right,Ql,Qm,Sl.v.injEq,Sl.o.injEq,Sl.k.injEq,Qp,Qj,Qr,Qe,Qk,PJ,and_true,true_and,QR,Qs,exists_const,decide_eq_true_eq,QS,QU,QH,QI,P4,decide_eq_false_iff_not,and_assoc,or_true,true_or,↓reduceIte,if_true,if_false,PZ,Qb,not_true_eq_false,not_false_eq_true,QL,QA,ite_true,ite_false,eq_self,exists_eq,reduceCtorEq,false_and,and_false,or_false,false_or,exists_false,Qv,Qy,cx,QG,QV,QC,QW,P7,QB,Qg,QM,aV,bw,bX,cU,eQ,aT,cL,eV,beq_self_eq_true,eR,eT,gi,aS,WN];generalize hG:R _ _=G;have bad:(((QY Pu ws).length:Int)==5)=false->Q .none->G:=λh5 no=>by
   subst hG;subst hR;refine n5 λR hR=>?_;clear q1 q2 two;simp only [mO,qF,true_and,↓jd,↓jm,↓jn,↓jo,↓jq,↓jr,↓jt,↓je,↓fB,↓iK,↓jT,↓jU,↓jV,↓jW,↓jX,↓jY,↓iL,↓iM,↓iN,↓iO,↓iP,↓iQ,↓iR,↓iS,↓iT,↓iU,↓iV,↓iW,↓iX,↓iY,↓iZ,↓i3,↓i4,↓i5,↓i6,↓i7,↓i8,↓i9,↓ja,↓jb,cf,cN,cg,dD,fR,fS,cO,dE,dF,dM,dN,fX,dh,dC,bB,dI,dU,dW,dX,gf,dY,cn,eJ,eG,d3,dZ,dL,cP,di,fO,cG,cy,bI,dj,dm,dn,dz,fP,dA,dB,cH,cz,fQ,gK,gM,gN,gO,gP,gQ,gR,gS,gT,gU,gW,gX,gY,gZ,g6,g9,hJ,hV,hW,hX,hZ,h7,ic,ie,ig,ij,ik,il,ip,iq,iu,iw,ix,iy,iz,iA,iB,iC,iD,iE,iF,iG,iH,gL,d8,gc,eL,cV,gj,gh,d6,d7,d9,eg,ei,eD,eF,cT,eM,eN,eO,bS,fY,fZ,gb,dO,dP,fT,fU,dQ,fV,dR,fW,fj,fv,fw,gH,gI,gG,gJ,eZ,ff,fg,fh,cq,fu,fk,eX,eY,fx,fy,fz,fA,cu,iI,iJ,jg,jf,jh,ji,jj,jk,jl,fC,fD,jx,jv,jw,ju,jC,jy,jz,jA,jB,cX,fE,jG,jH,jD,jE,jF,jI,jJ,jK,fF,jL,jM,fG,jO,fH,jP,jQ,jR,jN,jS,fJ,fK,fL,fM,jZ,j3,j5,fN,bY,gx,gy,gz,gA,gB,gC,gD,gE,gF,ne_eq,bK,gp,gr,gs,gu,gk,gm,gn,cI,cR,dS,cQ,dJ,dH,dG,bJ,bU,bp,bZ,cC,b0,Py,Qf,Px,P5,PK,Qa,P6,PY,QD,QE,QP,QK,QQ,PR,PL,Qc,P8,P9,P0,exists_eq_left',exists_eq_left,exists_and_left,exists_and_right,Ql,Qm,Sl.v.injEq,Sl.o.injEq,Sl.k.injEq,Qp,Qj,Qr,Qe,Qk,PJ,and_true,true_and,QR,Qs,exists_const,decide_eq_true_eq,QS,QU,QH,QI,P4,decide_eq_false_iff_not,and_assoc,or_true,true_or,↓reduceIte,if_true,if_false,PZ,Qb,not_true_eq_false,not_false_eq_true,QL,QA,ite_true,ite_false,eq_self,exists_eq,reduceCtorEq,false_and,and_false,or_false,false_or,exists_false,Qv,Qy,cx,QG,QV,QC,QW,P7,QB,Qg,QM,aV,bw,bX,cU,eQ,aT,cL,eV,beq_self_eq_true,eR,eT,gi,aS,WN];rw [Wt h5];exact no
  match ws,hl,hw,q1,q2,two,bad with
  | [a,b],hl,hw,q1,q2,_,bad=>
   clear hG hR;have wa:=hw a Wv;have wb:=hw b Wv
   replace bad:=bad rfl
   have no:¬(a∈[Pr "while",Pr "follow",Pr "leave"]/\Nm b)->Q .none:=λh=>q2 λp hp e=>by
    cases hp with
    | wfl h1 h2=>
     injection e with e1 e;injection e with e2 _
     subst e1 e2;exact h ⟨h1,h2⟩
    | kg _ _ _ _ _ _=>exact absurd (congrArg Td e) (by simp [lQ])
   rw [Wt Wv];refine⟨_,aV,mi.mpr wa.2,td,?_⟩;rw [aT,aT,aT,Gq];by_cases ha:a∈[Pr "while",Pr "follow",Pr "leave"]
   ·rw [Wt (decide_eq_true ha)];refine⟨_,bw,_,rfl,wb.1,_,rfl,?_⟩;by_cases hb:Nm b
    ·rw [Wt (mw.mpr hb)];exact q1 _ (.wfl ha hb) rfl
    ·rw [Ws (λz=>hb (mw.mp z))];exact bad (no λz=>hb z.2)
   ·rw [Ws (by simpa using ha)];exact bad (no λz=>ha z.1)
  | [a,b,c,d,e],hl,hw,q1,q2,_,_=>
   subst hG;subst hR;have wa:=hw a Wv;have wb:=hw b Wv;have wc:=hw c Wv;have wd:=hw d Wv;have we:=hw e Wv;have no:¬(a∈[Pr "keep",Pr "gone"]/\Nm b/\(∃s,lU s/\km s=Txt.split c (Pr ":"))/\(mv d 3/\ky (nv d)=d)/\e∈[Pr "days",Pr "months",Pr "years"])->Q .none:=λh=>q2 λp hp ee=>by
    cases hp with
    | wfl _ _=>exact absurd (congrArg Td ee) (by simp [lQ])
    | @kg _ _ _ s m hw2 hk hs h0 h1 hu=>
     injection ee with e1 ee;injection ee with e2 ee;injection ee with e3 ee;injection ee with e4 ee;injection ee with e5 _
     subst e1 e2 e3 e4 e5;have sw:=BL hs;obtain⟨⟨l1,l2⟩,f1,f2,_⟩:=BK h0 h1;have rd:intText? (ky m)=some m:=by
      obtain⟨k,rfl⟩:=Q2 h0;exact UU Ce Ce
     refine h ⟨hw2,hk,⟨s,hs,?_⟩,⟨⟨l2,by show((ky m).length:Int)<=3;omega,f1⟩,?_⟩,hu⟩
     ·rw [rV,vV sw.1 λz hz=>(sw.2 z hz).2.1]
     ·show ky (nv (ky m))=ky m;unfold nv;rw [rd];rfl
   rw [Ws Wv];refine n5 λR hR=>?_;simp only [mO,qF,true_and,↓jd,↓jm,↓jn,↓jo,↓jq,↓jr,↓jt,↓je,↓fB,↓iK,↓jT,↓jU,↓jV,↓jW,↓jX,↓jY,↓iL,↓iM,↓iN,↓iO,↓iP,↓iQ,↓iR,↓iS,↓iT,↓iU,↓iV,↓iW,↓iX,↓iY,↓iZ,↓i3,↓i4,↓i5,↓i6,↓i7,↓i8,↓i9,↓ja,↓jb,cf,cN,cg,dD,fR,fS,cO,dE,dF,dM,dN,fX,dh,dC,bB,dI,dU,dW,dX,gf,dY,cn,eJ,eG,d3,dZ,dL,cP,di,fO,cG,cy,bI,dj,dm,dn,dz,fP,dA,dB,cH,cz,fQ,gK,gM,gN,gO,gP,gQ,gR,gS,gT,gU,gW,gX,gY,gZ,g6,g9,hJ,hV,hW,hX,hZ,h7,ic,ie,ig,ij,ik,il,ip,iq,iu,iw,ix,iy,iz,iA,iB,iC,iD,iE,iF,iG,iH,gL,d8,gc,eL,cV,gj,gh,d6,d7,d9,eg,ei,eD,eF,cT,eM,eN,eO,bS,fY,fZ,gb,dO,dP,fT,fU,dQ,fV,dR,fW,fj,fv,fw,gH,gI,gG,gJ,eZ,ff,fg,fh,cq,fu,fk,eX,eY,fx,fy,fz,fA,cu,iI,iJ,jg,jf,jh,ji,jj,jk,jl,fC,fD,jx,jv,jw,ju,jC,jy,jz,jA,jB,cX,fE,jG,jH,jD,jE,jF,jI,jJ,jK,fF,jL,jM,fG,jO,fH,jP,jQ,jR,jN,jS,fJ,fK,fL,fM,jZ,j3,j5,fN,bY,gx,gy,gz,gA,gB,gC,gD,gE,gF,ne_eq,bK,gp,gr,gs,gu,gk,gm,gn,cI,cR,dS,cQ,dJ,dH,dG,bJ,bU,bp,bZ,cC,b0,Py,Qf,Px,P5,PK,Qa,P6,PY,QD,QE,QP,QK,QQ,PR,PL,Qc,P8,P9,P0,exists_eq_left',exists_eq_left,exists_and_left,exists_and_right,Ql,Qm,Sl.v.injEq,Sl.o.injEq,Sl.k.injEq,Qp,Qj,Qr,Qe,Qk,PJ,and_true,true_and,QR,Qs,exists_const,decide_eq_true_eq,QS,QU,QH,QI,P4,decide_eq_false_iff_not,and_assoc,or_true,true_or,↓reduceIte,if_true,if_false,PZ,Qb,not_true_eq_false,not_false_eq_true,QL,QA,ite_true,ite_false,eq_self,exists_eq,reduceCtorEq,false_and,and_false,or_false,false_or,exists_false,Qv,Qy,cx,QG,QV,QC,QW,P7,QB,Qg,QM,aV,bw,bX,cU,eQ,aT,cL,eV,beq_self_eq_true,eR,eT,gi,aS,WN];rw [Ws tx,rZ];refine⟨mi.mpr wa.2,td,?_⟩
   by_cases ha:a∈[Pr "keep",Pr "gone"]
   ·rw [Ws (by rw [decide_eq_true ha];decide)];refine⟨wb.1,?_⟩;by_cases hb:Nm b
    ·rw [Ws (by rw [mw.mpr hb];decide)];subst hR;generalize hB:cf (cg _ _ _) _=TB;simp only [mO,qF,true_and,↓jd,↓jm,↓jn,↓jo,↓jq,↓jr,↓jt,↓je,↓fB,↓iK,↓jT,↓jU,↓jV,↓jW,↓jX,↓jY,↓iL,↓iM,↓iN,↓iO,↓iP,↓iQ,↓iR,↓iS,↓iT,↓iU,↓iV,↓iW,↓iX,↓iY,↓iZ,↓i3,↓i4,↓i5,↓i6,↓i7,↓i8,↓i9,↓ja,↓jb,cf,cN,cg,dD,fR,fS,cO,dE,dF,dM,dN,fX,dh,dC,bB,dI,dU,dW,dX,gf,dY,cn,eJ,eG,d3,dZ,dL,cP,di,fO,cG,cy,bI,dj,dm,dn,dz,fP,dA,dB,cH,cz,fQ,gK,gM,gN,gO,gP,gQ,gR,gS,gT,gU,gW,gX,gY,gZ,g6,g9,hJ,hV,hW,hX,hZ,h7,ic,ie,ig,ij,ik,il,ip,iq,iu,iw,ix,iy,iz,iA,iB,iC,iD,iE,iF,iG,iH,gL,d8,gc,eL,cV,gj,gh,d6,d7,d9,eg,ei,eD,eF,cT,eM,eN,eO,bS,fY,fZ,gb,dO,dP,fT,fU,dQ,fV,dR,fW,fj,fv,fw,gH,gI,gG,gJ,eZ,ff,fg,fh,cq,fu,fk,eX,eY,fx,fy,fz,fA,cu,iI,iJ,jg,jf,jh,ji,jj,jk,jl,fC,fD,jx,jv,jw,ju,jC,jy,jz,jA,jB,cX,fE,jG,jH,jD,jE,jF,jI,jJ,jK,fF,jL,jM,fG,jO,fH,jP,jQ,jR,jN,jS,fJ,fK,fL,fM,jZ,j3,j5,fN,bY,gx,gy,gz,gA,gB,gC,gD,gE,gF,ne_eq,bK,gp,gr,gs,gu,gk,gm,gn,cI,cR,dS,cQ,dJ,dH,dG,bJ,bU,bp,bZ,cC,b0,Py,Qf,Px,P5,PK,Qa,P6,PY,QD,QE,QP,QK,QQ,PR,PL,Qc,P8,P9,P0,exists_eq_left',exists_eq_left,exists_and_left,exists_and_right,Ql,Qm,Sl.v.injEq,Sl.o.injEq,Sl.k.injEq,Qp,Qj,Qr,Qe,Qk,PJ,and_true,true_and,QR,Qs,exists_const,decide_eq_true_eq,QS,QU,QH,QI,P4,decide_eq_false_iff_not,and_assoc,or_true,true_or,↓reduceIte,if_true,if_false,PZ,Qb,not_true_eq_false,not_false_eq_true,QL,QA,ite_true,ite_false,eq_self,exists_eq,reduceCtorEq,false_and,and_false,or_false,false_or,exists_false,Qv,Qy,cx,QG,QV,QC,QW,P7,QB,Qg,QM,aV,bw,bX,cU,eQ,aT,cL,eV,beq_self_eq_true,eR,eT,gi,aS,WN]
     refine⟨td,by have:=wc.1;omega,?_⟩;subst hB;refine n5 λR hR=>?_;simp only [mO,qF,true_and,↓jd,↓jm,↓jn,↓jo,↓jq,↓jr,↓jt,↓je,↓fB,↓iK,↓jT,↓jU,↓jV,↓jW,↓jX,↓jY,↓iL,↓iM,↓iN,↓iO,↓iP,↓iQ,↓iR,↓iS,↓iT,↓iU,↓iV,↓iW,↓iX,↓iY,↓iZ,↓i3,↓i4,↓i5,↓i6,↓i7,↓i8,↓i9,↓ja,↓jb,cf,cN,cg,dD,fR,fS,cO,dE,dF,dM,dN,fX,dh,dC,bB,dI,dU,dW,dX,gf,dY,cn,eJ,eG,d3,dZ,dL,cP,di,fO,cG,cy,bI,dj,dm,dn,dz,fP,dA,dB,cH,cz,fQ,gK,gM,gN,gO,gP,gQ,gR,gS,gT,gU,gW,gX,gY,gZ,g6,g9,hJ,hV,hW,hX,hZ,h7,ic,ie,ig,ij,ik,il,ip,iq,iu,iw,ix,iy,iz,iA,iB,iC,iD,iE,iF,iG,iH,gL,d8,gc,eL,cV,gj,gh,d6,d7,d9,eg,ei,eD,eF,cT,eM,eN,eO,bS,fY,fZ,gb,dO,dP,fT,fU,dQ,fV,dR,fW,fj,fv,fw,gH,gI,gG,gJ,eZ,ff,fg,fh,cq,fu,fk,eX,eY,fx,fy,fz,fA,cu,iI,iJ,jg,jf,jh,ji,jj,jk,jl,fC,fD,jx,jv,jw,ju,jC,jy,jz,jA,jB,cX,fE,jG,jH,jD,jE,jF,jI,jJ,jK,fF,jL,jM,fG,jO,fH,jP,jQ,jR,jN,jS,fJ,fK,fL,fM,jZ,j3,j5,fN,bY,gx,gy,gz,gA,gB,gC,gD,gE,gF,ne_eq,bK,gp,gr,gs,gu,gk,gm,gn,cI,cR,dS,cQ,dJ,dH,dG,bJ,bU,bp,bZ,cC,b0,Py,Qf,Px,P5,PK,Qa,P6,PY,QD,QE,QP,QK,QQ,PR,PL,Qc,P8,P9,P0,exists_eq_left',exists_eq_left,exists_and_left,exists_and_right,Ql,Qm,Sl.v.injEq,Sl.o.injEq,Sl.k.injEq,Qp,Qj,Qr,Qe,Qk,PJ,and_true,true_and,QR,Qs,exists_const,decide_eq_true_eq,QS,QU,QH,QI,P4,decide_eq_false_iff_not,and_assoc,or_true,true_or,↓reduceIte,if_true,if_false,PZ,Qb,not_true_eq_false,not_false_eq_true,QL,QA,ite_true,ite_false,eq_self,exists_eq,reduceCtorEq,false_and,and_false,or_false,false_or,exists_false,Qv,Qy,cx,QG,QV,QC,QW,P7,QB,Qg,QM,aV,bw,bX,cU,eQ,aT,cL,eV,beq_self_eq_true,eR,eT,gi,aS,WN]
     refine OI (λz hz=>?_) (λh=>no λz=>?_) λs hs es=>?_
     ·rw [rV] at hz;exact⟨Qz (ui hz) wc.1,uj wc.2 hz⟩
     ·obtain⟨s,hs,es⟩:=z.2.2.1;exact h s hs es
     ·subst hR;simp only [mO,qF,true_and,↓jd,↓jm,↓jn,↓jo,↓jq,↓jr,↓jt,↓je,↓fB,↓iK,↓jT,↓jU,↓jV,↓jW,↓jX,↓jY,↓iL,↓iM,↓iN,↓iO,↓iP,↓iQ,↓iR,↓iS,↓iT,↓iU,↓iV,↓iW,↓iX,↓iY,↓iZ,↓i3,↓i4,↓i5,↓i6,↓i7,↓i8,↓i9,↓ja,↓jb,cf,cN,cg,dD,fR,fS,cO,dE,dF,dM,dN,fX,dh,dC,bB,dI,dU,dW,dX,gf,dY,cn,eJ,eG,d3,dZ,dL,cP,di,fO,cG,cy,bI,dj,dm,dn,dz,fP,dA,dB,cH,cz,fQ,gK,gM,gN,gO,gP,gQ,gR,gS,gT,gU,gW,gX,gY,gZ,g6,g9,hJ,hV,hW,hX,hZ,h7,ic,ie,ig,ij,ik,il,ip,iq,iu,iw,ix,iy,iz,iA,iB,iC,iD,iE,iF,iG,iH,gL,d8,gc,eL,cV,gj,gh,d6,d7,d9,eg,ei,eD,eF,cT,eM,eN,eO,bS,fY,fZ,gb,dO,dP,fT,fU,dQ,fV,dR,fW,fj,fv,fw,gH,gI,gG,gJ,eZ,ff,fg,fh,cq,fu,fk,eX,eY,fx,fy,fz,fA,cu,iI,iJ,jg,jf,jh,ji,jj,jk,jl,fC,fD,jx,jv,jw,ju,jC,jy,jz,jA,jB,cX,fE,jG,jH,jD,jE,jF,jI,jJ,jK,fF,jL,jM,fG,jO,fH,jP,jQ,jR,jN,jS,fJ,fK,fL,fM,jZ,j3,j5,fN,bY,gx,gy,gz,gA,gB,gC,gD,gE,gF,ne_eq,bK,gp,gr,gs,gu,gk,gm,gn,cI,cR,dS,cQ,dJ,dH,dG,bJ,bU,bp,bZ,cC,b0,Py,Qf,Px,P5,PK,Qa,P6,PY,QD,QE,QP,QK,QQ,PR,PL,Qc,P8,P9,P0,exists_eq_left',exists_eq_left,exists_and_left,exists_and_right,Ql,Qm,Sl.v.injEq,Sl.o.injEq,Sl.k.injEq,Qp,Qj,Qr,Qe,Qk,PJ,and_true,true_and,QR,Qs,exists_const,decide_eq_true_eq,QS,QU,QH,QI,P4,decide_eq_false_iff_not,and_assoc,or_true,true_or,↓reduceIte,if_true,if_false,PZ,Qb,not_true_eq_false,not_false_eq_true,QL,QA,ite_true,ite_false,eq_self,exists_eq,reduceCtorEq,false_and,and_false,or_false,false_or,exists_false,Qv,Qy,cx,QG,QV,QC,QW,P7,QB,Qg,QM,aV,bw,bX,cU,eQ,aT,cL,eV,beq_self_eq_true,eR,eT,gi,aS,WN];rw [Gq];refine⟨wd.1,?_⟩;by_cases hf:mv d 3
      ·have ef:k6 d 3= .int (nv d):=by unfold k6;rw [Wt hf]
       have dl:d.length<=3:=by have:=hf.2.1;omega
       obtain⟨y,y1,y2⟩:=BP hf.2.2 (by have:=hf.1;omega) Ce;have en:nv d=y:=by unfold nv;rw [y2];rfl
       have nw:=FP (m:=(y:Int)) Ce Ce;rw [ef,en,Ws (by simp [mn])];refine⟨_,rfl,nX Ce Ce,mi.mpr (OJ nw),mi.mpr wd.2,?_⟩;by_cases ed:ky (y:Int)=d
       ·rw [Ws (by rw [show Pr (toString (y:Int))=d from ed];simp)];refine⟨mi.mpr we.2,td,?_⟩;by_cases hu:e∈[Pr "days",Pr "months",Pr "years"]
        ·rw [Ws (by rw [decide_eq_true hu];decide)];have ex:QF (QY .str (Txt.split c (Pr ":")))=s:=by rw [<-es];exact(vT hs).1.symm
         rw [ex];refine q1 _ (.kg ha hb hs Ce Ce hu) ?_;show [a,b,Txt.join (Pr ":") (km s),ky (y:Int),e]=_;rw [es,ed,rV,v7]
        ·rw [Wt (decide_eq_false hu)];exact no λz=>hu z.2.2.2.2
       ·rw [Wt (show(Pr (toString (y:Int))==d)=false from beq_eq_false_iff_ne.mpr ed)];exact no λz=>ed (by rw [<-en];exact z.2.2.2.1.2)
      ·have ef:k6 d 3= .none:=by unfold k6;rw [Ws hf]
       rw [ef,Wt tx];exact no λz=>hf z.2.2.2.1.1
    ·rw [Wt (by simpa using λz=>hb (mw.mp z))];exact no λz=>hb z.2.1
   ·rw [Wt (decide_eq_false ha)];exact no λz=>ha z.1
  | [],_,_,_,q2,two,bad=>clear hG hR;rw [Ws tx];exact bad rfl (two (λ_ _ e=>by cases e) λ_ _ _ _ _ e=>by cases e)
  | [_],_,_,_,q2,two,bad=>clear hG hR;rw [Ws Wv];exact bad rfl (two (λ_ _ e=>by cases e) λ_ _ _ _ _ e=>by cases e)
  | [_,_,_],_,_,_,q2,two,bad=>clear hG hR;rw [Ws Wv];exact bad rfl (two (λ_ _ e=>by cases e) λ_ _ _ _ _ e=>by cases e)
  | [_,_,_,_],_,_,_,q2,two,bad=>clear hG hR;rw [Ws Wv];exact bad rfl (two (λ_ _ e=>by cases e) λ_ _ _ _ _ e=>by cases e)
  | _::_::_::_::_::_::r,_,_,_,q2,two,bad=>clear hG hR;rw [Ws (by simp;omega)];exact bad (by simp;omega) (two (λ_ _ e=>by cases e) λ_ _ _ _ _ e=>by cases e)
theorem OM{z:Str}(h:bN z 4=true):∃y:Nat,y < 10000/\z=⟨(d4 y).toArray⟩:=by
 unfold bN at h;rw [Qh,decide_eq_true_eq,Rj] at h;obtain⟨hl,hm⟩:=h;have hz:z.cps.toList.length=4:=by rw [show z.cps.toList.length=z.length from P2];omega
 match e:z.cps.toList,hz with
 | [a,b,c,d],_=>
  rw [e] at hm;have f:∀x∈[a,b,c,d],48<=x/\x < 58:=λx hx=>tY (by simpa using hm x hx);have ha:=f a Wv;have hb:=f b Wv;have hc:=f c Wv;have hd:=f d Wv;refine⟨(a - 48)*1000+(b - 48)*100+(c - 48)*10+(d - 48),Ce,(pN e).trans (congrArg (λl:List Nat=>(⟨l.toArray⟩:Str)) ?_)⟩;unfold d4;rw [PJ,PJ,PJ,PJ];exact⟨Ce,Ce,Ce,Ce,rfl⟩
theorem Gr{z:Str}(h:bN z 2=true):∃y:Nat,y < 100/\z=⟨(d2 y).toArray⟩:=by
 unfold bN at h;rw [Qh,decide_eq_true_eq,Rj] at h;obtain⟨hl,hm⟩:=h;have hz:z.cps.toList.length=2:=by rw [show z.cps.toList.length=z.length from P2];omega
 match e:z.cps.toList,hz with
 | [a,b],_=>
  rw [e] at hm;have f:∀x∈[a,b],48<=x/\x < 58:=λx hx=>tY (by simpa using hm x hx);have ha:=f a Wv;have hb:=f b Wv;refine⟨(a - 48)*10+(b - 48),Ce,(pN e).trans (congrArg (λl:List Nat=>(⟨l.toArray⟩:Str)) ?_)⟩;unfold d2;rw [PJ,PJ];exact⟨Ce,Ce,rfl⟩
theorem ON{z:Str}{k:Int}(h:me z=some k):z=ku k/\lx k:=by
 have hj:=v7 (z:=z) (c:=45);rw [show(⟨#[45]⟩:Str)=Pr "-" by decide+kernel] at hj;unfold me at h;generalize Txt.split z (Pr "-")=ws at*
 match ws with
 | [a,b,c]=>
  simp only [] at h;split at h
  ·rename_i hc;obtain⟨fa,fb,fc,hd,hn⟩:=hc;injection h with h
   obtain⟨y,y1,rfl⟩:=OM fa;obtain⟨m,m1,rfl⟩:=Gr fb;obtain⟨n,n1,rfl⟩:=Gr fc;have v1:nv ⟨(d4 y).toArray⟩=y:=by
    unfold nv;obtain⟨y',_,_,e,_⟩:=tZ fa;by_cases q:y < 1000
    ·rw [Fv ⟨y,q⟩];rfl
    ·rw [AJ Ce Ce];rfl
   have v2:nv ⟨(d2 m).toArray⟩=m:=by unfold nv;rw [rE ⟨m,m1⟩];rfl
   have v3:nv ⟨(d2 n).toArray⟩=n:=by unfold nv;rw [rE ⟨n,n1⟩];rfl
   rw [v1,v2,v3] at hd hn h;have D:lI k y m n:=⟨hd.2.2.1,hd.2.2.2.1,hd.2.2.2.2.1,hd.2.2.2.2.2,h⟩;have nn:=Fz hd;refine⟨?_,Ce,Ce⟩;rw [<-vS D,<-hj,<-F0];simp only [Q9]
  ·cases h
 | []=>cases h
 | [_]=>cases h
 | [_,_]=>cases h
 | _::_::_::_::_=>cases h
theorem OO{ms:List Str}(h:ms.Pairwise pI):kY (ms.foldl kD [])=ms:=by
 have nd:ms.Nodup:=h.imp λ{a b} z e=>by subst e;exact absurd z (List.lt_irrefl _)
 refine(Aj ?_ (h.imp λ{a b} z=>decide_eq_true (Std.le_of_lt z))).symm;exact(List.perm_ext_iff_of_nodup nd (Av .nil)).mpr λa=>by rw [Au];simp
structure DW (w:Str) (more:List Str):Prop where
 fin:w∈(["end","lift"]:List Str)->more=[]
 tw:w∈(["happens","leave"]:List Str)->∃y,more=[y]/\Nm y
 ru:w="rule"->∃p,lV p/\lQ p=more
 ho:w="hold"->∃g y,g∈(["paper","kind"]:List Str)/\Nm y/\(more=[g,y]\/more=[g,y,"deep"])
 pa:w="paper"->∃k ms,more=k::ms/\Nm k/\Ap ms
 al:w∈(["end","lift","happens","leave","hold","paper","rule"]:List Str)
theorem Gs{p:Ww}(h:lV p):lX [p]=lQ p:=by cases h <;> rfl
theorem OP{w x:Str}{n:Int}{r:List Ww}(h:bo (.tuple (.str w:: .int n:: .str x::r))):DW w (lX r):=by
 have nm:∀{u:Str}{l m:List Str},u∈l->(∀z∈l,z ∉ m)->u ∉ m:=λh h2=>h2 _ h;have ne:∀{u v:Str}{l:List Str},u∈l->(∀z∈l,z≠v)->u≠v:=λh h2=>h2 _ h;cases h with
 | @paper _ _ k ms _ _ hk hm=>
  have e:lX [Pu k,QF (QY Pu ms)]=k::ms:=by
   show k::pO (.tuple (ms.map .str))=_;rw [rT]
  rw [e];exact⟨λz=>absurd z td,λz=>absurd z td,λz=>absurd z td,λz=>absurd z td,λ_=>⟨k,ms,rfl,hk,hm⟩,td⟩
 | two hw _ _ hy=>exact⟨λz=>absurd z (nm hw td),λ_=>⟨_,rfl,hy⟩,λz=>absurd z (ne hw td),λz=>absurd z (ne hw td),λz=>absurd z (ne hw td),by
  simp only [PH,P1,or_false] at hw⊢;rcases hw with h | h <;> simp [h]⟩
 | rule _ _ hp=>
  rw [Gs hp];exact⟨λz=>absurd z td,λz=>absurd z td,λ_=>⟨_,hp,rfl⟩,λz=>absurd z td,λz=>absurd z td,td⟩
 | one hw=>exact⟨λ_=>rfl,λz=>absurd z (nm hw td),λz=>absurd z (ne hw td),λz=>absurd z (ne hw td),λz=>absurd z (ne hw td),by
  simp only [PH,P1,or_false] at hw⊢;rcases hw with h | h <;> simp [h]⟩
 | @hold _ _ g y b _ _ hg hy=>exact⟨λz=>absurd z td,λz=>absurd z td,λz=>absurd z td,λ_=>⟨g,y,hg,hy,by cases b;exact .inl rfl;exact .inr rfl⟩,λz=>absurd z td,td⟩
def OQ:List Ww->(Ww->Prop)->Prop:=λds Q=>∃z,ds=[.str z]/\qD z/\(∀d,bo d->bf d=z->Q d)/\((∀d,bo d->bf d≠z)->Q .none)
theorem OR(T:Txt K mg t):aF P w K mg base CX0 3 t.a_z t.d_z ["_law_text"] (bh K OQ):=by
 have G_x:=@OA P w _ _ base _ T;have G_w:=@Gd P w _ _ base _ T;have G_y:=@OL P w _ _ base _ T;refine T.F_z.F.okD vN (λds Q h=>?_) (λ_ _ _ _ H O ds Q E hr h=>?_)
 ·obtain⟨d,rfl,_⟩:=h;rfl
 ·obtain⟨z,rfl,hz,q1,q2⟩:=h;refine'⟨_,?A,?B⟩
  case A=>
   refine' ai ?C ?D
   case C=>exact(aY (i:=1) vN.nd rfl Wu (fe (oQ (dv 0) aw)))
   case' D=>refine' ai ?E ?F
   case E=>
    refine' aH ?G ?H aG
    case G=>exact(PW.pt (ke (aD qR ck (PE.imp (aR kh rfl T.n_len Qq (aA (dv 1) aB)) (aE kq)) ae (av _)) (ke (aD qS va (ar G_x hr T.F_x (aa (aj aO aP (dv 1) ae) ah)) ki (av _)) (kG (kj (cb (ar G_w hr T.F_w (aa (aj aO aP (dv 1) ae) ah))))))))
    case H=>refine' ak (ax ki)
   case' F=>refine' ai ?I ?J
   case I=>
    refine' aY (i:=2) vN.nd rfl Wu ?K (hs:=Ar)
    case' K=>refine' bE ?L
    case' L=>refine' aa ?M ?N
    case M=>exact(aj aO aP (dv 1) ae)
    case' N=>refine' aa ?O ?P
    case O=>exact(ar G_x hr T.F_x (aa (aj aO aP (dv 1) ae) ah))
    case' P=>refine' aa ?Q ah
    case Q=>exact(aj aO aP (dv 1) ae)
   case' J=>refine' ai ?R ?S
   case R=>exact(aY (i:=3) vN.nd rfl Wu (fe (kC (df (dv 1)) (bT ae) kl)))
   case' S=>refine' ai ?T ?U
   case T=>
    refine' aH ?V ?W aG
    case V=>exact(PW.pt (kH (aD (oI hr) mV (aj aO aP (dv 1) ae) (fe (bz (aa aw (aa aw ah)))) rfl) (lG (aD (cJ hr.units) cK (dv 3) (fe (bz ah)) (av _)))))
    case' W=>refine' ak ?X
    case X=>exact(ax (dv 2))
   case' U=>refine' ai ?Y ?Z
   case Y=>
    refine' aH ?a ?b aG
    case a=>exact(PW.pt (kH (aD (oI hr) mV (aj aO aP (dv 1) ae) (fe (bz (aa aw (aa aw ah)))) rfl) (kH (aD (cJ hr.units) cK (PE.imp (aR kh rfl T.n_len Qq (aA (dv 3) aB)) (aE kq)) ae (av _)) (lG (cb (ar G_w hr T.F_w (aa (aj aO aP (dv 3) ae) ah)))))))
    case' b=>refine' ak ?c
    case c=>exact(ax (aW nS nT (dv 2) (bE (aa (aj aO aP (dv 3) ae) ah))))
   case' Z=>refine' ai ?d ?e
   case d=>
    refine' aH ?f ?g aG
    case f=>exact(PW.pt (kH (aD (fq hr) ft (aj aO aP (dv 1) ae) aw (av _)) (kH (aD pe ck (PE.imp (aR kh rfl T.n_len Qq (aA (dv 3) aB)) (aE kq)) ae (av _)) (kH (aD (oI hr) mV (aj aO aP (dv 3) ae) (fe (bz (aa aw (aa aw ah)))) rfl) (lG (cb (ar G_w hr T.F_w (aa (aj aO aP (dv 3) ae) ah))))))))
    case' g=>refine' ak ?h
    case' h=>generalize hG30:VX _ _ _=eg30
    refine' ax ?i
    case' i=>subst hG30
    refine' pC aO aP (df ?j) ?k
    case j=>
     refine' fe ?l
     case' l=>refine' bz ?m
     case' m=>refine' aa ki ?n
     case' n=>refine' aa ?o ah
     case' o=>refine' aW nS nT (dv 2) ?p
     case' p=>refine' bE ?q
     case' q=>refine' aa ?r ?s
     case r=>exact(PE.imp (cE lZ rfl T.n_tuple k7 (aA (fe (kC (df (dv 3)) kl (bT ae))) aB)) (aE l8))
     case' s=>refine' aa ?t ah
     case t=>exact(j9 (cJ hr.units) cK (df (fe (kC (df (dv 3)) (bT ae) kl))) (df (fe (bz (aa aw ah)))) (av _))
    case k=>exact(df (PE.imp (cE uA rfl T.n_int nj (aA (j9 (oI hr) mV (df (fe (kC (df (dv 3)) (bT ae) kl))) (df (fe (bz (aa (fe (bz ah)) (aa (fe (bz (aa aw ah))) ah))))) rfl) aB)) (aE uR)))
   case' e=>refine' ai ?u ?v
   case u=>
    refine' aH ?w ?x aG
    case w=>exact(PW.pt (kH (aD (fq hr) ft (aj aO aP (dv 1) ae) aw (av _)) (kH (pA ko ko ck ck (df ae) (df (PE.imp (aR kh rfl T.n_len Qq (aA (dv 3) aB)) (aE kq))) (df ae)) (lG (cb (PE.imp (aR (pq rfl) rfl T.n_all pw (aA (fe (oF rfl Gn (df (dv 3)) cj kW tx (λ_ _ _ _=>(bP (i:=0) Gn.nd rfl Wu)) (λ_ _ _ _=>kX) (λ_ _ _ _=>(ar G_w hr T.F_w (aa (dv 0) ah))))) aB)) (aE ny)))))))
    case' x=>refine' ak ?y
    case' y=>generalize hG49:VX _ _ _=eg49
    refine' ax ?z
    case' z=>subst hG49
    refine' pC aO aP (df ?A0) ?A1
    case A0=>
     refine' fe ?A2
     case' A2=>refine' bz ?A3
     case' A3=>refine' aa ki ?A4
     case' A4=>refine' aa ?A5 ah
     case' A5=>refine' aW nS nT (dv 2) ?A6
     case' A6=>refine' bE ?A7
     case' A7=>refine' aa ?A8 ?A9
     case A8=>exact(aj aO aP (dv 3) ae)
     case' A9=>refine' aa ?AA ah
     case AA=>exact(PE.imp (cE lZ rfl T.n_tuple k7 (aA (fe (kC (df (dv 3)) (bT ae) kl)) aB)) (aE l8))
    case A1=>exact(df (PE.imp (cE uA rfl T.n_int nj (aA (j9 (cJ hr.units) cK (df (fe (kC (df (dv 3)) (bT ae) kl))) (df (fe (K1 rfl rfl T.n_sorted Ux rfl T.n_set (aA (fe (kC (df (dv 3)) (bT ae) kl)) aB)))) (av _)) aB)) (aE uR)))
   case' v=>refine' ai ?AB ?AC
   case AB=>
    refine' aH ?AD ?AE aG
    case AD=>exact(PW.pt (kH (aD (fq hr) ft (aj aO aP (dv 1) ae) aw (av _)) (lG (aD Cg Kq (ar G_y hr T.F_y (aa (dv 3) ah)) ki (av _)))))
    case' AE=>refine' ak ?AF
    case AF=>exact(ax (aW nS nT (dv 2) (bE (aa (ar G_y hr T.F_y (aa (dv 3) ah)) ah))))
   case AC=>refine' ak (ax ki)
  case B=>
  clear hr T G_x G_w G_y;generalize hB:cf (cg _ _ _) _=TB;walk_at "a";have hd:∀d,bo d->bf d=z->kF d=Txt.split z (Pr " "):=λd h e=>by rw [<-e,(uh h).1]
  have hd2:∀d,bo d->kF d=Txt.split z (Pr " ")->bf d=z:=λd h e=>by
   unfold bf;rw [e,pP,v7]
  have hb:∀p∈Txt.split z (Pr " "),qD p:=λp hp=>by
   rw [pP] at hp;exact⟨Qz (ui hp) hz.1,uj hz.2 hp⟩
  have hl:(Txt.split z (Pr " ")).length<=1002:=Qz (S6 z _) (by have:=hz.1;omega);refine⟨td,by have:=hz.1;omega,?_⟩
  replace q1:∀d,bo d->kF d=Txt.split z (Pr " ")->Q d:=λd h e=>q1 d h (hd2 d h e)
  replace q2:(∀d,bo d->kF d≠Txt.split z (Pr " "))->Q .none:=λh=>q2 λd h2 e=>h d h2 (hd d h2 e)
  clear hd hd2 hz;generalize Txt.split z (Pr " ")=ws at*;have few:ws.length < 3->Q .none:=λh=>q2 λd hv e=>by
   obtain⟨w,n,x,r,rfl,_⟩:=oU hv;rw [<-e] at h;simp only [kF,Px] at h;omega
  subst hB;refine n5 λR hR=>?_;simp only [mO,Gp,true_and,↓jd,↓jm,↓jn,↓jo,↓jq,↓jr,↓jt,↓je,↓fB,↓iK,↓jT,↓jU,↓jV,↓jW,↓jX,↓jY,↓iL,↓iM,↓iN,↓iO,↓iP,↓iQ,↓iR,↓iS,↓iT,↓iU,↓iV,↓iW,↓iX,↓iY,↓iZ,↓i3,↓i4,↓i5,↓i6,↓i7,↓i8,↓i9,↓ja,↓jb,cf,cN,cg,dD,fR,fS,cO,dE,dF,dM,dN,fX,dh,dC,bB,dI,dU,dW,dX,gf,dY,cn,eJ,eG,d3,dZ,dL,cP,di,fO,cG,cy,bI,dj,dm,dn,dz,fP,dA,dB,cH,cz,fQ,gK,gM,gN,gO,gP,gQ,gR,gS,gT,gU,gW,gX,gY,gZ,g6,g9,hJ,hV,hW,hX,hZ,h7,ic,ie,ig,ij,ik,il,ip,iq,iu,iw,ix,iy,iz,iA,iB,iC,iD,iE,iF,iG,iH,gL,d8,gc,eL,cV,gj,gh,d6,d7,d9,eg,ei,eD,eF,cT,eM,eN,eO,bS,fY,fZ,gb,dO,dP,fT,fU,dQ,fV,dR,fW,fj,fv,fw,gH,gI,gG,gJ,eZ,ff,fg,fh,cq,fu,fk,eX,eY,fx,fy,fz,fA,cu,iI,iJ,jg,jf,jh,ji,jj,jk,jl,fC,fD,jx,jv,jw,ju,jC,jy,jz,jA,jB,cX,fE,jG,jH,jD,jE,jF,jI,jJ,jK,fF,jL,jM,fG,jO,fH,jP,jQ,jR,jN,jS,fJ,fK,fL,fM,jZ,j3,j5,fN,bY,gx,gy,gz,gA,gB,gC,gD,gE,gF,ne_eq,bK,gp,gr,gs,gu,gk,gm,gn,cI,cR,dS,cQ,dJ,dH,dG,bJ,bU,bp,bZ,cC,b0,Py,Qf,Px,P5,PK,Qa,P6,PY,QD,QE,QP,QK,QQ,PR,PL,Qc,P8,P9,P0,exists_eq_left',exists_eq_left,exists_and_left,exists_and_right,Ql,Qm,Sl.v.injEq,Sl.o.injEq,Sl.k.injEq,Qp,Qj,Qr,Qe,Qk,PJ,and_true,true_and,QR,Qs,exists_const,decide_eq_true_eq,QS,QU,QH,QI,P4,decide_eq_false_iff_not,and_assoc,or_true,true_or,↓reduceIte,if_true,if_false,PZ,Qb,not_true_eq_false,not_false_eq_true,QL,QA,ite_true,ite_false,eq_self,exists_eq,reduceCtorEq,false_and,and_false,or_false,false_or,exists_false,Qv,Qy,cx,QG,QV,QC,QW,P7,QB,Qg,QM,aV,bw,bX,cU,eQ,aT,cL,eV,beq_self_eq_true,eR,eT,gi,aS,WN]
  match ws with
  | []=>rw [Wt Wv];exact few Wv
  | [_]=>rw [Wt Wv];exact few Wv
  | [_,_]=>rw [Wt Wv];exact few Wv
  | w::b::x::more=>
   clear few;rw [Ws (by simp only [PD,Px];omega)];have ec:bA (QY Pu (w::b::x::more)) (some 3) none=more.map .str:=by
    rw [show bA (QY Pu (w::b::x::more)) (some 3) none=_ from pQ (k:=3)];rfl
   have ww:=hb w Wv;have wb:=hb b Wv;have wx:=hb x Wv;have hm:∀z∈more,qD z:=λz hz=>hb z (by simp [hz]);have lm:more.length<=1000:=by simp only [Px] at hl;omega
   clear hb hl;have hday:(∃n,b=ku n/\kZ b= .int n/\lx n)\/kZ b= .none/\Q .none:=by
    cases e:me b with
    | none=>exact .inr ⟨by unfold kZ;rw [e],q2 λd hv ee=>by
     obtain⟨w',n,x',r,rfl,hn⟩:=oU hv;simp only [kF,PJ] at ee;rw [<-ee.2.1,FV hn] at e;cases e⟩
    | some n=>
     obtain⟨h1,h2⟩:=ON e;exact .inl ⟨n,h1,by unfold kZ;rw [e],h2⟩
   have a1:atI (QY Pu (w::b::x::more)) 1=some (.str b):=bw;have a2:atI (QY Pu (w::b::x::more)) 2=some (.str x):=bX;refine⟨_,a1,b,rfl,wb.1,?_⟩;rcases hday with⟨n,eb,en,hn⟩ | ⟨en,qn⟩
   ·rw [en,Ws (show ¬mn (PV n)=true from λz=>by cases z)];refine⟨_,a2,x,rfl,wx.1,_,rfl,?_⟩;by_cases hx:Nm x
    ·have hx2:cM (.str x)=true:=mw.mpr hx;rw [hx2,Ws (show ¬true=false by decide)];have key:(DW w more->False)->Q .none:=λh=>q2 λd hv ee=>by
      obtain⟨w',n',x',r,rfl,hn'⟩:=oU hv;simp only [kF,PJ] at ee;obtain⟨rfl,e2,rfl,e4⟩:=ee;rw [<-e4] at h;exact h (OP hv)
     subst hR;generalize hB:cf (cg _ _ _) _=TB;simp only [Gp,en,↓jd,↓jm,↓jn,↓jo,↓jq,↓jr,↓jt,↓je,↓fB,↓iK,↓jT,↓jU,↓jV,↓jW,↓jX,↓jY,↓iL,↓iM,↓iN,↓iO,↓iP,↓iQ,↓iR,↓iS,↓iT,↓iU,↓iV,↓iW,↓iX,↓iY,↓iZ,↓i3,↓i4,↓i5,↓i6,↓i7,↓i8,↓i9,↓ja,↓jb,cf,cN,cg,dD,fR,fS,cO,dE,dF,dM,dN,fX,dh,dC,bB,dI,dU,dW,dX,gf,dY,cn,eJ,eG,d3,dZ,dL,cP,di,fO,cG,cy,bI,dj,dm,dn,dz,fP,dA,dB,cH,cz,fQ,gK,gM,gN,gO,gP,gQ,gR,gS,gT,gU,gW,gX,gY,gZ,g6,g9,hJ,hV,hW,hX,hZ,h7,ic,ie,ig,ij,ik,il,ip,iq,iu,iw,ix,iy,iz,iA,iB,iC,iD,iE,iF,iG,iH,gL,d8,gc,eL,cV,gj,gh,d6,d7,d9,eg,ei,eD,eF,cT,eM,eN,eO,bS,fY,fZ,gb,dO,dP,fT,fU,dQ,fV,dR,fW,fj,fv,fw,gH,gI,gG,gJ,eZ,ff,fg,fh,cq,fu,fk,eX,eY,fx,fy,fz,fA,cu,iI,iJ,jg,jf,jh,ji,jj,jk,jl,fC,fD,jx,jv,jw,ju,jC,jy,jz,jA,jB,cX,fE,jG,jH,jD,jE,jF,jI,jJ,jK,fF,jL,jM,fG,jO,fH,jP,jQ,jR,jN,jS,fJ,fK,fL,fM,jZ,j3,j5,fN,bY,gx,gy,gz,gA,gB,gC,gD,gE,gF,ne_eq,bK,gp,gr,gs,gu,gk,gm,gn,cI,cR,dS,cQ,dJ,dH,dG,bJ,bU,bp,bZ,cC,b0,Py,Qf,Px,P5,PK,Qa,P6,PY,QD,QE,QP,QK,QQ,PR,PL,Qc,P8,P9,P0,exists_eq_left',exists_eq_left,exists_and_left,exists_and_right,Ql,Qm,Sl.v.injEq,Sl.o.injEq,Sl.k.injEq,Qp,Qj,Qr,Qe,Qk,PJ,and_true,true_and,QR,Qs,exists_const,decide_eq_true_eq,QS,QU,QH,QI,P4,decide_eq_false_iff_not,and_assoc,or_true,true_or,↓reduceIte,if_true,if_false,PZ,Qb,not_true_eq_false,not_false_eq_true,QL,QA,ite_true,ite_false,eq_self,exists_eq,reduceCtorEq,false_and,and_false,or_false,false_or,exists_false,Qv,Qy,cx,QG,QV,QC,QW,P7,QB,Qg,QM,aV,bw,bX,cU,eQ,aT,cL,eV,beq_self_eq_true,eR,eT,gi,aS,WN];refine⟨wb.1,?_⟩;subst eb;subst hB;refine n5 λR hR=>?_
     simp only [mO,true_and,↓jd,↓jm,↓jn,↓jo,↓jq,↓jr,↓jt,↓je,↓fB,↓iK,↓jT,↓jU,↓jV,↓jW,↓jX,↓jY,↓iL,↓iM,↓iN,↓iO,↓iP,↓iQ,↓iR,↓iS,↓iT,↓iU,↓iV,↓iW,↓iX,↓iY,↓iZ,↓i3,↓i4,↓i5,↓i6,↓i7,↓i8,↓i9,↓ja,↓jb,cf,cN,cg,dD,fR,fS,cO,dE,dF,dM,dN,fX,dh,dC,bB,dI,dU,dW,dX,gf,dY,cn,eJ,eG,d3,dZ,dL,cP,di,fO,cG,cy,bI,dj,dm,dn,dz,fP,dA,dB,cH,cz,fQ,gK,gM,gN,gO,gP,gQ,gR,gS,gT,gU,gW,gX,gY,gZ,g6,g9,hJ,hV,hW,hX,hZ,h7,ic,ie,ig,ij,ik,il,ip,iq,iu,iw,ix,iy,iz,iA,iB,iC,iD,iE,iF,iG,iH,gL,d8,gc,eL,cV,gj,gh,d6,d7,d9,eg,ei,eD,eF,cT,eM,eN,eO,bS,fY,fZ,gb,dO,dP,fT,fU,dQ,fV,dR,fW,fj,fv,fw,gH,gI,gG,gJ,eZ,ff,fg,fh,cq,fu,fk,eX,eY,fx,fy,fz,fA,cu,iI,iJ,jg,jf,jh,ji,jj,jk,jl,fC,fD,jx,jv,jw,ju,jC,jy,jz,jA,jB,cX,fE,jG,jH,jD,jE,jF,jI,jJ,jK,fF,jL,jM,fG,jO,fH,jP,jQ,jR,jN,jS,fJ,fK,fL,fM,jZ,j3,j5,fN,bY,gx,gy,gz,gA,gB,gC,gD,gE,gF,ne_eq,bK,gp,gr,gs,gu,gk,gm,gn,cI,cR,dS,cQ,dJ,dH,dG,bJ,bU,bp,bZ,cC,b0,Py,Qf,Px,P5,PK,Qa,P6,PY,QD,QE,QP,QK,QQ,PR,PL,Qc,P8,P9,P0,exists_eq_left',exists_eq_left,exists_and_left,exists_and_right,Ql,Qm,Sl.v.injEq,Sl.o.injEq,Sl.k.injEq,Qp,Qj,Qr,Qe,Qk,PJ,and_true,true_and,QR,Qs,exists_const,decide_eq_true_eq,QS,QU,QH,QI,P4,decide_eq_false_iff_not,and_assoc,or_true,true_or,↓reduceIte,if_true,if_false,PZ,Qb,not_true_eq_false,not_false_eq_true,QL,QA,ite_true,ite_false,eq_self,exists_eq,reduceCtorEq,false_and,and_false,or_false,false_or,exists_false,Qv,Qy,cx,QG,QV,QC,QW,P7,QB,Qg,QM,aV,bw,bX,cU,eQ,aT,cL,eV,beq_self_eq_true,eR,eT,gi,aS,WN];refine⟨mi.mpr ww.2,td,?_⟩;rw [rZ];generalize hG:R _ _=G;by_cases f1:w∈[Pr "end",Pr "lift"]/\more=[]
     ·rw [Wt (decide_eq_true f1.1)];refine⟨(pR λz hz=>(hm z hz).2).1,td,?_⟩;rw [show(Ra (QY Pu more)).eqv (Ra [])=decide (more=[]) from qG (b:=[]),Wt (decide_eq_true f1.2)];exact q1 _ (.one f1.1 hn hx) (by rw [f1.2];rfl)
     suffices rest:G by
      by_cases hw:w∈[Pr "end",Pr "lift"]
      ·rw [Wt (decide_eq_true hw)];refine⟨(pR λz hz=>(hm z hz).2).1,td,?_⟩;rw [show(Ra (QY Pu more)).eqv (Ra [])=decide (more=[]) from qG (b:=[]),Ws (by simpa using λh=>f1 ⟨hw,h⟩)];exact rest
      ·rw [Ws (by simpa using hw)];exact rest
     subst hG;subst hR;refine n5 λR hR=>?_;simp only [mO,true_and,↓jd,↓jm,↓jn,↓jo,↓jq,↓jr,↓jt,↓je,↓fB,↓iK,↓jT,↓jU,↓jV,↓jW,↓jX,↓jY,↓iL,↓iM,↓iN,↓iO,↓iP,↓iQ,↓iR,↓iS,↓iT,↓iU,↓iV,↓iW,↓iX,↓iY,↓iZ,↓i3,↓i4,↓i5,↓i6,↓i7,↓i8,↓i9,↓ja,↓jb,cf,cN,cg,dD,fR,fS,cO,dE,dF,dM,dN,fX,dh,dC,bB,dI,dU,dW,dX,gf,dY,cn,eJ,eG,d3,dZ,dL,cP,di,fO,cG,cy,bI,dj,dm,dn,dz,fP,dA,dB,cH,cz,fQ,gK,gM,gN,gO,gP,gQ,gR,gS,gT,gU,gW,gX,gY,gZ,g6,g9,hJ,hV,hW,hX,hZ,h7,ic,ie,ig,ij,ik,il,ip,iq,iu,iw,ix,iy,iz,iA,iB,iC,iD,iE,iF,iG,iH,gL,d8,gc,eL,cV,gj,gh,d6,d7,d9,eg,ei,eD,eF,cT,eM,eN,eO,bS,fY,fZ,gb,dO,dP,fT,fU,dQ,fV,dR,fW,fj,fv,fw,gH,gI,gG,gJ,eZ,ff,fg,fh,cq,fu,fk,eX,eY,fx,fy,fz,fA,cu,iI,iJ,jg,jf,jh,ji,jj,jk,jl,fC,fD,jx,jv,jw,ju,jC,jy,jz,jA,jB,cX,fE,jG,jH,jD,jE,jF,jI,jJ,jK,fF,jL,jM,fG,jO,fH,jP,jQ,jR,jN,jS,fJ,fK,fL,fM,jZ,j3,j5,fN,bY,gx,gy,gz,gA,gB,gC,gD,gE,gF,ne_eq,bK,gp,gr,gs,gu,gk,gm,gn,cI,cR,dS,cQ,dJ,dH,dG,bJ,bU,bp,bZ,cC,b0,Py,Qf,Px,P5,PK,Qa,P6,PY,QD,QE,QP,QK,QQ,PR,PL,Qc,P8,P9,P0,exists_eq_left',exists_eq_left,exists_and_left,exists_and_right,Ql,Qm,Sl.v.injEq,Sl.o.injEq,Sl.k.injEq,Qp,Qj,Qr,Qe,Qk,PJ,and_true,true_and,QR,Qs,exists_const,decide_eq_true_eq,QS,QU,QH,QI,P4,decide_eq_false_iff_not,and_assoc,or_true,true_or,↓reduceIte,if_true,if_false,PZ,Qb,not_true_eq_false,not_false_eq_true,QL,QA,ite_true,ite_false,eq_self,exists_eq,reduceCtorEq,false_and,and_false,or_false,false_or,exists_false,Qv,Qy,cx,QG,QV,QC,QW,P7,QB,Qg,QM,aV,bw,bX,cU,eQ,aT,cL,eV,beq_self_eq_true,eR,eT,gi,aS,WN];refine⟨mi.mpr ww.2,td,?_⟩
     rw [rZ];generalize hG:R _ _=G;by_cases f2:w∈[Pr "happens",Pr "leave"]/\∃y,more=[y]/\Nm y
     ·obtain⟨hw,y,rfl,hy⟩:=f2;rw [Wt (decide_eq_true hw),Wt Wv];refine⟨_,aV,_,rfl,(hm y Wv).1,_,rfl,?_⟩;rw [Wt (mw.mpr hy)];exact⟨_,aV,q1 _ (.two hw hn hx hy) rfl⟩
     suffices rest:G by
      by_cases hw:w∈[Pr "happens",Pr "leave"]
      ·rw [Wt (decide_eq_true hw)];clear hG hR key;rcases more with _ | ⟨y,_ | ⟨y2,tl⟩⟩
       ·rw [Ws Wv];exact rest
       ·rw [Wt Wv];refine⟨_,aV,_,rfl,(hm y Wv).1,_,rfl,?_⟩;rw [Ws (λz=>f2 ⟨hw,y,rfl,mw.mp z⟩)];exact rest
       ·rw [Ws (by simp;omega)];exact rest
      ·rw [Ws (by simpa using hw)];exact rest
     subst hG;subst hR;refine n5 λR hR=>?_;simp only [mO,true_and,↓jd,↓jm,↓jn,↓jo,↓jq,↓jr,↓jt,↓je,↓fB,↓iK,↓jT,↓jU,↓jV,↓jW,↓jX,↓jY,↓iL,↓iM,↓iN,↓iO,↓iP,↓iQ,↓iR,↓iS,↓iT,↓iU,↓iV,↓iW,↓iX,↓iY,↓iZ,↓i3,↓i4,↓i5,↓i6,↓i7,↓i8,↓i9,↓ja,↓jb,cf,cN,cg,dD,fR,fS,cO,dE,dF,dM,dN,fX,dh,dC,bB,dI,dU,dW,dX,gf,dY,cn,eJ,eG,d3,dZ,dL,cP,di,fO,cG,cy,bI,dj,dm,dn,dz,fP,dA,dB,cH,cz,fQ,gK,gM,gN,gO,gP,gQ,gR,gS,gT,gU,gW,gX,gY,gZ,g6,g9,hJ,hV,hW,hX,hZ,h7,ic,ie,ig,ij,ik,il,ip,iq,iu,iw,ix,iy,iz,iA,iB,iC,iD,iE,iF,iG,iH,gL,d8,gc,eL,cV,gj,gh,d6,d7,d9,eg,ei,eD,eF,cT,eM,eN,eO,bS,fY,fZ,gb,dO,dP,fT,fU,dQ,fV,dR,fW,fj,fv,fw,gH,gI,gG,gJ,eZ,ff,fg,fh,cq,fu,fk,eX,eY,fx,fy,fz,fA,cu,iI,iJ,jg,jf,jh,ji,jj,jk,jl,fC,fD,jx,jv,jw,ju,jC,jy,jz,jA,jB,cX,fE,jG,jH,jD,jE,jF,jI,jJ,jK,fF,jL,jM,fG,jO,fH,jP,jQ,jR,jN,jS,fJ,fK,fL,fM,jZ,j3,j5,fN,bY,gx,gy,gz,gA,gB,gC,gD,gE,gF,ne_eq,bK,gp,gr,gs,gu,gk,gm,gn,cI,cR,dS,cQ,dJ,dH,dG,bJ,bU,bp,bZ,cC,b0,Py,Qf,Px,P5,PK,Qa,P6,PY,QD,QE,QP,QK,QQ,PR,PL,Qc,P8,P9,P0,exists_eq_left',exists_eq_left,exists_and_left,exists_and_right,Ql,Qm,Sl.v.injEq,Sl.o.injEq,Sl.k.injEq,Qp,Qj,Qr,Qe,Qk,PJ,and_true,true_and,QR,Qs,exists_const,decide_eq_true_eq,QS,QU,QH,QI,P4,decide_eq_false_iff_not,and_assoc,or_true,true_or,↓reduceIte,if_true,if_false,PZ,Qb,not_true_eq_false,not_false_eq_true,QL,QA,ite_true,ite_false,eq_self,exists_eq,reduceCtorEq,false_and,and_false,or_false,false_or,exists_false,Qv,Qy,cx,QG,QV,QC,QW,P7,QB,Qg,QM,aV,bw,bX,cU,eQ,aT,cL,eV,beq_self_eq_true,eR,eT,gi,aS,WN];generalize hG:R _ _=G;by_cases f3:w=Pr "hold"/\∃g y tl,more=g::y::tl/\g∈[Pr "paper",Pr "kind"]/\Nm y
     ·obtain⟨rfl,g,y,tl,rfl,hg,hy⟩:=f3;have wg:=hm g Wv;have wy:=hm y Wv;rw [Wt td,Wt (by simp only [PD,Px];omega)];refine⟨_,aV,mi.mpr wg.2,td,?_⟩;rw [aT,aT,rZ,Wt (decide_eq_true hg)];refine⟨_,bw,_,rfl,wy.1,_,rfl,?_⟩;rw [Wt (mw.mpr hy),show bA (QY Pu (g::y::tl)) (some 2) none=tl.map .str from pQ (k:=2),show bA (QY Pu (g::y::tl)) none (some 2)=[g,y].map .str from vX (k:=2)];have st:=(pR λz (hz:z∈tl)=>(hm z (by simp [hz])).2).1;rw [show(Ra (QY Pu tl)).eqv (Ra [Pu (Pr "deep")])=decide (tl=[Pr "deep"]) from qG (b:=[_]),
       show(Ra []).eqv (Ra (QY Pu tl))=decide ([]=tl) from qG (a:=[]),
       show(Ra [Pu (Pr "deep")]).eqv (Ra (QY Pu tl))=decide ([Pr "deep"]=tl) from qG (a:=[_])]
      refine⟨st,td,st,td,?_⟩;by_cases e0:tl=[]
      ·subst e0;rw [Wt Wv,show decide (([]:List Str)=[Pr "deep"])=false by decide+kernel];exact⟨_,bw,q1 _ (.hold hn hx hg hy) rfl⟩
      ·by_cases e1:tl=[Pr "deep"]
       ·subst e1;rw [Wt Wv,show decide ([Pr "deep"]=[Pr "deep"])=true by decide+kernel];exact⟨_,bw,q1 _ (.hold hn hx hg hy) rfl⟩
       ·rw [Ws (by
         rw [Th,decide_eq_true_eq,decide_eq_true_eq];exact λz=>z.elim (λz=>e0 z.symm) λz=>e1 z.symm)]
        exact⟨_,aV,key λk=>by
         obtain⟨g',y',_,_,h⟩:=k.ho rfl;rcases h with h | h
         ·injection h with _ h;injection h with _ h;exact e0 h
         ·injection h with _ h;injection h with _ h;exact e1 h⟩
     suffices rest:G by
      by_cases hw:w=Pr "hold"
      ·rw [Wt (by rw [hw];decide+kernel)];clear hG hR key;rcases more with _ | ⟨g,_ | ⟨y,tl⟩⟩
       ·rw [Ws Wv];exact rest
       ·rw [Ws Wv];exact rest
       ·have wg:=hm g Wv;have wy:=hm y Wv;rw [Wt (by simp only [PD,Px];omega)];refine⟨_,aV,mi.mpr wg.2,td,?_⟩;rw [aT,aT,rZ];by_cases hg:g∈[Pr "paper",Pr "kind"]
        ·rw [Wt (decide_eq_true hg)];refine⟨_,bw,_,rfl,wy.1,_,rfl,?_⟩;rw [Ws (λz=>f3 ⟨hw,g,y,tl,rfl,hg,mw.mp z⟩)];exact rest
        ·rw [Ws (by simpa using hg)];exact rest
      ·rw [Ws (by simpa using hw)];exact rest
     subst hG;subst hR;refine n5 λR hR=>?_;simp only [mO,true_and,↓jd,↓jm,↓jn,↓jo,↓jq,↓jr,↓jt,↓je,↓fB,↓iK,↓jT,↓jU,↓jV,↓jW,↓jX,↓jY,↓iL,↓iM,↓iN,↓iO,↓iP,↓iQ,↓iR,↓iS,↓iT,↓iU,↓iV,↓iW,↓iX,↓iY,↓iZ,↓i3,↓i4,↓i5,↓i6,↓i7,↓i8,↓i9,↓ja,↓jb,cf,cN,cg,dD,fR,fS,cO,dE,dF,dM,dN,fX,dh,dC,bB,dI,dU,dW,dX,gf,dY,cn,eJ,eG,d3,dZ,dL,cP,di,fO,cG,cy,bI,dj,dm,dn,dz,fP,dA,dB,cH,cz,fQ,gK,gM,gN,gO,gP,gQ,gR,gS,gT,gU,gW,gX,gY,gZ,g6,g9,hJ,hV,hW,hX,hZ,h7,ic,ie,ig,ij,ik,il,ip,iq,iu,iw,ix,iy,iz,iA,iB,iC,iD,iE,iF,iG,iH,gL,d8,gc,eL,cV,gj,gh,d6,d7,d9,eg,ei,eD,eF,cT,eM,eN,eO,bS,fY,fZ,gb,dO,dP,fT,fU,dQ,fV,dR,fW,fj,fv,fw,gH,gI,gG,gJ,eZ,ff,fg,fh,cq,fu,fk,eX,eY,fx,fy,fz,fA,cu,iI,iJ,jg,jf,jh,ji,jj,jk,jl,fC,fD,jx,jv,jw,ju,jC,jy,jz,jA,jB,cX,fE,jG,jH,jD,jE,jF,jI,jJ,jK,fF,jL,jM,fG,jO,fH,jP,jQ,jR,jN,jS,fJ,fK,fL,fM,jZ,j3,j5,fN,bY,gx,gy,gz,gA,gB,gC,gD,gE,gF,ne_eq,bK,gp,gr,gs,gu,gk,gm,gn,cI,cR,dS,cQ,dJ,dH,dG,bJ,bU,bp,bZ,cC,b0,Py,Qf,Px,P5,PK,Qa,P6,PY,QD,QE,QP,QK,QQ,PR,PL,Qc,P8,P9,P0,exists_eq_left',exists_eq_left,exists_and_left,exists_and_right,Ql,Qm,Sl.v.injEq,Sl.o.injEq,Sl.k.injEq,Qp,Qj,Qr,Qe,Qk,PJ,and_true,true_and,QR,Qs,exists_const,decide_eq_true_eq,QS,QU,QH,QI,P4,decide_eq_false_iff_not,and_assoc,or_true,true_or,↓reduceIte,if_true,if_false,PZ,Qb,not_true_eq_false,not_false_eq_true,QL,QA,ite_true,ite_false,eq_self,exists_eq,reduceCtorEq,false_and,and_false,or_false,false_or,exists_false,Qv,Qy,cx,QG,QV,QC,QW,P7,QB,Qg,QM,aV,bw,bX,cU,eQ,aT,cL,eV,beq_self_eq_true,eR,eT,gi,aS,WN];generalize hG:R _ _=G;have ea:∀{l:List Str},(l.map λy=>cM (.str y)).all id=true↔∀y∈l,Nm y:=λ{l}=>by
      rw [SK,Rj];exact⟨λh y hy=>mw.mp (h y hy),λh y hy=>mw.mpr (h y hy)⟩
     have cm:∀{C:List Ww->Prop},C ((more.map Pu).map λz=>.bool (cM z))->mG (cQ 0) bS (cz v5 (cy (kL 0) cG)) [none] (QY Pu more) C:=λh=>mK _ (λz hz R hR=>by
      obtain⟨y,hy,rfl⟩:=QO.mp hz;simp only [mO,true_and,↓jd,↓jm,↓jn,↓jo,↓jq,↓jr,↓jt,↓je,↓fB,↓iK,↓jT,↓jU,↓jV,↓jW,↓jX,↓jY,↓iL,↓iM,↓iN,↓iO,↓iP,↓iQ,↓iR,↓iS,↓iT,↓iU,↓iV,↓iW,↓iX,↓iY,↓iZ,↓i3,↓i4,↓i5,↓i6,↓i7,↓i8,↓i9,↓ja,↓jb,cf,cN,cg,dD,fR,fS,cO,dE,dF,dM,dN,fX,dh,dC,bB,dI,dU,dW,dX,gf,dY,cn,eJ,eG,d3,dZ,dL,cP,di,fO,cG,cy,bI,dj,dm,dn,dz,fP,dA,dB,cH,cz,fQ,gK,gM,gN,gO,gP,gQ,gR,gS,gT,gU,gW,gX,gY,gZ,g6,g9,hJ,hV,hW,hX,hZ,h7,ic,ie,ig,ij,ik,il,ip,iq,iu,iw,ix,iy,iz,iA,iB,iC,iD,iE,iF,iG,iH,gL,d8,gc,eL,cV,gj,gh,d6,d7,d9,eg,ei,eD,eF,cT,eM,eN,eO,bS,fY,fZ,gb,dO,dP,fT,fU,dQ,fV,dR,fW,fj,fv,fw,gH,gI,gG,gJ,eZ,ff,fg,fh,cq,fu,fk,eX,eY,fx,fy,fz,fA,cu,iI,iJ,jg,jf,jh,ji,jj,jk,jl,fC,fD,jx,jv,jw,ju,jC,jy,jz,jA,jB,cX,fE,jG,jH,jD,jE,jF,jI,jJ,jK,fF,jL,jM,fG,jO,fH,jP,jQ,jR,jN,jS,fJ,fK,fL,fM,jZ,j3,j5,fN,bY,gx,gy,gz,gA,gB,gC,gD,gE,gF,ne_eq,bK,gp,gr,gs,gu,gk,gm,gn,cI,cR,dS,cQ,dJ,dH,dG,bJ,bU,bp,bZ,cC,b0,Py,Qf,Px,P5,PK,Qa,P6,PY,QD,QE,QP,QK,QQ,PR,PL,Qc,P8,P9,P0,exists_eq_left',exists_eq_left,exists_and_left,exists_and_right,Ql,Qm,Sl.v.injEq,Sl.o.injEq,Sl.k.injEq,Qp,Qj,Qr,Qe,Qk,PJ,and_true,true_and,QR,Qs,exists_const,decide_eq_true_eq,QS,QU,QH,QI,P4,decide_eq_false_iff_not,and_assoc,or_true,true_or,↓reduceIte,if_true,if_false,PZ,Qb,not_true_eq_false,not_false_eq_true,QL,QA,ite_true,ite_false,eq_self,exists_eq,reduceCtorEq,false_and,and_false,or_false,false_or,exists_false,Qv,Qy,cx,QG,QV,QC,QW,P7,QB,Qg,QM,aV,bw,bX,cU,eQ,aT,cL,eV,beq_self_eq_true,eR,eT,gi,aS,WN];exact⟨(hm y hy).1,hR⟩) h
     by_cases f4:w=Pr "paper"/\1<=more.length/\more.length<=5/\∀y∈more,Nm y
     ·obtain⟨rfl,h4,h5,ha⟩:=f4;rw [Wt td,Wt (by rw [PD];omega),Wt (by rw [PD];omega)];refine⟨by rw [PD];omega,cm ⟨more.map λy=>cM (.str y),by rw [Rb,Rb];rfl,?_⟩⟩;rcases more with _ | ⟨k,ms⟩
      ·exact absurd h4 tx
      replace h5:ms.length<=4:=by rw [Px] at h5;omega
      rw [Wt (ea.mpr ha),show bA (QY Pu (k::ms)) (some 1) none=ms.map .str from pQ (k:=1)];have mm:∀z∈kY (ms.foldl kD []),z∈ms:=λz hz=>by
       have:=Au.mp ((uW _).mem_iff.mp hz);simpa using this
      refine⟨_,aV,ms,rfl,Ce,(pR λz hz=>(hm z (by simp [hz])).2).1,(pR λz hz=>(hm z (by simp [mm z hz])).2).1,?_⟩;rw [qG];by_cases hs:ms=kY (ms.foldl kD [])
      ·rw [Wt (decide_eq_true hs)];have up:ms.Pairwise pI:=by rw [hs];exact Gm (Av .nil)
       refine⟨_,bw,q1 _ (.paper hn hx (ha k Wv) ⟨h5,λz hz=>ha z (by simp [hz]),up⟩) ?_⟩;show Pr "paper"::ku n::x::k::pO (.tuple (ms.map .str))=_;rw [rT]
      ·rw [Ws (by simpa using hs)];exact⟨_,aV,key λkk=>by
        obtain⟨k',ms',e,_,h⟩:=kk.pa rfl;injection e with _ e
        exact hs (by rw [e];exact(OO h.up).symm)⟩
     suffices rest:G by
      by_cases hw:w=Pr "paper"
      ·rw [Wt (by rw [hw];decide+kernel)];by_cases h4:1<=more.length
       ·rw [Wt (by rw [PD];omega)];by_cases h5:more.length<=5
        ·rw [Wt (by rw [PD];omega)];refine⟨by rw [PD];omega,cm ⟨more.map λy=>cM (.str y),by rw [Rb,Rb];rfl,?_⟩⟩;rw [Ws (λz=>f4 ⟨hw,h4,h5,ea.mp z⟩)];exact rest
        ·rw [Ws (by rw [PD];omega)];exact rest
       ·rw [Ws (by rw [PD];omega)];exact rest
      ·rw [Ws (by simpa using hw)];exact rest
     subst hG;subst hR;clear cm ea;refine n5 λR hR=>?_;simp only [mO,true_and,↓jd,↓jm,↓jn,↓jo,↓jq,↓jr,↓jt,↓je,↓fB,↓iK,↓jT,↓jU,↓jV,↓jW,↓jX,↓jY,↓iL,↓iM,↓iN,↓iO,↓iP,↓iQ,↓iR,↓iS,↓iT,↓iU,↓iV,↓iW,↓iX,↓iY,↓iZ,↓i3,↓i4,↓i5,↓i6,↓i7,↓i8,↓i9,↓ja,↓jb,cf,cN,cg,dD,fR,fS,cO,dE,dF,dM,dN,fX,dh,dC,bB,dI,dU,dW,dX,gf,dY,cn,eJ,eG,d3,dZ,dL,cP,di,fO,cG,cy,bI,dj,dm,dn,dz,fP,dA,dB,cH,cz,fQ,gK,gM,gN,gO,gP,gQ,gR,gS,gT,gU,gW,gX,gY,gZ,g6,g9,hJ,hV,hW,hX,hZ,h7,ic,ie,ig,ij,ik,il,ip,iq,iu,iw,ix,iy,iz,iA,iB,iC,iD,iE,iF,iG,iH,gL,d8,gc,eL,cV,gj,gh,d6,d7,d9,eg,ei,eD,eF,cT,eM,eN,eO,bS,fY,fZ,gb,dO,dP,fT,fU,dQ,fV,dR,fW,fj,fv,fw,gH,gI,gG,gJ,eZ,ff,fg,fh,cq,fu,fk,eX,eY,fx,fy,fz,fA,cu,iI,iJ,jg,jf,jh,ji,jj,jk,jl,fC,fD,jx,jv,jw,ju,jC,jy,jz,jA,jB,cX,fE,jG,jH,jD,jE,jF,jI,jJ,jK,fF,jL,jM,fG,jO,fH,jP,jQ,jR,jN,jS,fJ,fK,fL,fM,jZ,j3,j5,fN,bY,gx,gy,gz,gA,gB,gC,gD,gE,gF,ne_eq,bK,gp,gr,gs,gu,gk,gm,gn,cI,cR,dS,cQ,dJ,dH,dG,bJ,bU,bp,bZ,cC,b0,Py,Qf,Px,P5,PK,Qa,P6,PY,QD,QE,QP,QK,QQ,PR,PL,Qc,P8,P9,P0,exists_eq_left',exists_eq_left,exists_and_left,exists_and_right,Ql,Qm,Sl.v.injEq,Sl.o.injEq,Sl.k.injEq,Qp,Qj,Qr,Qe,Qk,PJ,and_true,true_and,QR,Qs,exists_const,decide_eq_true_eq,QS,QU,QH,QI,P4,decide_eq_false_iff_not,and_assoc,or_true,true_or,↓reduceIte,if_true,if_false,PZ,Qb,not_true_eq_false,not_false_eq_true,QL,QA,ite_true,ite_false,eq_self,exists_eq,reduceCtorEq,false_and,and_false,or_false,false_or,exists_false,Qv,Qy,cx,QG,QV,QC,QW,P7,QB,Qg,QM,aV,bw,bX,cU,eQ,aT,cL,eV,beq_self_eq_true,eR,eT,gi,aS,WN];generalize hG:R _ _=G;have fin:(w=Pr "rule"->∀p,lV p->lQ p≠more)->G:=λf5=>by
      subst hG;subst hR;simp only [true_and,and_true,↓jd,↓jm,↓jn,↓jo,↓jq,↓jr,↓jt,↓je,↓fB,↓iK,↓jT,↓jU,↓jV,↓jW,↓jX,↓jY,↓iL,↓iM,↓iN,↓iO,↓iP,↓iQ,↓iR,↓iS,↓iT,↓iU,↓iV,↓iW,↓iX,↓iY,↓iZ,↓i3,↓i4,↓i5,↓i6,↓i7,↓i8,↓i9,↓ja,↓jb,cf,cN,cg,dD,fR,fS,cO,dE,dF,dM,dN,fX,dh,dC,bB,dI,dU,dW,dX,gf,dY,cn,eJ,eG,d3,dZ,dL,cP,di,fO,cG,cy,bI,dj,dm,dn,dz,fP,dA,dB,cH,cz,fQ,gK,gM,gN,gO,gP,gQ,gR,gS,gT,gU,gW,gX,gY,gZ,g6,g9,hJ,hV,hW,hX,hZ,h7,ic,ie,ig,ij,ik,il,ip,iq,iu,iw,ix,iy,iz,iA,iB,iC,iD,iE,iF,iG,iH,gL,d8,gc,eL,cV,gj,gh,d6,d7,d9,eg,ei,eD,eF,cT,eM,eN,eO,bS,fY,fZ,gb,dO,dP,fT,fU,dQ,fV,dR,fW,fj,fv,fw,gH,gI,gG,gJ,eZ,ff,fg,fh,cq,fu,fk,eX,eY,fx,fy,fz,fA,cu,iI,iJ,jg,jf,jh,ji,jj,jk,jl,fC,fD,jx,jv,jw,ju,jC,jy,jz,jA,jB,cX,fE,jG,jH,jD,jE,jF,jI,jJ,jK,fF,jL,jM,fG,jO,fH,jP,jQ,jR,jN,jS,fJ,fK,fL,fM,jZ,j3,j5,fN,bY,gx,gy,gz,gA,gB,gC,gD,gE,gF,ne_eq,bK,gp,gr,gs,gu,gk,gm,gn,cI,cR,dS,cQ,dJ,dH,dG,bJ,bU,bp,bZ,cC,b0,Py,Qf,Px,P5,PK,Qa,P6,PY,QD,QE,QP,QK,QQ,PR,PL,Qc,P8,P9,P0,exists_eq_left',exists_eq_left,exists_and_left,exists_and_right,Ql,Qm,Sl.v.injEq,Sl.o.injEq,Sl.k.injEq,Qp,Qj,Qr,Qe,Qk,PJ,and_true,true_and,QR,Qs,exists_const,decide_eq_true_eq,QS,QU,QH,QI,P4,decide_eq_false_iff_not,and_assoc,or_true,true_or,↓reduceIte,if_true,if_false,PZ,Qb,not_true_eq_false,not_false_eq_true,QL,QA,ite_true,ite_false,eq_self,exists_eq,reduceCtorEq,false_and,and_false,or_false,false_or,exists_false,Qv,Qy,cx,QG,QV,QC,QW,P7,QB,Qg,QM,aV,bw,bX,cU,eQ,aT,cL,eV,beq_self_eq_true,eR,eT,gi,aS,WN];exact key λk=>by
       have a:=k.al;simp only [PH,P1,or_false] at a;rcases a with e | e | e | e | e | e | e
       ·exact f1 ⟨by simp [e],k.fin (by simp [e])⟩
       ·exact f1 ⟨by simp [e],k.fin (by simp [e])⟩
       ·exact f2 ⟨by simp [e],k.tw (by simp [e])⟩
       ·exact f2 ⟨by simp [e],k.tw (by simp [e])⟩
       ·obtain⟨g,y,hg,hy,h⟩:=k.ho e;rcases h with h | h <;> exact f3 ⟨e,g,y,_,h,hg,hy⟩
       ·obtain⟨k',ms',h,hk,h2⟩:=k.pa e;have:=h2.len;refine f4 ⟨e,by rw [h,Px];omega,by rw [h,Px];omega,λy hy=>?_⟩;rw [h] at hy;rcases PH.mp hy with rfl | hy
        ·exact hk
        ·exact h2.nm y hy
       ·obtain⟨p,hp,h⟩:=k.ru e;exact f5 e p hp h
     clear hG hR f1 f2 f3 f4;by_cases hw:w=Pr "rule"
     ·subst hw;rw [Wt td];refine⟨more,rfl,Ce,hm,λp hp e=>?_,λh=>?_⟩
      ·dsimp only;rw [Wt (show mn p=false by cases hp <;> rfl)];exact⟨more,rfl,Ce,hm,λp' hp' e'=>q1 _ (.rule hn hx hp') (by
        show Pr "rule"::ku n::x::lX [p']=_;rw [Gs hp',e']),λh=>absurd e (h p hp)⟩
      ·dsimp only;rw [Ws (show ¬mn R8=false by decide)];exact fin λ_=>h
     ·rw [Ws (by simpa using hw)];exact fin λh=>absurd h hw
    ·have no:Q .none:=q2 λd hv ee=>by
      obtain⟨w',n',x',r,rfl,_⟩:=oU hv;simp only [kF,PJ] at ee;have hx':Nm x':=by cases hv <;> assumption
      exact hx (ee.2.2.1▸hx')
     rw [Wt (show cM (.str x)=false by simpa using λz=>hx (mw.mp z))];exact no
   ·rw [en,Wt (show mn R8=true from rfl)];exact qn
end
theorem Gu:bR (az vD) ["deeds"] ["deed"] 1 [] ⟨Qo,[ (Pw ".0",Yr),(Pw "deed",Yr),(Pw "show_deed",Qw)],false,false,[]⟩:= .of
theorem Gv:bR (az vE) ["text","deeds","rows","number","row","deed"] ["other","deed"] 1 [5] ⟨Qo,[ (Pw ".0",Yr),(Pw "other",Yr),(Pw "quarrel",Qw),(Pw "deed",Rh)],false,false,[]⟩:= .of
section
variable {P:WM} {w:WO} {K:Pt} {mg:Str->Option Wx} {base:WL} {t:k9}
def qH(d:Ww):Prop:=∃(w:Str)(n:Int)(x:Str)(r:List Ww),d= .tuple (.str w:: .int n:: .str x::r)/\aS d
def kQ(w:Str)(a b:Str):Bool:=w==a || w==b
def j8(d e:Ww):Bool:=match d,e with
 | .tuple (.str w:: .int n:: .str x::r),.tuple (.str w':: .int n':: .str x'::r')=>
  PN d e || (x==x' && ((w==("paper":Str) && w'==("paper":Str)) || (w==("leave":Str) && w'==("leave":Str)) || (n==n' && ((kQ w "rule" "end" && kQ w' "rule" "end") || (kQ w "hold" "lift" && kQ w' "hold" "lift")))))
 | _,_=>false
theorem OS(A B C C' L L' R R' D D' N:Bool)(Q:Bool->Prop)(h:Q (A || (B && (C && C' || L && L' || N && (R && R' || D && D'))))):
 if A=true then Q true else if B=false then Q false else
  if C=true then if C'=true then Q true else
   if L=true then if L'=true then Q true else
    if R=true then if R'=true then Q N else if D=true then if D'=true then Q N else Q false else Q false
    else if D=true then if D'=true then Q N else Q false else Q false
   else if R=true then if R'=true then Q N else if D=true then if D'=true then Q N else Q false else Q false
    else if D=true then if D'=true then Q N else Q false else Q false
  else
   if L=true then if L'=true then Q true else
    if R=true then if R'=true then Q N else if D=true then if D'=true then Q N else Q false else Q false
    else if D=true then if D'=true then Q N else Q false else Q false
   else if R=true then if R'=true then Q N else if D=true then if D'=true then Q N else Q false else Q false
    else if D=true then if D'=true then Q N else Q false else Q false:=by
 cases A
 ·cases B
  ·simpa using h
  ·have tail:∀p:Bool,p=false->Q (false || (true && (p || N && (R && R' || D && D'))))->if R=true then if R'=true then Q N else if D=true then if D'=true then Q N else Q false else Q false else if D=true then if D'=true then Q N else Q false else Q false:=λp hp h=>by
    subst hp;cases R <;> cases R' <;> cases D <;> cases D' <;> simpa using h
   cases C <;> cases C' <;> cases L <;> cases L' <;> first | simpa using h | (simp only [PZ,if_false,if_true,reduceCtorEq];exact tail _ (by rfl) h)
 ·simpa using h
def OT:List Ww->(Ww->Prop)->Prop:=λds Q=>∃d e,ds=[d,e]/\qH d/\qH e/\Q (.bool (j8 d e))
theorem OU(T:Txt K mg t):aF P w K mg base CX0 1 t.a_X t.d_X ["one","other"] (bh K OT):=by
 refine T.F_X.F.okD BA (λds Q h=>?_) (λ_ _ _ _ H O ds Q E hr h=>?_)
 ·obtain⟨d,e,rfl,_⟩:=h;rfl
 ·obtain⟨d,e,rfl,⟨w,n,x,r,rfl,sd⟩,⟨w',n',x',r',rfl,se⟩,q⟩:=h;refine⟨_,(ai (aH (aD (cJ hr.units) cK (dv 0) (dv 1) (av _)) (ak (ax k8)) aG)
   (ai (aH (aD (mH hr.units) mI (aj aI aK (dv 0) ae) (aj aI aK (dv 1) ae) (av _)) (ak (ax k8)) aG)
   (ai (De RP rfl (bE (aa aw (aa aw ah))) (bP (i:=2) BA.nd rfl Wu) cj (ak (aH (PW.pt (kH (aD (cJ hr.units) cK (aj aI aK (dv 0) ae) (dv 2) (av _)) (lG (aD (cJ hr.units) cK (aj aI aK (dv 1) ae) (dv 2) (av _))))) (ak (ax k8)) aG)))
   (ai (De RP rfl (bE (aa (bE (aa aw (aa aw ah))) (aa (bE (aa aw (aa aw ah))) ah))) (bP (i:=3) BA.nd rfl Wu) cj (ak (aH (PW.pt (kH (aD (oK hr) oM (aj aI aK (dv 0) ae) (dv 3) rfl) (lG (aD (oK hr) oM (aj aI aK (dv 1) ae) (dv 3) rfl)))) (ak (ax (j9 (cJ hr.units) cK (df (aj aI aK (dv 0) ae)) (df (aj aI aK (dv 1) ae)) (av _)))) aG)))
   (ak (ax k8)))))),?_⟩
  have hw:aS (.str w):=pE sd _ Wv;have hw':aS (.str w'):=pE se _ Wv;have hx:aS (.str x):=pE sd _ Wv;have hx':aS (.str x'):=pE se _ Wv;walk_at "a";simp only [hw,hw',hx,hx',sd,se,true_and,lit0,lit1,lit2,lit3,lit4,lit5,lit6,lit7,lit8,lit9,lit10,lit11,lit12,lit13,lit14,lit15,lit16,lit17,lit18,lit19,lit20,lit21,lit22,lit23,lit24,lit25,lit26,lit27,lit28,lit29,lit30,lit31,lit32,lit33,lit34,lit35,lit36,lit37,lit38,lit39,lit40,lit41,lit42,lit43,lit44,lit45,lit46,lit47,lit48,lit49,lit50,lit51,lit52,lit53];have fin:∀{b:Bool},b=j8 (.tuple (.str w:: .int n:: .str x::r)) (.tuple (.str w':: .int n':: .str x'::r'))->Q (.bool b):=λe=>by rw [e];exact q
  have qd:j8 (.tuple (.str w:: .int n:: .str x::r)) (.tuple (.str w':: .int n':: .str x'::r'))=(PN (.tuple (.str w:: .int n:: .str x::r)) (.tuple (.str w':: .int n':: .str x'::r')) || (x==x' && ((w==("paper":Str) && w'==("paper":Str)) || (w==("leave":Str) && w'==("leave":Str)) || (n==n' && ((kQ w "rule" "end" && kQ w' "rule" "end") || (kQ w "hold" "lift" && kQ w' "hold" "lift")))))):=rfl;rw [qd] at fin;clear qd q;have cm:∀a b:Str,(a==b)=(b==a):=λa b=>T1;simp only [kQ,cm w,cm w'] at fin;generalize (QF (Pu w::PV n::Pu x::r)).eqv (QF (Pu w'::PV n'::Pu x'::r'))=A at*;simp only [cm w,cm w'];generalize (x==x')=B at*;generalize (("paper":Str)==w)=C at*;generalize (("paper":Str)==w')=C' at*;generalize (("leave":Str)==w)=L at*;generalize (("leave":Str)==w')=L' at*;generalize (("rule":Str)==w || ("end":Str)==w)=R at*;generalize (("rule":Str)==w' || ("end":Str)==w')=R' at*;generalize (("hold":Str)==w || ("lift":Str)==w)=D at*;generalize (("hold":Str)==w' || ("lift":Str)==w')=D' at*;generalize (n==n')=N at*;exact OS A B C C' L L' R R' D D' N (λb=>Q (.bool b)) (fin rfl)
theorem pS{d:Ww}(h:bo d):qH d:=by
 have s:=h.shp;obtain⟨w,n,x,r,rfl,_⟩:=oU h;exact⟨w,n,x,r,rfl,s⟩
theorem v9{m:Nat}:∀{ws:List Str},(∀z∈ws,z.length<=m)->(ws.map λx:Str=>x.length).sum<=m*ws.length
 | [],_=>by simp
 | a::l,h=>by
  have ih:=v9 (ws:=l) λz hz=>h z (by simp [hz]);have:=h a Wv;rw [Py,Sa,Px,Nat.mul_add];omega
theorem OV:∀k:Fin 1001,(Pr (toString (k.val:Int))).length<=4:=td
def OW:List Ww->(Ww->Prop)->Prop:=λds Q=>∃l,ds=[.tuple l]/\(∀d∈l,bo d)/\l.length<=100/\Q (.str (Txt.join (Pr "\n") (l.map bf)))
theorem OX(T:Txt K mg t):aF P w K mg base CX0 7 t.a_b t.d_b ["deeds"] (bh K OW):=by
 have G_a:=@FQ P w _ _ base _ T;refine T.F_b.F.okD MH (λds Q h=>?_) (λ_ _ _ _ H O ds Q E hr h=>?_)
 ·obtain⟨d,rfl,_⟩:=h;rfl
 ·obtain⟨l,rfl,hd,hl,q⟩:=h;refine'⟨_,?A,?B⟩
  case A=>
   refine' ak ?C
   case' C=>refine' ax ?D
   case D=>exact(mJ aw (df (fe (Dg rfl Gu (df (dv 0)) cj kW tx (λ_ _ _ _=>(bP (i:=0) Gu.nd rfl Wu)) (λ_ _ _ _=>kX) (λ_ _ _ _=>(ar G_a hr T.F_a (aa (dv 0) ah)))))))
  case B=>
  clear hr T G_a;walk_at "a";refine⟨Ce,mK (λd=>.str (bf d)) (λd hd' R hR=>?_) ⟨l.map bf,by rw [Rb];rfl,?_,q⟩⟩
  ·walk_at "a";exact⟨d,rfl,hd d hd',hR⟩
  ·have:=v9 (ws:=l.map bf) (m:=200) λz hz=>by
    obtain⟨d,h,rfl⟩:=QO.mp hz;exact(ue (hd d h)).2
   rw [show(Pr "\n").length=1 by decide+kernel];rw [PD] at this⊢;omega
open Classical in
def mP(z:Str):Option Ww:=if h:∃d,bo d/\bf d=z then some h.choose else none
theorem OY{d e:Ww}(h:bo d)(h':bo e)(z:bf d=bf e):d=e:=by
 have a:=uh h;have b:=uh h';rw [<-a.2,<-b.2,<-a.1,<-b.1,z]
theorem OZ{z:Str}{d:Ww}(h:mP z=some d):bo d/\bf d=z:=by
 unfold mP at h;split at h
 ·rename_i hx;injection h with h
  rw [<-h];exact hx.choose_spec
 ·cases h
theorem BS{d:Ww}(h:bo d):mP (bf d)=some d:=by
 have hx:∃e,bo e/\bf e=bf d:=⟨d,h,rfl⟩;unfold mP;rw [dif_pos hx,P0];exact OY hx.choose_spec.1 h hx.choose_spec.2
theorem Gw{z:Str}(h:∀d,bo d->bf d≠z):mP z=none:=by
 unfold mP;rw [dif_neg λuu69=>by obtain⟨d,a,b⟩:=uu69;exact h d a b]
def run:List Ww->Nat->List Str->Except Nat (List Ww)
 | acc,_,[]=>.ok acc
 | acc,n,r::rs=>match mP r with
  | none=>.error n
  | some d=>if acc.any (λo=>j8 o d)=true then .error n else run (acc++[d]) (n+1) rs
theorem wj{acc:List Ww}{n:Nat}{r:Str}{rs:List Str}:run acc n (r::rs)=match mP r with
 | none=>.error n
 | some d=>if acc.any (λo=>j8 o d)=true then .error n else run (acc++[d]) (n+1) rs:=rfl
def n6(z:Str):List Str:=if z.length=0 then [] else Txt.split z (Pr "\n")
def qI(z:Str):Except Nat (List Ww):=run [] 0 (n6 z)
structure qJ (z:Str):Prop where
 len:z.length<=100000
 rows:∀r∈n6 z,qD r
 few:(n6 z).length<=1000
def O3:vy:=λds Q R=>∃d,ds=[d]/\(∀x,d≠ .dict [(.none,x)])/\(∀z,d= .str z->qJ z/\(∀l,qI z= .ok l->Q (.tuple l))/\∀n:Nat,qI z= .error n->R n)/\((∀z,d≠ .str z)->R 0)
theorem O4(T:Txt K mg t):aF P w K mg base (kr P w) 8 t.a_h t.d_h ["text"] (vz K t.u_NoText "row" O3):=by
 have G_g:=@Oi P w _ _ base _ T;have G_X:=@OU P w _ _ base _ T;have G_A:=@E7 P w _ _ base _ T;refine T.F_h.F.okDXn rM (λds Q R h=>?_) (λcdv A outer s H O ds Q R E hr h hx=>?_)
 ·obtain⟨d,rfl,_⟩:=h;rfl
 ·obtain⟨d,rfl,hd,hz,q2⟩:=h;refine'⟨_,?A,?B⟩
  case A=>
   refine' ai ?C ?D
   case C=>
    refine' aH ?E ?F aG
    case E=>exact(kj (cb (mL (K':=K) (T:="str") rfl rfl T.n_isinstance lF (df (dv 0)) (lY (v:= .ty "str") rfl T.n_str mS rfl))))
    case' F=>refine' ak ?G
    case G=>exact(rK hx RD T.xm_NoText G_A hr T.c_NoText T.F_A.b (aa ae ah))
   case' D=>refine' ai ?H ?I
   case H=>exact(nP (i:=1) rM.nd rfl Wu (bz ah))
   case' I=>refine' ai ?J ?K
   case J=>exact(aY (i:=2) rM.nd rfl Wu (uL (Mm (dv 0)) (fe (oQ (dv 0) aw)) (fe (bz ah))))
   case' K=>refine' ai ?L ?M
   case L=>
    refine' Eu PassesOwn.leaving rfl rfl T.n_enumerate (aa (dv 2) ah) ?N (uP (nu cj (nu cj tj))) ?O
    case N=>exact(sG (n:=2) rfl (my (bP (i:=3) rM.nd rfl Wu) (my (bP (i:=4) rM.nd rfl Wu) qO)))
    case' O=>refine' ai ?P ?Q
    case P=>exact(aY (i:=5) rM.nd rfl Wu (ar G_g hr T.F_g (aa (dv 4) ah)))
    case' Q=>refine' ai ?R ?S
    case R=>
     refine' aH ?T ?U aG
     case T=>exact(PW.pt (ke (aD qS va (dv 5) ki (av _)) (kG (cb (PE.imp (aR (y6 rfl) rfl T.n_any y8 (aA (fe (oF rfl Gv (dw 1) cj kW tx (λ_ _ _ _=>(bP (i:=0) Gv.nd rfl Wu)) (λ_ _ _ _=>kX) (λ_ _ _ _=>(ar G_X hr T.F_X (aa (dv 0) (aa (dv 1) ah)))))) aB)) (aE ny))))))
     case' U=>refine' ak ?V
     case V=>exact(rK hx RD T.xm_NoText G_A hr T.c_NoText T.F_A.b (aa (dv 3) ah))
    case' S=>refine' ak ?W
    case W=>exact(sZ (i:=1) (pv 1) (dv 5))
   case' M=>refine' ak ?X
   case X=>exact(ax (PE.imp (cE lZ rfl T.n_tuple k7 (qV (dw 1) aB)) (aE l8)))
  case B=>
  clear hr T hx G_g G_X G_A;walk_at "a";simp only [Am];refine⟨_,rfl,hd,?_⟩;cases d with
  | str z=>
   obtain⟨tz,q1,qn⟩:=hz z rfl;rw [show tF (.str z)=true from rfl,Ws tx];refine⟨z,rfl,by have:=tz.len;omega,?_⟩;have hr:=tz.rows;have hf:=tz.few;unfold qI at q1 qn;unfold n6 at q1 qn hr hf;by_cases h0:z.length=0
   ·rw [Ws (by simp [h0])];rw [Wt h0] at q1;refine⟨λ_ δ=>δ=[some (Sl.v (Pu z)),some (Sl.o []),some (Sl.v (Ra [])),none,none,none],rfl,(λi x δ hx=>by cases hx),?_⟩;rintro δ rfl;walk_at "a";exact q1 [] rfl
   ·rw [Wt (by simp;omega)];rw [Ws h0] at q1 qn hr hf;refine⟨z,rfl,td,by have:=tz.len;omega,?_⟩;generalize Txt.split z (Pr "\n")=rows at*;refine⟨λi δ=>∃(acc:List Ww)(o3 o4 o5:Option Sl),(∀d∈acc,bo d)/\acc.length=i/\run [] 0 rows=run acc i (rows.drop i)/\δ=[some (Sl.v (Pu z)),some (Sl.o acc),some (Sl.v (Ra (QY Pu rows))),o3,o4,o5],⟨[],_,_,_,(λd h=>by cases h),rfl,rfl,rfl⟩,?_,?_⟩
    ·rintro i x δ hx ⟨acc,o3,o4,o5,ha,hl,hrun,rfl⟩;rw [vf,Rx] at hx;obtain⟨r,er,rfl⟩:∃r,rows[i]?=some r/\x= .tuple [.int (i:Int),.str r]:=by
      cases e:rows[i]? with
      | none=>rw [e] at hx;cases hx
      | some r=>
       rw [e] at hx;simp only [Qv,P0,QK] at hx;exact⟨r,rfl,hx.symm⟩
     have hi:i < rows.length:=(Qu.mp er).1;have ed:rows.drop i=r::rows.drop (i+1):=by
      rw [SD hi,(Qu.mp er).2]
     have hrm:r∈rows:=Rr er;have lz:(Pr (toString (i:Int))).length<=4:=OV ⟨i,Ce⟩;have ll:=nX (i:=(i:Int)) Ce Ce;rw [ed,wj] at hrun;walk_at "a";refine⟨r,rfl,hr r hrm,λd hd' e=>?_,λh=>?_⟩
     ·rw [show mP r=some d by rw [<-e];exact BS hd'] at hrun;dsimp only at hrun⊢;rw [Ws (show ¬mn d=true by cases hd' <;> exact λz=>by cases z)];refine⟨Ce,mK (λo=>.bool (j8 o d)) (λo ho R' hR=>?_) ⟨acc.map λo=>j8 o d,by rw [Rb];rfl,?_⟩⟩
      ·walk_at "a";exact⟨o,d,rfl,pS (ha o ho),pS hd',hR⟩
      ·have ea:(acc.map λo=>j8 o d).any id=acc.any λo=>j8 o d:=by rw [Vp];rfl
       by_cases hq:(acc.any λo=>j8 o d)=true
       ·rw [Wt hq] at hrun;rw [Wt (ea.trans hq)];exact⟨ll,Ce,qn i hrun⟩
       ·rw [Ws hq] at hrun;rw [Ws (λz=>hq (ea.symm.trans z))];refine⟨Ce,acc++[d],λx hx=>?_,by rw [Rf];simp;omega,hrun,rfl,_,rfl⟩;rcases Rt.mp hx with h | h
        ·exact ha x h
        ·rw [Rc.mp h];exact hd'
     ·rw [show mP r=none from Gw h] at hrun;dsimp only at hrun⊢;rw [Wt (show mn R8=true from rfl)];exact⟨ll,Ce,qn i hrun⟩
    ·rintro δ ⟨acc,o3,o4,o5,ha,hl,hrun,rfl⟩;walk_at "a";refine q1 _ ?_;rw [hrun,ve,PD,RK (PQ _)];rfl
  | _=>exact⟨tx,td,q2 λz e=>by cases e⟩
end
theorem Gx:bR (az vL) ["_law_text","_law_found","_law_number","_law_row","_law_deed"] ["_law_ahead_here","_law_deed"] 1 [4] ⟨Qo,[ (Pw ".0",Yr),(Pw "_law_ahead_here",Yr),(Pw "_law_due",Qw),(Pw "_law_deed",Rh)],false,false,[]⟩:= .of
section
variable {P:WM} {w:WO} {K:Pt} {mg:Str->Option Wx} {base:WL} {t:k9}
theorem O5(C C' L L' R R' D D' N X Z:Bool)(hz:Z=true->X=true/\N=true)(Q:Bool->Prop)(h:Q (Z || (X && (C && C' || L && L' || N && (R && R' || D && D'))))):
 if C=true then if C'=true then Q X else(if L=true then if L'=true then Q X else(if R=true then if R'=true then Q (N && X) else if D=true then if D'=true then Q (N && X) else Q Z else Q Z else if D=true then if D'=true then Q (N && X) else Q Z else Q Z) else(if R=true then if R'=true then Q (N && X) else if D=true then if D'=true then Q (N && X) else Q Z else Q Z else if D=true then if D'=true then Q (N && X) else Q Z else Q Z)) else(if L=true then if L'=true then Q X else(if R=true then if R'=true then Q (N && X) else if D=true then if D'=true then Q (N && X) else Q Z else Q Z else if D=true then if D'=true then Q (N && X) else Q Z else Q Z) else(if R=true then if R'=true then Q (N && X) else if D=true then if D'=true then Q (N && X) else Q Z else Q Z else if D=true then if D'=true then Q (N && X) else Q Z else Q Z)):=by
 have tail:(C && C' || L && L')=false->(if R=true then if R'=true then Q (N && X) else if D=true then if D'=true then Q (N && X) else Q Z else Q Z else if D=true then if D'=true then Q (N && X) else Q Z else Q Z):=λh0=>by
  rw [h0] at h;cases Z
  ·cases N <;> cases X <;> cases R <;> cases R' <;> cases D <;> cases D' <;> simpa using h
  ·obtain⟨rfl,rfl⟩:=hz rfl;cases R <;> cases R' <;> cases D <;> cases D' <;> simpa using h
 have one:(C && C' || L && L')=true->Q X:=λh0=>by
  rw [h0] at h;cases Z
  ·cases X <;> simpa using h
  ·obtain⟨rfl,rfl⟩:=hz rfl;simpa using h
 cases C <;> cases C' <;> cases L <;> cases L' <;> first | exact tail rfl | exact one rfl
def O6:List Ww->(Ww->Prop)->Prop:=λds Q=>∃d e,ds=[d,e]/\qH d/\qH e/\Q (.bool (j8 d e))
theorem Gy(T:Txt K mg t):aF P w K mg base CX0 1 t.a_AA t.d_AA ["_law_one","_law_other"] (bh K O6):=by
 refine T.F_AA.F.okD E4 (λds Q h=>?_) (λ_ _ _ _ H O ds Q E hr h=>?_)
 ·obtain⟨d,e,rfl,_⟩:=h;rfl
 ·obtain⟨d,e,rfl,⟨w,n,x,r,rfl,sd⟩,⟨w',n',x',r',rfl,se⟩,q⟩:=h;refine'⟨_,?A,?B⟩
  case A=>
   refine' ai ?C ?D
   case C=>
    refine' aH ?E ?F aG
    case E=>exact(PW.pt (ke (PW.pt (kH (aD (fq hr) ft (aj aI aK (dv 0) ae) aw (av _)) (lG (aD (fq hr) ft (aj aI aK (dv 1) ae) aw (av _))))) (kG (PW.pt (kH (aD (fq hr) ft (aj aI aK (dv 0) ae) aw (av _)) (lG (aD (fq hr) ft (aj aI aK (dv 1) ae) aw (av _))))))))
    case' F=>refine' ak ?G
    case' G=>refine' ax ?H
    case H=>exact(j9 (cJ hr.units) cK (df (aj aI aK (dv 0) ae)) (df (aj aI aK (dv 1) ae)) (av _))
   case' D=>refine' ai ?I ?J
   case I=>
    refine' Jm RP rfl (fe (bz (aa (fe (bz (aa aw (aa aw ah)))) (aa (fe (bz (aa aw (aa aw ah)))) ah)))) ?K cj ?L
    case K=>exact(bP (i:=2) E4.nd rfl Wu)
    case' L=>refine' ak ?M
    case' M=>refine' aH ?N ?O aG
    case N=>exact(PW.pt (kH (aD (oI hr) mV (aj aI aK (dv 0) ae) (dv 2) rfl) (lG (aD (oI hr) mV (aj aI aK (dv 1) ae) (dv 2) rfl))))
    case' O=>refine' ak ?P
    case' P=>refine' ax ?Q
    case Q=>exact(j9 (cJ hr.units) cK (df (tE (df (dv 0)) (bT ae) (bT ae))) (df (tE (df (dv 1)) (bT ae) (bT ae))) (av _))
   case' J=>refine' ak ?R
   case R=>exact(ax (j9 (cJ hr.units) cK (df (dv 0)) (df (dv 1)) (av _)))
  case B=>
  have hw:aS (.str w):=pE sd _ Wv;have hw':aS (.str w'):=pE se _ Wv;have hx:aS (.str x):=pE sd _ Wv;have hx':aS (.str x'):=pE se _ Wv;clear hr T;walk_at "a";simp only [hw,hw',hx,hx',sd,se,true_and,lit0,lit1,lit2,lit3,lit4,lit5,lit6,lit7,lit8,lit9,lit10,lit11,lit12,lit13,lit14,lit15,lit16,lit17,lit18,lit19,lit20,lit21,lit22,lit23,lit24,lit25,lit26,lit27,lit28,lit29,lit30,lit31,lit32,lit33,lit34,lit35,lit36,lit37,lit38,lit39,lit40,lit41,lit42,lit43,lit44,lit45,lit46,lit47,lit48,lit49,lit50,lit51,lit52,lit53];have fin:∀{b:Bool},b=j8 (.tuple (.str w:: .int n:: .str x::r)) (.tuple (.str w':: .int n':: .str x'::r'))->Q (.bool b):=λe=>by rw [e];exact q
  have qd:j8 (.tuple (.str w:: .int n:: .str x::r)) (.tuple (.str w':: .int n':: .str x'::r'))=(PN (.tuple (.str w:: .int n:: .str x::r)) (.tuple (.str w':: .int n':: .str x'::r')) || (x==x' && ((w==("paper":Str) && w'==("paper":Str)) || (w==("leave":Str) && w'==("leave":Str)) || (n==n' && ((kQ w "rule" "end" && kQ w' "rule" "end") || (kQ w "hold" "lift" && kQ w' "hold" "lift")))))):=rfl;rw [qd] at fin;clear qd q;have c1:Q6 [Pu (Pr "rule"),Pu (Pr "end")]=true:=td
  have c2:Q6 [Pu (Pr "hold"),Pu (Pr "lift")]=true:=td
  have pr:∀{k:Int}{y:Str},aS (.str y)->PM (QF [PV k,Pu y])=true:=λ{k y} h=>by
   have h:=mi.mp h;unfold PM;simp [QZ,Sk,Q6,Ry,h]
  have e2:(QF [PV n,Pu x]).eqv (QF [PV n',Pu x'])=(n==n' && x==x'):=by
   simp only [PN,Rg,cL,aT,P7]
  have hz:(QF (Pu w::PV n::Pu x::r)).eqv (QF (Pu w'::PV n'::Pu x'::r'))=true->(x==x')=true/\(n==n')=true:=λz=>by
   simp only [PN,Rg,cL,aT,Qh] at z;exact⟨z.2.2.1,z.2.1⟩
  have cm:∀a b:Str,(a==b)=(b==a):=λa b=>T1;simp only [kQ,cm w "rule",cm w "end",cm w "hold",cm w "lift",cm w' "rule",cm w' "end",cm w' "hold",cm w' "lift"] at fin;simp only [c1,c2,e2,pr hx,pr hx',true_and];generalize (QF (Pu w::PV n::Pu x::r)).eqv (QF (Pu w'::PV n'::Pu x'::r'))=A at*;generalize (x==x')=B at*;generalize (w==("paper":Str))=C at*;generalize (w'==("paper":Str))=C' at*;generalize (w==("leave":Str))=L at*;generalize (w'==("leave":Str))=L' at*;generalize (("rule":Str)==w || ("end":Str)==w)=R at*;generalize (("rule":Str)==w' || ("end":Str)==w')=R' at*;generalize (("hold":Str)==w || ("lift":Str)==w)=D at*;generalize (("hold":Str)==w' || ("lift":Str)==w')=D' at*;generalize (n==n')=N at*;exact O5 C C' L L' R R' D D' N B A hz (λb=>Q (.bool b)) (fin rfl)
def n8(z:Str):Ww:=match qI z with
 | .ok l=>.tuple [.tuple l,.none]
 | .error n=>.tuple [.none,.int (n:Int)]
def Gz:List Ww->(Ww->Prop)->Prop:=λds Q=>∃z,ds=[.str z]/\qJ z/\Q (n8 z)
theorem O7(T:Txt K mg t):aF P w K mg base CX0 4 t.a_AB t.d_AB ["_law_text"] (bh K Gz):=by
 have G_z:=@OR P w _ _ base _ T;have G_AA:=@Gy P w _ _ base _ T;refine T.F_AB.F.okD tW (λds Q h=>?_) (λ_ _ _ _ H O ds Q E hr h=>?_)
 ·obtain⟨d,rfl,_⟩:=h;rfl
 ·obtain⟨z,rfl,tz,q⟩:=h;refine'⟨_,?A,?B⟩
  case A=>
   refine' ai ?C ?D
   case C=>exact(nP (i:=1) tW.nd rfl Wu (bz ah))
   case' D=>refine' ai ?E ?F
   case E=>
    refine' aH ?G ?H aG
    case G=>exact(aD (fq hr) ft (dv 0) aw (av _))
    case' H=>refine' ak ?I
    case I=>exact(ax (bE (aa (bE ah) (aa ki ah))))
   case' F=>refine' ai ?J ?K
   case J=>
    refine' Eu RP rfl rfl T.n_enumerate (aa (fe (oQ (dv 0) aw)) ah) ?L (uP (nu cj (nu cj tj))) ?M
    case L=>exact(sG (n:=2) rfl (my (bP (i:=2) tW.nd rfl Wu) (my (bP (i:=3) tW.nd rfl Wu) qO)))
    case' M=>refine' ai ?N ?O
    case N=>exact(aY (i:=4) tW.nd rfl Wu (ar G_z hr T.F_z (aa (dv 3) ah)))
    case' O=>refine' ai ?P ?Q
    case P=>
     refine' aH ?R ?S aG
     case R=>exact(PW.pt (ke (aD qS va (dv 4) ki (av _)) (kG (cb (PE.imp (aR (y6 rfl) rfl T.n_any y8 (aA (fe (oF rfl Gx (dw 1) cj kW tx (λ_ _ _ _=>(bP (i:=0) Gx.nd rfl Wu)) (λ_ _ _ _=>kX) (λ_ _ _ _=>(ar G_AA hr T.F_AA (aa (dv 0) (aa (dv 1) ah)))))) aB)) (aE ny))))))
     case' S=>refine' ak ?T
     case T=>exact(ax (bE (aa ki (aa (dv 2) ah))))
    case' Q=>refine' ak ?U
    case U=>exact(sZ (i:=1) (pv 1) (dv 4))
   case' K=>refine' ak ?V
   case V=>exact(ax (bE (aa (PE.imp (cE lZ rfl T.n_tuple k7 (qV (dw 1) aB)) (aE l8)) (aa ki ah))))
  case B=>
  clear hr T G_z G_AA;walk_at "a";have hr:=tz.rows;have hf:=tz.few;unfold n8 qI at q;unfold n6 at q hr hf;by_cases h0:z.length=0
  ·have e0:z=Pr "":=by
    have:z.cps.toList=[]:=SW (by rw [<-nF];exact h0);exact pN this
   rw [Wt h0] at q;rw [Wt (by rw [e0];simp)];exact q
  ·rw [Ws (λz=>h0 (by
    have z:=eq_of_beq z;rw [z];decide+kernel))]
   rw [Ws h0] at q hr hf;refine⟨td,by have:=tz.len;omega,?_⟩;generalize Txt.split z (Pr "\n")=rows at*;refine⟨λi δ=>∃(acc:List Ww)(o2 o3 o4:Option Sl),(∀d∈acc,bo d)/\acc.length=i/\run [] 0 rows=run acc i (rows.drop i)/\δ=[some (Sl.v (Pu z)),some (Sl.o acc),o2,o3,o4],⟨[],_,_,_,(λd h=>by cases h),rfl,rfl,rfl⟩,?_,?_⟩
   ·rintro i x δ hx ⟨acc,o2,o3,o4,ha,hl,hrun,rfl⟩;rw [vf,Rx] at hx;obtain⟨r,er,rfl⟩:∃r,rows[i]?=some r/\x= .tuple [.int (i:Int),.str r]:=by
     cases e:rows[i]? with
     | none=>rw [e] at hx;cases hx
     | some r=>
      rw [e] at hx;simp only [Qv,P0,QK] at hx;exact⟨r,rfl,hx.symm⟩
    have hi:i < rows.length:=(Qu.mp er).1;have ed:rows.drop i=r::rows.drop (i+1):=by
     rw [SD hi,(Qu.mp er).2]
    have hrm:r∈rows:=Rr er;rw [ed,wj] at hrun;walk_at "a";refine⟨r,rfl,hr r hrm,λd hd' e=>?_,λh=>?_⟩
    ·rw [show mP r=some d by rw [<-e];exact BS hd'] at hrun;dsimp only at hrun⊢;rw [Ws (show ¬mn d=true by cases hd' <;> exact λz=>by cases z)];refine⟨Ce,mK (λo=>.bool (j8 o d)) (λo ho R' hR=>?_) ⟨acc.map λo=>j8 o d,by rw [Rb];rfl,?_⟩⟩
     ·walk_at "a";exact⟨o,d,rfl,pS (ha o ho),pS hd',hR⟩
     ·have ea:(acc.map λo=>j8 o d).any id=acc.any λo=>j8 o d:=by rw [Vp];rfl
      by_cases hq:(acc.any λo=>j8 o d)=true
      ·rw [Wt hq] at hrun;rw [Wt (ea.trans hq)];rw [hrun] at q;exact q
      ·rw [Ws hq] at hrun;rw [Ws (λz=>hq (ea.symm.trans z))];refine⟨Ce,acc++[d],λx hx=>?_,by rw [Rf];simp;omega,hrun,rfl,_,rfl⟩;rcases Rt.mp hx with h | h
       ·exact ha x h
       ·rw [Rc.mp h];exact hd'
    ·rw [show mP r=none from Gw h] at hrun;dsimp only at hrun⊢;rw [Wt (show mn R8=true from rfl)];rw [hrun] at q;exact q
   ·rintro δ ⟨acc,o2,o3,o4,ha,hl,hrun,rfl⟩;walk_at "a";rw [hrun,ve,PD,RK (PQ _)] at q;exact q
end
theorem GA:bR (az vM) ["_law_pack_here","_law_rows","_law_at","_law_way"] ["_law_row"] 1 [] ⟨Qo,[(Pw ".0",Yr),(Pw "_law_row",Yr)],false,false,[]⟩:= .of
section
variable {P:WM} {w:WO} {K:Pt} {mg:Str->Option Wx} {base:WL} {t:k9}
def Sm(m:Nat)(z:Str):Prop:=z.length<=m/\QX z=true
instance {m:Nat} {z:Str}:Decidable (Sm m z):=by unfold Sm;infer_instance
def bO(ws:List Str):Nat:=(ws.map λp=>p.length+1).sum
theorem oV{a b:List Str}:bO (a++b)=bO a+bO b:=by unfold bO;rw [RG,UG]
theorem nh{a:Str}{b:List Str}:bO (a::b)=a.length+1+bO b:=by unfold bO;rw [Py,Sa]
theorem pT:∀{ws:List Str},(ws.map λp:Str=>p.length).sum+ws.length=bO ws
 | []=>rfl
 | a::l=>by
  have:=pT (ws:=l);rw [nh,Py,Sa,Px];omega
theorem sg(c:Nat):∀{ws:List Str},ws≠[]->(lJ c (ws.map λp=>p.cps.toList)).length+1=bO ws
 | [a],_=>by rw [nh,nF];rfl
 | a::b::r,_=>by
  have:=sg c (ws:=b::r) Wv;rw [nh,<-this,nF];show(a.cps.toList++c::lJ c ((b::r).map λp=>p.cps.toList)).length+1=_;rw [Rf,Px];omega
theorem qK{c:Nat}{ws:List Str}:(Txt.join ⟨#[c]⟩ ws).cps.toList=lJ c (ws.map λp=>p.cps.toList):=by
 rw [show Txt.join ⟨#[c]⟩ ws=SM ⟨#[c]⟩ ws from RU _ _,qy]
theorem O8{z:Str}{c:Nat}:bO (Txt.split z ⟨#[c]⟩)=z.length+1:=by
 have hj:=v7 (z:=z) (c:=c);have hn:Txt.split z ⟨#[c]⟩≠[]:=λe=>by
  have h1:=rG z c;rw [e] at h1;exact AL _ _ h1.symm
 have:=sg c hn;rw [<-this,<-qK,hj,nF]
theorem uk{ws:List Str}{m c:Nat}(hc:c < 0x110000)(h:∀p∈ws,QX p=true)(hm:bO ws<=m+1):Sm m (Txt.join ⟨#[c]⟩ ws):=by
 refine⟨?_,nQ.mpr λx hx=>?_⟩
 ·rw [nF,qK];by_cases hn:ws=[]
  ·rw [hn];exact Rv _
  ·have:=sg c hn;omega
 ·rw [qK] at hx;rcases ua hx with z | ⟨p,hp,z⟩
  ·rw [z];exact hc
  ·obtain⟨q,hq,rfl⟩:=QO.mp hp;exact nQ.mp (h q hq) x z
theorem GB{ws:List Str}{n:Nat}:bO (ws.take n)<=bO ws:=by
 have:bO (ws.take n++ws.drop n)=bO ws:=by rw [Sy]
 rw [oV] at this;omega
theorem GC{ws:List Str}{n:Nat}:bO (ws.drop n)<=bO ws:=by
 have:bO (ws.take n++ws.drop n)=bO ws:=by rw [Sy]
 rw [oV] at this;omega
theorem GF{ws:List Str}{a:Nat}{hi:Option Int}:∃n,bA (ws.map Pu) (some (a:Int)) hi=((ws.drop a).take n).map .str:=by
 unfold bA;rw [PD];by_cases h:a<=ws.length
 ·rw [oH (i:=(a:Int)) Ce Ce,Q9];exact⟨_,by rw [Tc,Ue]⟩
 ·refine⟨0,?_⟩;rw [show HT.sIx ws.length 0 (some (a:Int))=ws.length by rw [HT.sIx_nat];omega,RK (by rw [PD];exact PQ _)];simp
theorem GG{a b:Str}(h:QX a=true)(h2:QX b=true):QX (a++b)=true:=nQ.mpr λc hc=>by
 simp only [tq,Sn,Rt] at hc;rcases hc with z | z
 ·exact nQ.mp h c z
 ·exact nQ.mp h2 c z
def GH:List Str:=["","paper","end 2000-01-01","leave 2000-01-01 a","END 2000-01-01 a","lift 2000-02-30 a"," ","-","end 2000-01-01 a b","hold 2000-01-01 a kind b Deep","paper 2000-01-01 a b d c","end  2000-01-01 a"]
theorem O9:∀z∈GH,Sm 30 z:=td
def Pa:List Ww->(Ww->Prop)->Prop:=λds Q=>∃(rows:List Str)(m:Nat),ds=[mh,.list (rows.map .str)]/\(∀z∈rows,Sm m z)/\27<=m/\m<=900/\rows.length<=1000/\∀z,Sm (m+11) z->Q (.str z)
theorem Pb(T:Txt K mg t):aF P w K mg base CX0 2 t.a_AD t.d_AD ["_law_pack_here","_law_rows"] (bh K Pa):=by
 have G_k:=@qC P w _ _ base _ T;refine T.F_AD.F.okD vO (λds Q h=>?_) (λ_ _ _ _ H O ds Q E hr h=>?_)
 ·obtain⟨rows,m,rfl,_⟩:=h;rfl
 ·obtain⟨rows,m,rfl,hn,m1,m2,rl,q⟩:=h;refine'⟨_,?A,?B⟩
  case A=>
   refine' ai ?C ?D
   case C=>
    generalize hE2_0:S8 _ _=ee2_0;exact nP (i:=2) vO.nd rfl Wu (qr (ds:=[.str "",.str "paper",.str "end 2000-01-01",.str "leave 2000-01-01 a",.str "END 2000-01-01 a",.str "lift 2000-02-30 a",.str " ",.str "-"]) (by first | (subst hE2_0;rfl))) (hs:=Dn (ds:=[.str "",.str "paper",.str "end 2000-01-01",.str "leave 2000-01-01 a",.str "END 2000-01-01 a",.str "lift 2000-02-30 a",.str " ",.str "-"]) (by first | (subst hE2_0;rfl)))
   case' D=>refine' ai ?E ?F
   case E=>exact(nP (i:=2) vO.nd rfl Wu (lr (dw 2) (df (fe (bz (nA (ds:=[.str "end 2000-01-01 a b",.str "hold 2000-01-01 a kind b Deep",.str "paper 2000-01-01 a b d c"]) (by rfl)))))))
   case' F=>refine' ai ?G ?H
   case G=>exact(sZ (i:=2) (pv 2) aw)
   case' H=>refine' ai ?I ?J
   case I=>
    refine' aH ?K ?L aG
    case K=>exact(PW.pt (ke (aD (cJ hr.units) cK (dv 1) (fe (bz ah)) (av _)) (kG (aD (cJ hr.units) cK (ar G_k hr T.F_k (aa (dv 0) (aa ae ah))) ae (av _)))))
    case' L=>refine' ak ?M
    case' M=>refine' ax ?N
    case' N=>refine' pC aO aP (dw 2) ?O
    case O=>exact(df (ar G_k hr T.F_k (aa (dv 0) (aa (PE.imp (aR kh rfl T.n_len Qq (qV (dw 2) aB)) (aE kq)) ah))))
   case' J=>refine' ai ?P ?Q
   case P=>
    refine' aY (i:=3) vO.nd rfl Wu ?R (hs:=oO)
    case R=>exact(fe (oQ (aj aO aP (dv 1) (ar G_k hr T.F_k (aa (dv 0) (aa (PE.imp (aR kh rfl T.n_len Qq (aA (dv 1) aB)) (aE kq)) ah)))) aw))
   case' Q=>refine' ai ?S ?T
   case S=>
    refine' aH ?U ?V aG
    case U=>exact(aD (fq hr) ft (aj aO aP (dv 3) ae) aw (av _))
    case' V=>refine' ak ?W
    case' W=>refine' ax ?X
    case X=>exact(aW sO tm aw (mJ aw (df (fe (kC (df (dv 3)) (bT ae) (bT ae))))))
   case' T=>refine' ai ?Y ?Z
   case Y=>
    refine' aH ?a ?b aG
    case a=>exact(aD (fq hr) ft (aj aO aP (dv 3) ae) aw (av _))
    case' b=>refine' ak ?c
    case' c=>refine' ax ?d
    case d=>exact(aW sO tm aw (mJ aw (df (fe (kC (df (dv 3)) (bT ae) (bT ae))))))
   case' Z=>refine' ai ?e ?f
   case e=>
    refine' aH ?g ?h aG
    case g=>exact(PW.pt (ke (aD (fq hr) ft (aj aO aP (dv 3) ae) aw (av _)) (kG (aD (fq hr) ft (aj aO aP (dv 3) ae) aw (av _)))))
    case' h=>refine' ak ?i
    case' i=>generalize hG28:VY _ _ _ _=eg28
    refine' ax ?j
    case' j=>subst hG28
    exact(mJ aw (df (fe (lr (df (fe (bz (aa (aj aO aP (dv 3) ae) (aa aw ah))))) (df (fe (kC (df (dv 3)) (bT ae) (bT ae))))))))
   case' f=>refine' ak ?k
   case k=>exact(ax (mJ aw (df (dv 3))))
  case B=>
  clear hr T G_k;simp only [bY,true_and,↓jd,↓jm,↓jn,↓jo,↓jq,↓jr,↓jt,↓je,↓fB,↓iK,↓jT,↓jU,↓jV,↓jW,↓jX,↓jY,↓iL,↓iM,↓iN,↓iO,↓iP,↓iQ,↓iR,↓iS,↓iT,↓iU,↓iV,↓iW,↓iX,↓iY,↓iZ,↓i3,↓i4,↓i5,↓i6,↓i7,↓i8,↓i9,↓ja,↓jb,cf,cN,cg,dD,fR,fS,cO,dE,dF,dM,dN,fX,dh,dC,bB,dI,dU,dW,dX,gf,dY,cn,eJ,eG,d3,dZ,dL,cP,di,fO,cG,cy,bI,dj,dm,dn,dz,fP,dA,dB,cH,cz,fQ,gK,gM,gN,gO,gP,gQ,gR,gS,gT,gU,gW,gX,gY,gZ,g6,g9,hJ,hV,hW,hX,hZ,h7,ic,ie,ig,ij,ik,il,ip,iq,iu,iw,ix,iy,iz,iA,iB,iC,iD,iE,iF,iG,iH,gL,d8,gc,eL,cV,gj,gh,d6,d7,d9,eg,ei,eD,eF,cT,eM,eN,eO,bS,fY,fZ,gb,dO,dP,fT,fU,dQ,fV,dR,fW,fj,fv,fw,gH,gI,gG,gJ,eZ,ff,fg,fh,cq,fu,fk,eX,eY,fx,fy,fz,fA,cu,iI,iJ,jg,jf,jh,ji,jj,jk,jl,fC,fD,jx,jv,jw,ju,jC,jy,jz,jA,jB,cX,fE,jG,jH,jD,jE,jF,jI,jJ,jK,fF,jL,jM,fG,jO,fH,jP,jQ,jR,jN,jS,fJ,fK,fL,fM,jZ,j3,j5,fN,bY,gx,gy,gz,gA,gB,gC,gD,gE,gF,ne_eq,bK,gp,gr,gs,gu,gk,gm,gn,cI,cR,dS,cQ,dJ,dH,dG,bJ,bU,bp,bZ,cC,b0,Py,Qf,Px,P5,PK,Qa,P6,PY,QD,QE,QP,QK,QQ,PR,PL,Qc,P8,P9,P0,exists_eq_left',exists_eq_left,exists_and_left,exists_and_right,Ql,Qm,Sl.v.injEq,Sl.o.injEq,Sl.k.injEq,Qp,Qj,Qr,Qe,Qk,PJ,and_true,true_and,QR,Qs,exists_const,decide_eq_true_eq,QS,QU,QH,QI,P4,decide_eq_false_iff_not,and_assoc,or_true,true_or,↓reduceIte,if_true,if_false,PZ,Qb,not_true_eq_false,not_false_eq_true,QL,QA,ite_true,ite_false,eq_self,exists_eq,reduceCtorEq,false_and,and_false,or_false,false_or,exists_false,Qv,Qy,cx,QG,QV,QC,QW,P7,QB,Qg,QM,aV,bw,bX,cU,eQ,aT,cL,eV,beq_self_eq_true,eR,eT,gi,aS,WN];have od:∀i:Int,0<=i->i < 12->∃x,atI [Pu (Pr ""),Pu (Pr "paper"),Pu (Pr "end 2000-01-01"),Pu (Pr "leave 2000-01-01 a"),Pu (Pr "END 2000-01-01 a"),Pu (Pr "lift 2000-02-30 a"),Pu (Pr " "),Pu (Pr "-"),Pu (Pr "end 2000-01-01 a b"),Pu (Pr "hold 2000-01-01 a kind b Deep"),Pu (Pr "paper 2000-01-01 a b d c"),Pu (Pr "end  2000-01-01 a")] i=some x/\Q x:=λi i0 i1=>by
   obtain⟨nm,hm,em⟩:=qE GH i0 (show i < ((12:Nat):Int) from i1);have s:=O9 nm hm;exact⟨_,em,q nm ⟨Qz s.1 Ce,s.2⟩⟩
  refine⟨(pR λz hz=>(hn z hz).2).1,td,?_⟩;rw [show(Ra (QY Pu rows)).eqv (Ra [])=decide (rows=[]) from qG (b:=[])];by_cases h0:rows=[]
  ·rw [Wt (decide_eq_true h0)];exact⟨tx,tx,od⟩
  ·rw [Ws (by simpa using h0)];intro i i0 i1;split
   ·exact⟨tx,tx,od⟩
   ·have rp:0 < rows.length:=Vd.mpr h0;refine⟨by rw [PD];omega,by rw [PD];omega,λk k0 k1=>?_⟩;obtain⟨z,hm,em⟩:=qE rows k0 (by rw [PD] at k1;exact k1);have hz:=hn z hm;have zl:=hz.1;have ts:=O8 (z:=z) (c:=32);have hb:∀p∈Txt.split z ⟨#[32]⟩,QX p=true:=λp hp=>uj hz.2 hp;refine⟨_,em,z,rfl,td,Ce,?_⟩;rw [pP];generalize Txt.split z ⟨#[32]⟩=ws at*;have fin:∀ys:List Str,(∀p∈ys,QX p=true)->∀a,bO ys<=z.length+1+a->a<=11->(ys.map λx:Str=>x.length).sum+ys.length*(⟨#[32]⟩:Str).length<=16777216/\Sm (z.length+a) (Txt.join ⟨#[32]⟩ ys):=λys h1 a h2 h3=>by
     have:=pT (ws:=ys);exact⟨by rw [show(⟨#[32]⟩:Str).length=1 from rfl];omega,uk tx h1 Ce⟩
    have up:∀{a:Nat}{y:Str},a<=11->Sm (z.length+a) y->Q (.str y):=λh1 h2=>q _ ⟨Qz h2.1 Ce,h2.2⟩
    match ws with
    | []=>simp [bO] at ts
    | w0::rest=>
     have ok0:=hb w0 Wv;have qw:∀n m,∀p∈((w0::rest).drop n).take m,QX p=true:=λn m p hp=>hb p (R0 (RQ hp));have tr:∀n m,bO (((w0::rest).drop n).take m)<=z.length+1:=λn m=>by
      have a:=GB (ws:=(w0::rest).drop n) (n:=m);have b:=GC (ws:=w0::rest) (n:=n);omega
     obtain⟨n1,c1⟩:=GF (ws:=w0::rest) (a:=1) (hi:=some 3);obtain⟨n2,c2⟩:=GF (ws:=w0::rest) (a:=2) (hi:=some 4);simp only [Py,aV] at*;have c1:bA (Pu w0::QY Pu rest) (some 1) (some 3)=_:=c1;have c2:bA (Pu w0::QY Pu rest) (some 2) (some 4)=_:=c2;rw [c1,c2];have hd:∀pre:Str,Sm 5 pre->pre.length+(Txt.join ⟨#[32]⟩ (((w0::rest).drop 1).take n1)).length<=16777216/\Q (.str (pre++Txt.join ⟨#[32]⟩ (((w0::rest).drop 1).take n1))):=λpre hp=>by
      have f:=(fin _ (qw 1 n1) 0 (tr 1 n1) Ce).2;have a:=f.1;have b:=hp.1;exact⟨Ce,up (a:=5) Ce ⟨by rw [pF];omega,GG hp.2 f.2⟩⟩
     have dt:∀n,(∀p∈w0::Pr "2003-04-05"::((w0::rest).drop 2).take n,QX p=true)/\bO (w0::Pr "2003-04-05"::((w0::rest).drop 2).take n)<=z.length+1+11:=λn=>by
      refine⟨λp hp=>?_,?_⟩
      ·simp only [PH] at hp;rcases hp with rfl | rfl | hp
       ·exact ok0
       ·decide+kernel
       ·exact qw 2 n p hp
      ·rw [nh,nh,show(Pr "2003-04-05").length=10 by decide+kernel];rw [nh] at ts;have a:=GB (ws:=(w0::rest).drop 2) (n:=n);have b:=GC (ws:=rest) (n:=1);rw [show(w0::rest).drop 2=rest.drop 1 from rfl] at a⊢;omega
     have last:∀n,∃ys:List Str,Pu w0::Pu (Pr "2003-04-05")::QY Pu (((w0::rest).drop 2).take n)=ys.map .str/\(ys.map λx:Str=>x.length).sum+ys.length*(⟨#[32]⟩:Str).length<=16777216/\Q (.str (Txt.join ⟨#[32]⟩ ys)):=λn=>
      ⟨w0::Pr "2003-04-05"::((w0::rest).drop 2).take n,rfl,(fin _ (dt n).1 11 (dt n).2 Ce).1,up (a:=11) Ce (fin _ (dt n).1 11 (dt n).2 Ce).2⟩
     have l2:(QY Pu (((w0::rest).drop 2).take n2)).length<=1000:=by
      have a:=pT (ws:=((w0::rest).drop 2).take n2);have b:=tr 2 n2;rw [PD];omega
     refine⟨_,rfl,bK,?_⟩;rw [aT];split
     ·exact⟨_,rfl,(fin _ (qw 1 n1) 0 (tr 1 n1) Ce).1,hd _ td⟩
     ·refine⟨_,rfl,bK,?_⟩;rw [aT];split
      ·exact⟨_,rfl,(fin _ (qw 1 n1) 0 (tr 1 n1) Ce).1,hd _ td⟩
      ·refine⟨_,rfl,bK,?_⟩;rw [aT];split
       ·exact⟨_,rfl,Ce,last n2⟩
       ·refine⟨_,rfl,bK,?_⟩;rw [aT];split
        ·exact⟨_,rfl,Ce,last n2⟩
        ·have f:=fin (w0::rest) hb 0 Ce Ce;exact⟨w0::rest,rfl,f.1,up Ce f.2⟩
def Pc:List Ww->(Ww->Prop)->Prop:=λds Q=>∃(rows:List Str)(m:Nat),ds=[mh,.list (rows.map .str)]/\(∀z∈rows,Sm m z)/\27<=m/\m<=900/\rows.length<=990/\∀rows':List Str,(∀z∈rows',Sm (m+11) z)->bO rows'<=bO rows+(m+12)->Q (.list (rows'.map .str))
theorem Pd(T:Txt K mg t):aF P w K mg base CX0 3 t.a_AE t.d_AE ["_law_pack_here","_law_rows"] (bh K Pc):=by
 have G_k:=@qC P w _ _ base _ T;have G_AD:=@Pb P w _ _ base _ T;refine T.F_AE.F.okD BD (λds Q h=>?_) (λ_ _ _ _ H O ds Q E hr h=>?_)
 ·obtain⟨rows,m,rfl,_⟩:=h;rfl
 ·obtain⟨rows,m,rfl,hn,m1,m2,rl,q⟩:=h;refine'⟨_,?A,?B⟩
  case A=>
   refine' ai ?C ?D
   case C=>
    refine' aY (i:=2) BD.nd rfl Wu ?E (hs:=oO)
    case E=>exact(ar G_k hr T.F_k (aa (dv 0) (aa (aW cD cS (PE.imp (aR kh rfl T.n_len Qq (aA (dv 1) aB)) (aE kq)) ae) ah)))
   case' D=>refine' ai ?F ?G
   case F=>exact(aY (i:=3) BD.nd rfl Wu (ar G_k hr T.F_k (aa (dv 0) (aa ae ah))))
   case' G=>refine' ai ?H ?I
   case H=>
    refine' aH ?J ?K aG
    case J=>exact(aD qR ck (dv 3) ae (av _))
    case' K=>refine' ak ?L
    case' L=>refine' ax ?M
    case' M=>refine' fe ?N
    case' N=>refine' lr (df ?O) (df ?P)
    case O=>
     refine' fe ?Q
     case' Q=>refine' lr (df ?R) (df ?S)
     case R=>exact(fe (kC (df (dv 1)) kl (bT (dv 2))))
     case S=>exact(fe (bz (aa (ar G_AD hr T.F_AD (aa (dv 0) (aa (dv 1) ah))) ah)))
    case P=>exact(fe (kC (df (dv 1)) (bT (dv 2)) kl))
   case' I=>refine' ai ?T ?U
   case T=>
    refine' aH ?V ?W aG
    case V=>exact(aD (cJ hr.units) cK (dv 3) ae (av _))
    case' W=>refine' ak ?X
    case' X=>refine' ax ?Y
    case' Y=>refine' fe ?Z
    case' Z=>refine' lr (df ?a) (df ?b)
    case a=>
     refine' fe ?c
     case' c=>refine' lr (df ?d) (df ?e)
     case d=>exact(fe (kC (df (dv 1)) kl (bT (dv 2))))
     case' e=>refine' fe ?f
     case f=>exact(oF rfl GA (df (fe (kC (df (dv 1)) (bT (dv 2)) (bT (aW cD cS (dv 2) ae))))) cj kW tx (λ_ _ _ _=>(bP (i:=0) GA.nd rfl Wu)) (λ_ _ _ _=>kX) (λ_ _ _ _=>(aW sO tm (dv 0) aw)))
    case b=>exact(fe (kC (df (dv 1)) (bT (aW cD cS (dv 2) ae)) kl))
   case' U=>refine' ak ?g
   case' g=>refine' ax ?h
   case' h=>refine' pC aO aP (df ?i) ?j
   case i=>
    refine' fe ?k
    case' k=>refine' bz ?l
    case' l=>refine' aa ?m ?n
    case m=>exact(fe (lr (df (dv 1)) (df (fe (bz (aa aw ah))))))
    case' n=>refine' aa ?o ah
    case o=>exact(fe (lr (df (fe (bz (aa aw ah)))) (df (dv 1))))
   case j=>exact(df (ar G_k hr T.F_k (aa (dv 0) (aa ae ah))))
  case B=>
  clear hr T G_k G_AD;simp only [bY,true_and,↓jd,↓jm,↓jn,↓jo,↓jq,↓jr,↓jt,↓je,↓fB,↓iK,↓jT,↓jU,↓jV,↓jW,↓jX,↓jY,↓iL,↓iM,↓iN,↓iO,↓iP,↓iQ,↓iR,↓iS,↓iT,↓iU,↓iV,↓iW,↓iX,↓iY,↓iZ,↓i3,↓i4,↓i5,↓i6,↓i7,↓i8,↓i9,↓ja,↓jb,cf,cN,cg,dD,fR,fS,cO,dE,dF,dM,dN,fX,dh,dC,bB,dI,dU,dW,dX,gf,dY,cn,eJ,eG,d3,dZ,dL,cP,di,fO,cG,cy,bI,dj,dm,dn,dz,fP,dA,dB,cH,cz,fQ,gK,gM,gN,gO,gP,gQ,gR,gS,gT,gU,gW,gX,gY,gZ,g6,g9,hJ,hV,hW,hX,hZ,h7,ic,ie,ig,ij,ik,il,ip,iq,iu,iw,ix,iy,iz,iA,iB,iC,iD,iE,iF,iG,iH,gL,d8,gc,eL,cV,gj,gh,d6,d7,d9,eg,ei,eD,eF,cT,eM,eN,eO,bS,fY,fZ,gb,dO,dP,fT,fU,dQ,fV,dR,fW,fj,fv,fw,gH,gI,gG,gJ,eZ,ff,fg,fh,cq,fu,fk,eX,eY,fx,fy,fz,fA,cu,iI,iJ,jg,jf,jh,ji,jj,jk,jl,fC,fD,jx,jv,jw,ju,jC,jy,jz,jA,jB,cX,fE,jG,jH,jD,jE,jF,jI,jJ,jK,fF,jL,jM,fG,jO,fH,jP,jQ,jR,jN,jS,fJ,fK,fL,fM,jZ,j3,j5,fN,bY,gx,gy,gz,gA,gB,gC,gD,gE,gF,ne_eq,bK,gp,gr,gs,gu,gk,gm,gn,cI,cR,dS,cQ,dJ,dH,dG,bJ,bU,bp,bZ,cC,b0,Py,Qf,Px,P5,PK,Qa,P6,PY,QD,QE,QP,QK,QQ,PR,PL,Qc,P8,P9,P0,exists_eq_left',exists_eq_left,exists_and_left,exists_and_right,Ql,Qm,Sl.v.injEq,Sl.o.injEq,Sl.k.injEq,Qp,Qj,Qr,Qe,Qk,PJ,and_true,true_and,QR,Qs,exists_const,decide_eq_true_eq,QS,QU,QH,QI,P4,decide_eq_false_iff_not,and_assoc,or_true,true_or,↓reduceIte,if_true,if_false,PZ,Qb,not_true_eq_false,not_false_eq_true,QL,QA,ite_true,ite_false,eq_self,exists_eq,reduceCtorEq,false_and,and_false,or_false,false_or,exists_false,Qv,Qy,cx,QG,QV,QC,QW,P7,QB,Qg,QM,aV,bw,bX,cU,eQ,aT,cL,eV,beq_self_eq_true,eR,eT,gi,aS,WN];rw [PD];refine⟨Ce,Ce,λi i0 i1 g g0 g1=>?_⟩;obtain⟨k,rfl⟩:=Q2 i0
  have hk:k<=rows.length:=Ce
  have t1:=vX (ws:=rows) (k:=k);have t2:=pQ (ws:=rows) (k:=k);have sp:bO rows=bO (rows.take k)+bO (rows.drop k):=by rw [<-oV,Sy]
  have st:∀p∈rows.take k,Sm (m+11) p:=λp hp=>by
   have:=hn p (RQ hp);exact⟨Qz this.1 Ce,this.2⟩
  have sd:∀j,∀p∈rows.drop j,Sm (m+11) p:=λj p hp=>by
   have:=hn p (R0 hp);exact⟨Qz this.1 Ce,this.2⟩
  have sa:∀p∈rows,Sm (m+11) p:=λp hp=>by
   have:=hn p hp;exact⟨Qz this.1 Ce,this.2⟩
  have se:Sm (m+11) (Pr ""):=⟨by rw [show(Pr "").length=0 by decide+kernel];omega,td⟩;split
  ·refine⟨rows,m,rfl,hn,m1,m2,Ce,λo ho=>?_⟩;rw [t1,t2];have e:QY Pu (rows.take k)++[Pu o]++QY Pu (rows.drop k)=QY Pu (rows.take k++[o]++rows.drop k):=by
    rw [RG,RG];rfl
   dsimp only;rw [e];refine⟨by rw [PD,Rq];omega,by simp only [Rf,PD,Rq,RW,Px,P5];omega,q _ (λp hp=>?_) ?_⟩
   ·simp only [Rt,Rc] at hp;rcases hp with(h | h) | h
    ·exact st p h
    ·rw [h];exact ho
    ·exact sd k p h
   ·rw [oV,oV,nh];have:=ho.1;show bO (rows.take k)+(o.length+1+0)+_<=_;omega
  ·split
   ·have t3:bA (rows.map Pu) (some ((k:Int)+1)) none=(rows.drop (k+1)).map .str:=by
     rw [show(k:Int)+1=((k+1:Nat):Int) by omega];exact pQ
    have t4:bA (rows.map Pu) (some (k:Int)) (some ((k:Int)+1))=((rows.drop k).take 1).map .str:=by
     unfold bA;rw [PD,oH (i:=(k:Int)) Ce Ce,Q9,Tc,Ue];by_cases h:k+1<=rows.length
     ·rw [oH Ce Ce,show((k:Int)+1).toNat - k=1 by omega]
     ·rw [RK (by rw [PD];omega),U7,U7]
    rw [t1,t3,t4];have sp1:bO (rows.drop k)=bO ((rows.drop k).take 1)+bO (rows.drop (k+1)):=by
     rw [<-List.drop_drop,<-oV,Sy]
    have lt:((rows.drop k).take 1).length<=1:=List.length_take_le _ _;have s4:∀p∈(rows.drop k).take 1,Sm m p:=λp hp=>hn p (R0 (RQ hp));generalize (rows.drop k).take 1=xs at*;refine⟨by rw [PD];omega,mK (λy=>match y with | .str z=>.str (z++Pr " ") | _=>.none) (λx hx R hR=>?_) ?_⟩
    ·obtain⟨y,hy,rfl⟩:=QO.mp hx;have:=(s4 y hy).1;walk_at "a";exact⟨by rw [t8];omega,hR⟩
    ·have e:(xs.map Pu).map (λy=>match y with | Pu z=>Pu (z++Pr " ") | _=>R8)=(xs.map λz=>z++Pr " ").map .str:=by rw [Rb,Rb];rfl
     have e2:QY Pu (rows.take k)++(xs.map Pu).map (λy=>match y with | Pu z=>Pu (z++Pr " ") | _=>R8)++QY Pu (rows.drop (k+1))=QY Pu (rows.take k++(xs.map λz=>z++Pr " ")++rows.drop (k+1)):=by
      rw [e,RG,RG]
     rw [e2];refine⟨by simp only [PD,Rq];omega,by simp only [Rf,PD,Rq,RW];omega,q _ (λp hp=>?_) ?_⟩
     ·simp only [Rt,QO] at hp;rcases hp with(h | ⟨y,hy,rfl⟩) | h
      ·exact st p h
      ·have:=s4 y hy;exact⟨by rw [pF,t8];have:=this.1;omega,GG this.2 td⟩
      ·exact sd _ p h
     ·rw [oV,oV];have:bO (xs.map λz=>z++Pr " ")<=bO xs+1:=by
       match xs,lt with
       | [],_=>simp [bO]
       | [y],_=>simp only [Py,Qf,nh];rw [pF,t8];omega
      omega
   ·refine⟨Ce,Ce,λj j0 j1=>?_⟩;rcases(show j=0\/j=1 by omega) with rfl | rfl
    ·refine⟨_,aV,?_⟩;have:=q (rows++[Pr ""]) (λp hp=>by
      rcases Rt.mp hp with h | h
      ·exact sa p h
      ·rw [Rc.mp h];exact se) (by rw [oV];show bO rows+(0+1+0)<=_;omega)
     rw [RG] at this;exact this
    ·refine⟨_,bw,?_⟩;exact q (Pr ""::rows) (λp hp=>by
      rcases PH.mp hp with h | h
      ·rw [h];exact se
      ·exact sa p h) (by rw [nh];show 0+1+bO rows<=_;omega)
end
theorem BU:bR (az vH) ["_law_found","_law_due_here"] ["_law_one","_law_other"] 2 [] ⟨Qo,[ (Pw ".0",Yr),(Pw "_law_one",Yr),(Pw "_law_other",Yr),(Pw "_law_same",Qw)],false,false,[]⟩:= .of
section
variable {P:WM} {w:WO} {K:Pt} {mg:Str->Option Wx} {base:WL} {t:k9}
def BV:Ww->Prop
 | .bool _=>True
 | .int _=>True
 | .str z=>QX z=true
 | _=>False
def oW:Nat->Ww->Prop
 | 0,x=>BV x
 | d+1,x=>BV x\/∃xs,x= .tuple xs/\xs.length<=1000/\∀y∈xs,oW d y
theorem GI:∀{xs:List Ww}{x:Ww},x∈pK xs xs->∃y∈xs,x= .tuple [y,y]
 | [],_,h=>by cases h
 | a::l,x,h=>by
  have h:x∈QF [a,a]::pK l l:=h;rcases PH.mp h with e | e
  ·exact⟨a,Wv,e⟩
  ·obtain⟨y,hy,e⟩:=GI e;exact⟨y,by simp [hy],e⟩
def Pe(d:Nat):List Ww->(Ww->Prop)->Prop:=λds Q=>∃x,ds=[x,x]/\oW d x/\Q (.bool true)
theorem Pf{k:Nat}{f:WA}{fd:WJ}{ps:List Str}:aF P w K mg base CX0 k f fd ps (bh K λ_ _=>False):=⟨λvs H Q E uu70=>by obtain⟨_,_,_,_,_,h,_⟩:=uu70;exact h.elim,λ_ _ _ _ _ _ _ _ _ _ _ _ _ uu71=>by obtain⟨_,_,_,_,_,h,_⟩:=uu71;exact h.elim⟩
theorem GJ{d:Nat}{F:List Ww->(Ww->Prop)->Prop}(T:Txt K mg t)(G_t:aF P w K mg base CX0 d t.a_t t.d_t ["_law_found","_law_due_here"] (bh K F)):
 aF P w K mg base CX0 (d+1) t.a_t t.d_t ["_law_found","_law_due_here"] (bh K λds Q=>∃x,ds=[x,x]/\(BV x\/∃xs,x= .tuple xs/\xs.length<=1000/\∀y∈xs,∀R:Ww->Prop,R (.bool true)->F [y,y] R)/\Q (.bool true)):=by
 refine T.F_t.F.okD MP (λds Q h=>?_) (λ_ _ _ _ H O ds Q E hr h=>?_)
 ·obtain⟨x,rfl,_⟩:=h;rfl
 ·obtain⟨x,rfl,hx,q⟩:=h;refine'⟨_,?A,?B⟩
  case A=>
   refine' ai ?C ?D
   case C=>
    refine' aH ?E ?F aG
    case E=>exact(cb (mL (K':=K) (T:="tuple") rfl rfl T.n_isinstance lF (df (dv 1)) (lY (v:= .ty "tuple") rfl T.n_tuple k7 rfl)))
    case' F=>refine' ai ?G ?H
    case G=>
     refine' aH ?I ?J aG
     case I=>exact(PW.pt (ke (kj (cb (mL (K':=K) (T:="tuple") rfl rfl T.n_isinstance lF (df (dv 0)) (lY (v:= .ty "tuple") rfl T.n_tuple k7 rfl)))) (kG (aD (mH hr.units) mI (PE.imp (aR kh rfl T.n_len Qq (aA (dv 0) aB)) (aE kq)) (PE.imp (aR kh rfl T.n_len Qq (aA (dv 1) aB)) (aE kq)) (av _)))))
     case J=>refine' ak (ax k8)
    case' H=>refine' ak ?K
    case' K=>refine' ax ?L
    case L=>exact(PE.imp (aR (pq rfl) rfl T.n_all pw (aA (fe (Lx rfl BU rfl T.n_zip (aA (dv 0) (aA (dv 1) aB)) (uP (nu cj (nu cj tj))) K4 tx (λ_ _ _ _=>(sG (n:=2) rfl (my (bP (i:=0) BU.nd rfl Wu) (my (bP (i:=1) BU.nd rfl Wu) qO)))) (λ_ _ _ _=>kX) (λ_ _ _ _=>(PE.imp (lO G_t (hr.mono (PQ _)) rfl T.F_t (aa (dv 0) (aa (dv 1) ah))) C9)))) aB)) (aE ny))
   case' D=>refine' ak ?M
   case' M=>refine' ax ?N
   case N=>exact(kJ (j9 (cJ hr.units) cK (df (mL (K':=K) (T:="bool") rfl rfl T.n_isinstance lF (df (dv 0)) (lY (v:= .ty "bool") rfl T.n_bool sV rfl))) (df (mL (K':=K) (T:="bool") rfl rfl T.n_isinstance lF (df (dv 1)) (lY (v:= .ty "bool") rfl T.n_bool sV rfl))) (av _)) (lL (j9 (cJ hr.units) cK (df (dv 0)) (df (dv 1)) (av _))))
  case B=>
  clear hr T G_t;walk_at "a";simp only [uX,An];rcases hx with hs | ⟨xs,rfl,hl,hF⟩
  ·obtain⟨t0,nd,sh,ev⟩:pG x=false/\(∀y:Ww,¬x=Wm [(R8,y)])/\PM x=true/\x.eqv x=true:=by
    cases x with
    | bool b=>exact⟨rfl,(λ_ e=>by cases e),eT,by rw [eV];exact beq_self_eq_true _⟩
    | int i=>exact⟨rfl,(λ_ e=>by cases e),eR,by rw [cL];exact beq_self_eq_true _⟩
    | str z=>exact⟨rfl,(λ_ e=>by cases e),mi.mpr hs,by rw [aT];exact beq_self_eq_true _⟩
    | none=>exact hs.elim
    | list l=>exact hs.elim
    | tuple l=>exact hs.elim
    | dict l=>exact hs.elim
   refine⟨_,rfl,nd,?_⟩;rw [t0,Ws Qx];refine⟨_,rfl,nd,_,rfl,nd,?_⟩;rw [Wt Wv,ev];exact⟨sh,sh,q⟩
  ·have nd:∀y:Ww,¬QF xs=Wm [(R8,y)]:=λ_ e=>by cases e
   refine⟨_,rfl,nd,?_⟩;rw [show pG (.tuple xs)=true from rfl,Wt rfl];refine⟨_,rfl,nd,?_⟩;rw [Ws tx];refine⟨xs,.inr rfl,xs,.inr rfl,?_⟩;rw [Ws Wv];refine⟨xs,rfl,xs,rfl,rfl,Ce,qu (p:=λb=>Q (.bool b)) (λ_=>true) (λx hx R hR=>?_) ?_⟩
   ·obtain⟨y,hy,rfl⟩:=GI hx;walk_at "a";exact hF y hy R hR
   ·have e:∀l:List Ww,((l.map λ_=>true).all id)=true:=λl=>by rw [SK];exact Rj.mpr λ_ _=>rfl
    rw [e];exact q
theorem GK(T:Txt K mg t):∀n,aF P w K mg base CX0 (16+n) t.a_t t.d_t ["_law_found","_law_due_here"] (bh K (Pe n))
 | 0=>(GJ T (d:=15) Pf).imp λvs H Q E uu72=>by obtain⟨O,ds,Qd,a,b,⟨x,e,hx,q⟩,k⟩:=uu72;exact⟨O,ds,Qd,a,b,⟨x,e,.inl hx,q⟩,k⟩
 | n+1=>(GJ T (GK T n)).imp λvs H Q E uu73=>by obtain⟨O,ds,Qd,a,b,⟨x,e,hx,q⟩,k⟩:=uu73;exact⟨O,ds,Qd,a,b,⟨x,e,hx.imp id (λuu74=>by obtain⟨xs,e1,e2,e3⟩:=uu74;exact⟨xs,e1,e2,λy hy R hR=>⟨y,rfl,e3 y hy,hR⟩⟩),q⟩,k⟩
theorem Pg{d:Ww}(h:bo d):oW 3 d:=by
 have st:∀{z:Str}(n:Nat),QX z=true->oW n (.str z):=λn h=>by cases n;exact h;exact .inl h
 have it:∀{z:Int}(n:Nat),oW n (.int z):=λn=>by cases n;exact trivial;exact .inl trivial
 have bt:∀{z:Bool}(n:Nat),oW n (.bool z):=λn=>by cases n;exact trivial;exact .inl trivial
 have tp:∀{l:List Ww}{n:Nat},l.length<=1000->(∀x∈l,oW n x)->oW (n+1) (.tuple l):=λh1 h2=>.inr ⟨_,rfl,h1,h2⟩;have ac:∀{p:Ww->Prop}{a:Ww}{l:List Ww},p a->(∀x∈l,p x)->∀x∈a::l,p x:=λh1 h2=>List.forall_mem_cons.mpr ⟨h1,h2⟩;have an:∀{p:Ww->Prop},∀x∈([]:List Ww),p x:=λx hx=>by cases hx
 have wl:∀{u:Str}{l:List Str},u∈l->(∀z∈l,QX z=true)->QX u=true:=λh h2=>h2 _ h;have sn:∀{s:Ww},lU s->oW 1 s:=λh=>by
  cases h with
  | coming=>exact tp Wv (ac (st 0 td) an)
  | first h=>exact tp Wv (ac (st 0 td) (ac (st 0 h.ok) an))
  | last h=>exact tp Wv (ac (st 0 td) (ac (st 0 h.ok) an))
 cases h with
 | paper _ hx hk hm=>exact tp Wv (ac (st _ td) (ac (it _) (ac (st _ hx.ok) (ac (st _ hk.ok) (ac (tp (by rw [PD];have:=hm.len;omega) λx hx=>by obtain⟨m,hm',rfl⟩:=QO.mp hx;exact st _ (hm.nm m hm').ok) an)))))
 | two hw _ hx hy=>exact tp Wv (ac (st _ (wl hw td)) (ac (it _) (ac (st _ hx.ok) (ac (st _ hy.ok) an))))
 | rule _ hx hp=>
  refine tp Wv (ac (st _ td) (ac (it _) (ac (st _ hx.ok) (ac ?_ an))));cases hp with
  | wfl hw hk=>exact tp Wv (ac (st _ (wl hw td)) (ac (st _ hk.ok) an))
  | kg hw hk hs _ _ hu=>exact tp Wv (ac (st _ (wl hw td)) (ac (st _ hk.ok) (ac (sn hs) (ac (it _) (ac (st _ (wl hu td)) an)))))
 | one hw _ hx=>exact tp Wv (ac (st _ (wl hw td)) (ac (it _) (ac (st _ hx.ok) an)))
 | hold _ hx hg hy=>exact tp Wv (ac (st _ td) (ac (it _) (ac (st _ hx.ok) (ac (tp Wv (ac (st _ (wl hg td)) (ac (st _ hy.ok) an))) (ac (bt _) an)))))
theorem zk(T:Txt K mg t):lR K t.u_NoText:=⟨T.z1,T.z2,T.z3,T.z4,T.z5,T.z6,T.z7,T.z8⟩
def Ph(C:WA):Sp:=λvs H Q _=>∃(e dd:WA)(n:Int),vs=[.ref e]/\H e=some (.ext (kP e (.ref C) (some dd)))/\H dd=some (.xd [("row",.int n)])/\∀H',aq H H'->Q (.bl true) H'
theorem Pj(T:Txt K mg t):aF P w K mg base CX0 1 t.a_u t.d_u ["_law_e"] (Ph t.u_NoText):=by
 refine T.F_u.F.ok MQ (λvs H Q E h=>?_) (λcdv A outer s H vs Q E hr h=>?_)
 ·obtain⟨e,dd,n,rfl,_⟩:=h;rfl
 ·obtain⟨e,dd,n,rfl,he,hd,k⟩:=h;refine'⟨_,?A,?B⟩
  case A=>
   refine' kR ?C ?D
   case C=>
    refine' oZ ?E ?F oY
    case E=>exact(PW.pt (wB (wC (qM (aR (EV (K':=K) rfl) rfl T.n_isinstance lF (aQ (pv 0) (aQ (kn (v:= .ref t.u_NoText) rfl T.c_NoText rfl) bM))))) (wB (wC (qM (aR (EV (K':=K) rfl) rfl T.n_isinstance lF (aQ (pv 0) (aQ (lY (v:= .ty "ValueError") rfl T.n_ValueError IZ rfl) bM))))) (BZ (qM (aR IH rfl T.n_isinstance lF (aQ (EM (pv 0) rfl) (aQ (lY (v:= .ty "bool") rfl T.n_bool sV rfl) bM))))))))
    case' F=>refine' kA ?G
    case G=>refine' kS wq
   case' D=>refine' kR ?H ?I
   case H=>
    refine' oZ ?J ?K oY
    case J=>exact(qM (aR (EW (K':=K) rfl) rfl T.n_isinstance lF (aQ (pv 0) (aQ (uC (aQ (kn (v:= .ref t.u_GoneMaker) rfl T.c_GoneMaker rfl) (aQ (kn (v:= .ref t.u_Held) rfl T.c_Held rfl) (aQ (kn (v:= .ref t.u_MustStay) rfl T.c_MustStay rfl) (aQ (kn (v:= .ref t.u_NoCall) rfl T.c_NoCall rfl) (aQ (kn (v:= .ref t.u_NoDay) rfl T.c_NoDay rfl) bM)))))) bM))))
    case' K=>refine' kA ?L
    case L=>refine' kS wq
   case' I=>refine' kA ?M
   case' M=>refine' kS ?N
   case N=>exact(B1 (aR (EW (K':=K) rfl) rfl T.n_isinstance lF (aQ (pv 0) (aQ (uC (aQ (kn (v:= .ref t.u_NoDeed) rfl T.c_NoDeed rfl) (aQ (kn (v:= .ref t.u_NoLeave) rfl T.c_NoLeave rfl) (aQ (kn (v:= .ref t.u_NoNumber) rfl T.c_NoNumber rfl) (aQ (kn (v:= .ref t.u_NoPaper) rfl T.c_NoPaper rfl) (aQ (kn (v:= .ref t.u_Twice) rfl T.c_Twice rfl) bM)))))) bM))))
  case B=>
  walk_at "d";have hi:∀u:Wx,aJ (.int n) u->VH u=true:=λu uu75=>by obtain⟨_,h⟩:=uu75;rw [h];rfl
  refine⟨_,_,he,zk T,.ref t.u_NoText,λu h=>h,true,by unfold SH;rw [Wt Wv],?_⟩;rw [Ws tx];refine⟨_,_,he,zk T,.type "ValueError",λu h=>h,true,T.kv,?_⟩;rw [Ws tx];unfold AR;walk_at "d";refine⟨_,_,he,_,hd,zk T,T.xhd,T.xrow,.int n,rfl,hi,"bool",rfl,_,.int n,false,rfl,?_⟩;rw [Ws tx];refine⟨by rw [WN];decide,λp hp=>?_⟩;have n1:e≠p:=λz=>by rw [<-z,he] at hp;cases hp
  have e1:=(ay (H:=H) (a:=p) (o:=HO.tup [V.ref t.u_GoneMaker,V.ref t.u_Held,V.ref t.u_MustStay,V.ref t.u_NoCall,V.ref t.u_NoDay]) n1).trans he;refine⟨_,_,e1,[t.u_GoneMaker,t.u_Held,t.u_MustStay,t.u_NoCall,t.u_NoDay],bx,zk T,false,T.ka,?_⟩;rw [Ws tx];refine⟨by rw [WN];decide,λp2 hp2=>?_⟩;have n2:e≠p2:=λz=>by rw [<-z,e1] at hp2;cases hp2
  have e2:=(ay (H:=ao H p (HO.tup [V.ref t.u_GoneMaker,V.ref t.u_Held,V.ref t.u_MustStay,V.ref t.u_NoCall,V.ref t.u_NoDay])) (a:=p2) (o:=HO.tup [V.ref t.u_NoDeed,V.ref t.u_NoLeave,V.ref t.u_NoNumber,V.ref t.u_NoPaper,V.ref t.u_Twice]) n2).trans e1;refine⟨_,_,e2,[t.u_NoDeed,t.u_NoLeave,t.u_NoNumber,t.u_NoPaper,t.u_Twice],bx,zk T,false,T.kb,?_⟩;exact k _ ((aq.new hp).trans (aq.new hp2))
def GL:List Ww->(Ww->Prop)->Prop:=λds Q=>∃d x,ds=[d,x]/\(∀y,d≠ .dict [(.none,y)])/\((∃z,d= .str z/\qJ z/\x=n8 z)\/(∀z,d≠ .str z)/\x= .tuple [.none,.int 0])/\Q (.bool true)
theorem GN:∀{rs:List Str}{acc l:List Ww}{n:Nat},(∀d∈acc,bo d)->run acc n rs= .ok l->(∀d∈l,bo d)/\l.length=acc.length+rs.length
 | [],acc,l,n,h,e=>by injection e with e;rw [<-e];exact⟨h,rfl⟩
 | r::rs,acc,l,n,h,e=>by
  rw [wj] at e;cases ed:mP r with
  | none=>rw [ed] at e;cases e
  | some d=>
   rw [ed] at e;dsimp only at e;split at e
   ·cases e
   ·obtain⟨a,b⟩:=GN (acc:=acc++[d]) (λy hy=>by
     rcases Rt.mp hy with h1 | h1
     ·exact h y h1
     ·rw [Rc.mp h1];exact(OZ ed).1) e
    exact⟨a,by rw [b,Rf,Px];simp;omega⟩
theorem Pk(T:Txt K mg t):aF P w K mg base CX0 23 t.a_AC t.d_AC ["_law_thing","_law_due_here"] (bh K GL):=by
 have G_h:=@O4 P w _ _ base _ T;have G_u:=@Pj P w _ _ base _ T;have G_t:=@GK P w _ _ base _ T 4;refine T.F_AC.F.ok tX (λvs H Q E h=>?_) (λcdv A outer s H vs Q E hr h=>?_)
 ·obtain⟨O,ds,Qd,_,r,⟨d,x,rfl,_⟩,_⟩:=h;exact r.length
 ·obtain⟨O,ds,Qd,tr,r,⟨d,x,rfl,hd,hx,q⟩,k⟩:=h;obtain⟨v,u,rfl,r1,r2⟩:∃v u,vs=[v,u]/\Dt K H O v d/\Dt K H O u x:=by
   cases r with
   | cons r1 r2=>cases r2 with
    | cons r2 r3=>cases r3;exact⟨_,_,rfl,r1,r2⟩
  refine'⟨_,?A,?B⟩
  case A=>
   refine' kR ?C ?D
   case C=>refine' mz (i:=2) tX.nd rfl Wu pX
   case' D=>refine' kR ?E ?F
   case E=>refine' mz (i:=3) tX.nd rfl Wu pX
   case' F=>refine' kR ?G ?H
   case G=>exact(Mj (C:=t.u_NoText) (i:=4) (j:=3) G_h (hr.mono tx) rfl T.F_h.m T.F_h.kp T.F_h.b (λE'=>(aQ (pv 0) bM)) rfl rfl T.c_ArchiveError rfl T.xm_NoText.seen T.q_ArchiveError tx T.i_NoText_ArchiveError tX.nd rfl Wu Wu rfl rfl (λe=>(kA (mz (i:=2) tX.nd rfl Wu (pv 4)))))
   case' H=>refine' kR ?I ?J
   case I=>
    refine' oZ ?K ?L oY
    case K=>exact(p6 qS (qf aI (pv 1) cZ (λ_ _=>rfl)) pX (av _))
    case' L=>refine' kA ?M
    case' M=>refine' kS ?N
    case N=>exact(sA (p5 qS (pv 2) pX (av _)) (sr (lO G_t (hr.mono tx) rfl T.F_t (aQ (pv 3) (aQ (qf aI (pv 1) cZ (λ_ _=>rfl)) bM)))))
   case' J=>refine' kA ?O
   case' O=>refine' kS ?P
   case P=>exact(sA (p5 Cg (pv 2) pX (av _)) (sA (lO G_u (hr.mono tx) rfl T.F_u (aQ (pv 2) bM)) (sr (p5 uw (EM (pv 2) rfl) (qf aI (pv 1) cZ (λ_ _=>rfl)) (av _)))))
  case B=>
  walk_at "d";refine⟨_,rfl,O,[d],λy=>∃l,(∀d∈l,bo d)/\l.length<=1000/\y= .tuple l/\x= .tuple [.tuple l,.none],λn=>x= .tuple [.none,.int n],tr,.cons r1 .nil,⟨d,rfl,hd,λz e=>?_,λh=>?_⟩,?_,?_⟩
  ·rcases hx with⟨z',e2,tz,e3⟩ | ⟨hn,_⟩
   ·rw [e] at e2;injection e2 with e2;subst e2
    refine⟨tz,λl hl=>?_,λn hn=>?_⟩
    ·have a:=GN (λd h=>by cases h) hl;have few:=tz.few;refine⟨l,a.1,by rw [a.2];simpa using few,rfl,?_⟩;rw [e3];unfold n8;rw [hl]
    ·rw [e3];unfold n8;rw [hn]
   ·exact absurd e (hn z)
  ·rcases hx with⟨z',e2,_⟩ | ⟨_,hn⟩
   ·exact absurd e2 (h z')
   ·exact hn
  ·rintro y v2 H2 ⟨l,hl,ll,rfl,rfl⟩ s2 r3;obtain⟨a,xs,rfl,hs,rr⟩:=(Sh.dt (r2.mono s2)).tup;walk_at "d";obtain⟨xa,rfl,ra⟩:∃xa,xs=[xa,.non]/\Dt K H2 O xa (.tuple l):=by
    cases rr with
    | cons ra rb=>cases rb with
     | cons rb rc=>cases rc;cases rb;exact⟨_,rfl,ra⟩
   refine uH hs rfl ?_;rw [Wt rfl];refine uH hs rfl ?_;refine⟨O,[.tuple l,.tuple l],λb=>b= .bool true,λl h z=>?_,.cons r3 (.cons ra .nil),⟨.tuple l,rfl,.inr ⟨l,rfl,ll,λd hd=>Pg (hl d hd)⟩,rfl⟩,?_⟩
   ·cases h1:H l with
    | none=>exact tr l h h1
    | some o=>have:=s2 l o h1;rw [z] at this;cases this
   ·rintro b v3 H3 rfl s3 r4;exact k _ _ _ q (s2.trans s3) r4
  ·rintro n rfl dd H2 s2 hdd;refine⟨rfl,λe he=>?_⟩;have s3:=s2.trans (aq.new (o:=HO.ext (kP e (.ref t.u_NoText) (some dd))) he);obtain⟨a,xs,rfl,hs,rr⟩:=(Sh.dt (r2.mono s3)).tup;walk_at "d";obtain rfl:xs=[.non,.int n]:=by
    cases rr with
    | cons ra rb=>cases rb with
     | cons rb rc=>cases rc;cases rb;cases ra;rfl
   have nd:dd≠e:=λz=>by rw [z,he] at hdd;cases hdd
   have ed:=(ay (H:=H2) (a:=e) (o:=HO.ext (kP e (.ref t.u_NoText) (some dd))) nd).trans hdd;have ee:=bx (H:=H2) (a:=e) (o:=HO.ext (kP e (.ref t.u_NoText) (some dd)));generalize ao H2 e _=H3 at*;refine uH hs rfl ?_;rw [Ws (λz=>by cases z),Wt (λz=>by cases z)];refine⟨e,dd,n,rfl,ee,ed,λH4 s4=>⟨true,rfl,?_⟩⟩;rw [Wt rfl];unfold AR;walk_at "d";have hi:∀u:Wx,aJ (.int n) u->VH u=true:=λu uu76=>by obtain⟨_,h⟩:=uu76;rw [h];rfl
   refine⟨_,_,s4 _ _ ee,_,s4 _ _ ed,zk T,T.xhd,T.xrow,.int n,rfl,hi,uH (v:= .int n) (hs.keep λo h=>s4 _ _ h) rfl ⟨rfl,?_⟩⟩;rw [decide_eq_true rfl];exact k _ _ _ q (s3.trans s4) (.bl _)
end
theorem GO:bR (az tS) ["_law_script","_law_thing","_law_deeds","_law_k","_law_pack_here","_law_deed","_law_rows","_law_turn","_law_some","_law_text"] ["_law_other","_law_deed"] 1 [5] ⟨Qo,[ (Pw ".0",Yr),(Pw "_law_other",Yr),(Pw "_law_due",Qw),(Pw "_law_deed",Rh)],false,false,[]⟩:= .of
theorem GP:bR (az tS) ["_law_script","_law_thing","_law_deeds","_law_k","_law_pack_here","_law_deed","_law_rows","_law_turn","_law_some","_law_text"] ["_law_deed"] 1 [] ⟨Qo,[ (Pw ".0",Yr),(Pw "_law_deed",Yr),(Pw "_law_written",Qw)],false,false,[]⟩:= .of
section
variable {P:WM} {w:WO} {K:Pt} {mg:Str->Option Wx} {base:WL} {t:k9}
def F_AF:List Ww->(Ww->Prop)->Prop:=λds Q=>∃ns:List Int,ds=[mD (ns.map .int)]/\ns.length<=63/\(∀z∈ns,Rn z<=1048576)/\Q (.bool true)
def sp_law(K:Pt):Sp:=bh K F_AF
theorem start_law{K:Pt}{H:Hp}{a:WA}{ns:List Int}(hl:ns.length<=63)(hb:∀z∈ns,Rn z<=1048576)(hS:bg K H a (ns.map V.int)):sp_law K [.ref a] H (λv _=>v= .bl true) λ_ _ _=>False:=
 ⟨λ_=>False,[mD (ns.map .int)],λd=>d= .bool true,λ_ z=>z.elim,.cons (.scr (by
  rcases hS with h | h
  ·exact .inl ⟨h,λz=>z⟩
  ·exact .inr (.inr h)) (au.ints ns)) .nil,⟨ns,rfl,hl,hb,rfl⟩,λd v H' e _ r=>by subst e;cases r;rfl⟩
theorem si{d x:Ww}{Q:Ww->Prop}:GL [d,x] Q↔(∀y,d≠ .dict [(.none,y)])/\((∃z,d= .str z/\qJ z/\x=n8 z)\/(∀z,d≠ .str z)/\x= .tuple [.none,.int 0])/\Q (.bool true):=⟨λuu77=>by obtain⟨_,_,e,h⟩:=uu77;cases e;exact h,λh=>⟨_,_,rfl,h⟩⟩
theorem pU:Pr "\n"=⟨#[10]⟩:=td
theorem GQ{w x w' x':Str}{n n':Int}{r r':List Ww}:j8 (.tuple (.str w:: .int n:: .str x::r)) (.tuple (.str w':: .int n':: .str x'::r'))=((w==w' && (n==n' && (x==x' && Rg r r'))) || (x==x' && ((w==("paper":Str) && w'==("paper":Str)) || (w==("leave":Str) && w'==("leave":Str)) || (n==n' && ((kQ w "rule" "end" && kQ w' "rule" "end") || (kQ w "hold" "lift" && kQ w' "hold" "lift")))))):=by
 simp only [j8,PN,Rg]
theorem j8.comm{d e:Ww}(hd:qH d)(he:qH e):j8 d e=j8 e d:=by
 obtain⟨w,n,x,r,rfl,_⟩:=hd;obtain⟨w',n',x',r',rfl,_⟩:=he;rw [GQ,GQ,uS r r',T1 (a:=w),T1 (a:=n),T1 (a:=x)];generalize (kQ w "rule" "end")=a1;generalize (kQ w' "rule" "end")=a2;generalize (kQ w "hold" "lift")=a3;generalize (kQ w' "hold" "lift")=a4;generalize (w==("paper":Str))=a5;generalize (w'==("paper":Str))=a6;generalize (w==("leave":Str))=a7;generalize (w'==("leave":Str))=a8;rw [Ug a5,Ug a7,Ug a1,Ug a3]
def NQ(a b:Ww):Prop:=j8 a b=false
theorem GR:∀{l a:List Ww}{n:Nat},(∀d∈l,bo d)->(a++l).Pairwise NQ->run a n (l.map bf)= .ok (a++l)
 | [],a,n,_,_=>by rw [PY];rfl
 | d::l,a,n,h,p=>by
  rw [Py,wj,BS (h d Wv)];dsimp only;have e:a++d::l=(a++[d])++l:=by rw [Uk];rfl
  have q:¬(a.any λo=>j8 o d)=true:=λz=>by
   obtain⟨o,ho,hq⟩:=Tb.mp z;have:=(U2.mp p).2.2 o ho d Wv;unfold NQ at this;rw [this] at hq;cases hq
  rw [Ws q,e];exact GR (λy hy=>h y (by simp [hy])) (by rw [<-e];exact p)
theorem Pl{d:Ww}(h:bo d):10 ∉ (bf d).cps.toList:=λhc=>by
 obtain⟨_,hw⟩:=uc h;have e:(bf d).cps.toList=lJ 32 ((kF d).map λp=>p.cps.toList):=by unfold bf;rw [pP,qK]
 rw [e] at hc;rcases ua hc with z | ⟨p,hp,z⟩
 ·cases z
 ·obtain⟨q,hq,rfl⟩:=QO.mp hp;have:=(hw q hq).2 10 z;omega
theorem Pm{d:Ww}(h:bo d):0 < (bf d).length:=by
 obtain⟨w,n,x,r,rfl,_⟩:=oU h;have:(bf (.tuple (.str w:: .int n:: .str x::r))).cps.toList=lJ 32 ((w::ku n::x::lX r).map λp=>p.cps.toList):=by
  show(Txt.join (Pr " ") (w::ku n::x::lX r)).cps.toList=_;rw [pP,qK]
 have g:=sg 32 (ws:=w::ku n::x::lX r) Wv;rw [<-this,<-nF,nh,nh] at g;omega
theorem Pn{l:List Ww}(h:∀d∈l,bo d)(hl:l.length<=12)(p:l.Pairwise NQ):qJ (Txt.join (Pr "\n") (l.map bf))/\n8 (Txt.join (Pr "\n") (l.map bf))= .tuple [.tuple l,.none]/\bO (l.map bf)<=2412:=by
 have ht:bO (l.map bf)<=2412:=by
  have a:=pT (ws:=l.map bf);have b:=v9 (ws:=l.map bf) (m:=200) λz hz=>by
   obtain⟨d,hd,rfl⟩:=QO.mp hz;exact(ue (h d hd)).2
  rw [PD] at a b;omega
 have rows:n6 (Txt.join (Pr "\n") (l.map bf))=l.map bf:=by
  unfold n6;cases l with
  | nil=>rfl
  | cons d l=>
   have g:=sg 10 (ws:=(d::l).map bf) Wv;rw [<-qK,<-nF,<-pU,Py,nh] at g;have:=Pm (h d Wv);rw [Py,Ws Ce,pU];refine vV Wv λz hz=>?_;rw [<-Py (f:=bf)] at hz;obtain⟨e,he,rfl⟩:=QO.mp hz;exact Pl (h e he)
 have sm:=uk (ws:=l.map bf) (m:=2412) (c:=10) tx (λz hz=>by
  obtain⟨d,hd,rfl⟩:=QO.mp hz;exact(ue (h d hd)).1) Ce
 rw [<-pU] at sm;refine⟨⟨by have:=sm.1;omega,λr hr=>?_,by rw [rows,PD];omega⟩,?_,ht⟩
 ·rw [rows] at hr;obtain⟨d,hd,rfl⟩:=QO.mp hr;have:=ue (h d hd);exact⟨Ce,this.1⟩
 ·unfold n8 qI;rw [rows,GR h (by rw [P6];exact p),P6]
theorem GS{z:Str}(h:Sm 990 z):qJ z:=by
 refine⟨by have:=h.1;omega,λr hr=>?_,?_⟩
 ·unfold n6 at hr;split at hr
  ·cases hr
  ·rw [pU] at hr;exact⟨by have:=ui hr;have:=h.1;omega,uj h.2 hr⟩
 ·unfold n6;split
  ·exact Rv _
  ·have a:=S6 z (Pr "\n");have b:=h.1;omega
theorem ok_law(T:Txt K mg t):aF P w K mg base CX0 24 t.a_AF t.d_AF ["_law_script"] (sp_law K):=by
 have G_j:=@NA P w _ _ base _ T;have G_k:=@qC P w _ _ base _ T;have G_l:=@NJ P w _ _ base _ T;have G_r:=@OD P w _ _ base _ T;have G_s:=@OG P w _ _ base _ T;have G_b:=@OX P w _ _ base _ T;have G_AA:=@Gy P w _ _ base _ T;have G_AB:=@O7 P w _ _ base _ T;have G_AE:=@Pd P w _ _ base _ T;have G_AC:=@Pk P w _ _ base _ T;refine T.F_AF.F.okD mN (λds Q h=>?_) (λ_ _ _ _ H O ds Q E hr h=>?_)
 ·obtain⟨ns,rfl,_⟩:=h;rfl
 ·obtain⟨ns,rfl,hl,hb,q⟩:=h;refine'⟨_,?A,?B⟩
  case A=>
   refine' ai ?C ?D
   case C=>
    generalize hG2:S8 _ _=eg2;refine' Jn RP rfl ?E ?F cj ?G (hs:=by subst hG2;intro _;rfl)
    case E=>
     subst hG2;refine' fe ?H
     case' H=>refine' bz ?I
     case' I=>refine' aa ?J ?K
     case J=>exact((ki))
     case' K=>refine' aa ?L ?M
     case L=>exact((ae))
     case' M=>refine' aa ?N ?O
     case N=>exact((k8))
     case' O=>refine' aa ?P ?Q
     case P=>exact(((bE ah)))
     case' Q=>refine' aa ?R ?S
     case R=>exact(((fe (bz ah))))
     case' S=>refine' aa ?T ?U
     case T=>exact((Kg))
     case' U=>refine' aa ?V ?W
     case V=>exact(((fe (bz (aa aw ah)))))
     case' W=>refine' aa ?X ah
     case X=>exact(((bE (aa (bE (nA (ds:=[.str "end",.int 0,.str "a"]) (by rfl))) ah))))
    case F=>exact(bP (i:=1) mN.nd rfl Wu)
    case' G=>refine' ak ?Y
    case' Y=>refine' aH ?Z ?a aG
    case Z=>exact(kj (cb (ar G_AC hr T.F_AC (aa (dv 1) (aa (bE (aa ki (aa ae ah))) ah)))))
    case a=>refine' ak (ax k8)
   case' D=>refine' ai ?b ?c
   case b=>exact(nP (i:=2) mN.nd rfl Wu (bz ah))
   case' c=>refine' ai ?d ?e
   case d=>
    refine' Df RP rfl rfl T.n_range (aa (PE.imp (aR (Hw rfl) rfl T.n_max Wn (aA ae (aA (PE.imp (aR (Ck rfl) rfl T.n_min UW (aA (PE.imp (aR kh rfl T.n_len Qq (aA (dv 0) aB)) (aE Jr)) (aA ae aB))) (aE Aa)) aB))) (aE Aa)) ah) ?f cj ?g
    case f=>exact(bP (i:=3) mN.nd rfl Wu)
    case' g=>refine' ai ?h ?i
    case h=>exact(aY (i:=4) mN.nd rfl Wu (ar G_j hr T.F_j (aa (dv 0) (aa (dv 3) ah))))
    case' i=>refine' ai ?j ?k
    case j=>
     refine' aY (i:=5) mN.nd rfl Wu ?l (hs:=oO)
     case l=>exact(ar G_r hr T.F_r (aa (dv 4) (aa (ar G_l hr T.F_l (aa (ar G_j hr T.F_j (aa (dv 0) (aa (aW oj mT (dv 3) ae) ah))) (aa ae ah))) ah)))
    case' k=>refine' ak ?m
    case' m=>refine' aH ?n ?o aG
    case n=>exact(kj (cb (PE.imp (aR (y6 rfl) rfl T.n_any y8 (aA (fe (oF rfl GO (dw 2) cj kW tx (λ_ _ _ _=>(bP (i:=0) GO.nd rfl Wu)) (λ_ _ _ _=>kX) (λ_ _ _ _=>(ar G_AA hr T.F_AA (aa (dv 1) (aa (dv 0) ah)))))) aB)) (aE ny))))
    case' o=>refine' ak ?p
    case p=>exact(sZ (i:=2) (pv 2) (dv 5))
   case' e=>refine' ai ?q ?r
   case q=>exact(JM (i:=6) mN.nd rfl Wu (JL rfl GP (dw 2) cj kW tx (λ_ _ _ _=>(bP (i:=0) GP.nd rfl Wu)) (λ_ _ _ _=>kX) (λ_ _ _ _=>(ar G_s hr T.F_s (aa (dv 0) ah)))))
   case' r=>refine' ai ?s ?t
   case s=>
    refine' aH ?u ?v aG
    case u=>exact(PW.pt (ke (aD (mH hr.units) mI (ar G_b hr T.F_b (aa (bE ah) ah)) aw (av _)) (kG (aD (mH hr.units) mI (ar G_b hr T.F_b (aa (PE.imp (cE lZ rfl T.n_tuple k7 (qV (dw 2) aB)) (aE l8)) ah)) (mJ aw (df (dv 6))) (av _)))))
    case v=>refine' ak (ax k8)
   case' t=>refine' ai ?w ?x
   case w=>
    refine' aH ?y ?z aG
    case y=>exact(PW.pt (ke (kj (cb (ar G_AC hr T.F_AC (aa (mJ aw (df (dv 6))) (aa (bE (aa (PE.imp (cE lZ rfl T.n_tuple k7 (qV (dw 2) aB)) (aE l8)) (aa ki ah))) ah))))) (kG (kj (cb (ar G_AC hr T.F_AC (aa aw (aa (bE (aa (bE ah) (aa ki ah))) ah))))))))
    case z=>refine' ak (ax k8)
   case' x=>refine' ai ?A0 ?A1
   case A0=>exact(aY (i:=4) mN.nd rfl Wu (ar G_j hr T.F_j (aa (dv 0) (aa ae ah))))
   case' A1=>refine' ai ?A2 ?A3
   case A2=>
    refine' Az RP ?A4 ?A5
    case A4=>exact(aD pe ck (PE.imp (aR oz rfl T.n_len Qq (aA (mJ aw (df (dv 6))) aB)) (aE oJ)) ae (av _))
    case' A5=>refine' ak ?A6
    case A6=>exact(aY (i:=6) mN.nd rfl Wu (fe (kC (df (dv 6)) kl (bT (Kh ae)))))
   case' A3=>refine' ai ?A7 ?A8
   case A7=>
    refine' Df RP rfl rfl T.n_range (aa ae ah) ?A9 cj ?AA
    case A9=>exact(bP (i:=7) mN.nd rfl Wu)
    case' AA=>refine' ai ?AB ?AC
    case AB=>exact(aY (i:=8) mN.nd rfl Wu (ar G_AE hr T.F_AE (aa (dv 4) (aa (dv 6) ah))))
    case' AC=>refine' ai ?AD ?AE
    case AD=>
     refine' aH ?AF ?AG aG
     case AF=>exact(aD (cJ hr.units) cK (ar G_k hr T.F_k (aa (dv 4) (aa ae ah))) ae (av _))
     case' AG=>refine' ak ?AH
     case AH=>exact(aY (i:=8) mN.nd rfl Wu (ar G_AE hr T.F_AE (aa (dv 4) (aa (dv 8) ah))))
    case' AE=>refine' ai ?AI ?AJ
    case AI=>exact(aY (i:=9) mN.nd rfl Wu (mJ aw (df (dv 8))))
    case' AJ=>refine' ak ?AK
    case' AK=>refine' aH ?AL ?AM aG
    case AL=>exact(kj (cb (ar G_AC hr T.F_AC (aa (dv 9) (aa (ar G_AB hr T.F_AB (aa (dv 9) ah)) ah)))))
    case AM=>refine' ak (ax k8)
   case A8=>refine' ak (ax k8)
  case B=>
  clear G_j G_k G_l G_r G_s G_AE G_AA G_AB G_b G_AC hr T;walk_at "a";refine⟨λ_ δ=>∃o:Option Sl,δ=[some (Sl.v (mD (ns.map .int))),o,none,none,none,none,none,none,none,none],⟨_,rfl⟩,?_,?_⟩
  ·rintro j x δ hx ⟨o,rfl⟩;have hx:=Rr hx;have hh:(∀y,x≠ .dict [(.none,y)])/\∀z,x≠ .str z:=by
    simp only [PH,P1,or_false] at hx;rcases hx with rfl | rfl | rfl | rfl | rfl | rfl | rfl | rfl <;> exact⟨(λy e=>by cases e),λz e=>by cases e⟩
   simp only [si,true_and,↓jd,↓jm,↓jn,↓jo,↓jq,↓jr,↓jt,↓je,↓fB,↓iK,↓jT,↓jU,↓jV,↓jW,↓jX,↓jY,↓iL,↓iM,↓iN,↓iO,↓iP,↓iQ,↓iR,↓iS,↓iT,↓iU,↓iV,↓iW,↓iX,↓iY,↓iZ,↓i3,↓i4,↓i5,↓i6,↓i7,↓i8,↓i9,↓ja,↓jb,cf,cN,cg,dD,fR,fS,cO,dE,dF,dM,dN,fX,dh,dC,bB,dI,dU,dW,dX,gf,dY,cn,eJ,eG,d3,dZ,dL,cP,di,fO,cG,cy,bI,dj,dm,dn,dz,fP,dA,dB,cH,cz,fQ,gK,gM,gN,gO,gP,gQ,gR,gS,gT,gU,gW,gX,gY,gZ,g6,g9,hJ,hV,hW,hX,hZ,h7,ic,ie,ig,ij,ik,il,ip,iq,iu,iw,ix,iy,iz,iA,iB,iC,iD,iE,iF,iG,iH,gL,d8,gc,eL,cV,gj,gh,d6,d7,d9,eg,ei,eD,eF,cT,eM,eN,eO,bS,fY,fZ,gb,dO,dP,fT,fU,dQ,fV,dR,fW,fj,fv,fw,gH,gI,gG,gJ,eZ,ff,fg,fh,cq,fu,fk,eX,eY,fx,fy,fz,fA,cu,iI,iJ,jg,jf,jh,ji,jj,jk,jl,fC,fD,jx,jv,jw,ju,jC,jy,jz,jA,jB,cX,fE,jG,jH,jD,jE,jF,jI,jJ,jK,fF,jL,jM,fG,jO,fH,jP,jQ,jR,jN,jS,fJ,fK,fL,fM,jZ,j3,j5,fN,bY,gx,gy,gz,gA,gB,gC,gD,gE,gF,ne_eq,bK,gp,gr,gs,gu,gk,gm,gn,cI,cR,dS,cQ,dJ,dH,dG,bJ,bU,bp,bZ,cC,b0,Py,Qf,Px,P5,PK,Qa,P6,PY,QD,QE,QP,QK,QQ,PR,PL,Qc,P8,P9,P0,exists_eq_left',exists_eq_left,exists_and_left,exists_and_right,Ql,Qm,Sl.v.injEq,Sl.o.injEq,Sl.k.injEq,Qp,Qj,Qr,Qe,Qk,PJ,and_true,true_and,QR,Qs,exists_const,decide_eq_true_eq,QS,QU,QH,QI,P4,decide_eq_false_iff_not,and_assoc,or_true,true_or,↓reduceIte,if_true,if_false,PZ,Qb,not_true_eq_false,not_false_eq_true,QL,QA,ite_true,ite_false,eq_self,exists_eq,reduceCtorEq,false_and,and_false,or_false,false_or,exists_false,Qv,Qy,cx,QG,QV,QC,QW,P7,QB,Qg,QM,aV,bw,bX,cU,eQ,aT,cL,eV,beq_self_eq_true,eR,eT,gi,aS,WN];exact⟨hh.1,.inr hh.2,_,rfl⟩
  ·rintro δ ⟨o,rfl⟩;simp only [si,true_and,↓jd,↓jm,↓jn,↓jo,↓jq,↓jr,↓jt,↓je,↓fB,↓iK,↓jT,↓jU,↓jV,↓jW,↓jX,↓jY,↓iL,↓iM,↓iN,↓iO,↓iP,↓iQ,↓iR,↓iS,↓iT,↓iU,↓iV,↓iW,↓iX,↓iY,↓iZ,↓i3,↓i4,↓i5,↓i6,↓i7,↓i8,↓i9,↓ja,↓jb,cf,cN,cg,dD,fR,fS,cO,dE,dF,dM,dN,fX,dh,dC,bB,dI,dU,dW,dX,gf,dY,cn,eJ,eG,d3,dZ,dL,cP,di,fO,cG,cy,bI,dj,dm,dn,dz,fP,dA,dB,cH,cz,fQ,gK,gM,gN,gO,gP,gQ,gR,gS,gT,gU,gW,gX,gY,gZ,g6,g9,hJ,hV,hW,hX,hZ,h7,ic,ie,ig,ij,ik,il,ip,iq,iu,iw,ix,iy,iz,iA,iB,iC,iD,iE,iF,iG,iH,gL,d8,gc,eL,cV,gj,gh,d6,d7,d9,eg,ei,eD,eF,cT,eM,eN,eO,bS,fY,fZ,gb,dO,dP,fT,fU,dQ,fV,dR,fW,fj,fv,fw,gH,gI,gG,gJ,eZ,ff,fg,fh,cq,fu,fk,eX,eY,fx,fy,fz,fA,cu,iI,iJ,jg,jf,jh,ji,jj,jk,jl,fC,fD,jx,jv,jw,ju,jC,jy,jz,jA,jB,cX,fE,jG,jH,jD,jE,jF,jI,jJ,jK,fF,jL,jM,fG,jO,fH,jP,jQ,jR,jN,jS,fJ,fK,fL,fM,jZ,j3,j5,fN,bY,gx,gy,gz,gA,gB,gC,gD,gE,gF,ne_eq,bK,gp,gr,gs,gu,gk,gm,gn,cI,cR,dS,cQ,dJ,dH,dG,bJ,bU,bp,bZ,cC,b0,Py,Qf,Px,P5,PK,Qa,P6,PY,QD,QE,QP,QK,QQ,PR,PL,Qc,P8,P9,P0,exists_eq_left',exists_eq_left,exists_and_left,exists_and_right,Ql,Qm,Sl.v.injEq,Sl.o.injEq,Sl.k.injEq,Qp,Qj,Qr,Qe,Qk,PJ,and_true,true_and,QR,Qs,exists_const,decide_eq_true_eq,QS,QU,QH,QI,P4,decide_eq_false_iff_not,and_assoc,or_true,true_or,↓reduceIte,if_true,if_false,PZ,Qb,not_true_eq_false,not_false_eq_true,QL,QA,ite_true,ite_false,eq_self,exists_eq,reduceCtorEq,false_and,and_false,or_false,false_or,exists_false,Qv,Qy,cx,QG,QV,QC,QW,P7,QB,Qg,QM,aV,bw,bX,cU,eQ,aT,cL,eV,beq_self_eq_true,eR,eT,gi,aS,WN];refine⟨_,rfl,?_⟩;generalize hm:(if (if (12:Int) < ((QY PV ns).length:Int) then 12 else((QY PV ns).length:Int)) > 1 then if (12:Int) < ((QY PV ns).length:Int) then 12 else((QY PV ns).length:Int) else 1)=m
   have m16:m<=12:=by
    rw [<-hm]
    repeat' split
    all_goals omega
   have m1:1<=m:=by
    rw [<-hm]
    repeat' split
    all_goals omega
   clear hm;refine⟨Ce,Ce,?_⟩;refine⟨λi δ=>∃(acc:List Ww)(o3 o4 o5:Option Sl),(∀d∈acc,bo d)/\acc.length<=i/\acc.Pairwise NQ/\δ=[some (Sl.v (mD (ns.map .int))),o,some (Sl.o acc),o3,o4,o5,none,none,none,none],⟨[],_,_,_,(λd h=>by cases h),PQ _,.nil,rfl⟩,?_,?_⟩
   ·rintro i z δ hz ⟨acc,o3,o4,o5,ha,hl,hp,rfl⟩;obtain⟨hi,rfl⟩:=Ad hz;clear hz;simp only [si,true_and,↓jd,↓jm,↓jn,↓jo,↓jq,↓jr,↓jt,↓je,↓fB,↓iK,↓jT,↓jU,↓jV,↓jW,↓jX,↓jY,↓iL,↓iM,↓iN,↓iO,↓iP,↓iQ,↓iR,↓iS,↓iT,↓iU,↓iV,↓iW,↓iX,↓iY,↓iZ,↓i3,↓i4,↓i5,↓i6,↓i7,↓i8,↓i9,↓ja,↓jb,cf,cN,cg,dD,fR,fS,cO,dE,dF,dM,dN,fX,dh,dC,bB,dI,dU,dW,dX,gf,dY,cn,eJ,eG,d3,dZ,dL,cP,di,fO,cG,cy,bI,dj,dm,dn,dz,fP,dA,dB,cH,cz,fQ,gK,gM,gN,gO,gP,gQ,gR,gS,gT,gU,gW,gX,gY,gZ,g6,g9,hJ,hV,hW,hX,hZ,h7,ic,ie,ig,ij,ik,il,ip,iq,iu,iw,ix,iy,iz,iA,iB,iC,iD,iE,iF,iG,iH,gL,d8,gc,eL,cV,gj,gh,d6,d7,d9,eg,ei,eD,eF,cT,eM,eN,eO,bS,fY,fZ,gb,dO,dP,fT,fU,dQ,fV,dR,fW,fj,fv,fw,gH,gI,gG,gJ,eZ,ff,fg,fh,cq,fu,fk,eX,eY,fx,fy,fz,fA,cu,iI,iJ,jg,jf,jh,ji,jj,jk,jl,fC,fD,jx,jv,jw,ju,jC,jy,jz,jA,jB,cX,fE,jG,jH,jD,jE,jF,jI,jJ,jK,fF,jL,jM,fG,jO,fH,jP,jQ,jR,jN,jS,fJ,fK,fL,fM,jZ,j3,j5,fN,bY,gx,gy,gz,gA,gB,gC,gD,gE,gF,ne_eq,bK,gp,gr,gs,gu,gk,gm,gn,cI,cR,dS,cQ,dJ,dH,dG,bJ,bU,bp,bZ,cC,b0,Py,Qf,Px,P5,PK,Qa,P6,PY,QD,QE,QP,QK,QQ,PR,PL,Qc,P8,P9,P0,exists_eq_left',exists_eq_left,exists_and_left,exists_and_right,Ql,Qm,Sl.v.injEq,Sl.o.injEq,Sl.k.injEq,Qp,Qj,Qr,Qe,Qk,PJ,and_true,true_and,QR,Qs,exists_const,decide_eq_true_eq,QS,QU,QH,QI,P4,decide_eq_false_iff_not,and_assoc,or_true,true_or,↓reduceIte,if_true,if_false,PZ,Qb,not_true_eq_false,not_false_eq_true,QL,QA,ite_true,ite_false,eq_self,exists_eq,reduceCtorEq,false_and,and_false,or_false,false_or,exists_false,Qv,Qy,cx,QG,QV,QC,QW,P7,QB,Qg,QM,aV,bw,bX,cU,eQ,aT,cL,eV,beq_self_eq_true,eR,eT,gi,aS,WN];refine⟨ns,_,rfl,hb,Ce,Ce,ns,_,rfl,hb,Ce,Ce,rfl,λnms hN=>?_⟩
    obtain⟨a,b,c,d,e,rfl⟩:∃a b c d e,nms=[a,b,c,d,e]:=by
     match nms,hN.len with
     | [a,b,c,d,e],_=>exact⟨_,_,_,_,_,rfl⟩
    refine⟨a,b,c,d,e,rfl,hN.nm,hN.nd,λp hp'=>?_⟩;dsimp only;refine⟨Ce,mK (λo=>.bool (j8 p o)) (λo ho R' hR=>?_) ⟨acc.map λo=>j8 p o,by rw [Rb];rfl,?_⟩⟩
    ·walk_at "a";exact⟨p,o,rfl,pS hp',pS (ha o ho),hR⟩
    ·have ea:(acc.map λo=>j8 p o).any id=acc.any λo=>j8 p o:=by rw [Vp];rfl
     have hm:∀x∈acc++[p],bo x:=λx hx=>by
      rcases Rt.mp hx with h | h
      ·exact ha x h
      ·rw [Rc.mp h];exact hp'
     by_cases hq:(acc.any λo=>j8 p o)=true
     ·rw [Ws (by rw [ea,hq];decide)];exact⟨acc,ha,Ce,hp,rfl,_,rfl⟩
     ·rw [Wt (by rw [ea];simpa using hq)];refine⟨Ce,acc++[p],hm,by rw [Rf];simp;omega,?_,rfl,_,rfl⟩;refine U2.mpr ⟨hp,Wv,λx hx y hy=>?_⟩;rw [Rc.mp hy];unfold NQ;rw [j8.comm (pS (ha x hx)) (pS hp')];cases h:j8 p x
      ·rfl
      ·exact absurd (Tb.mpr ⟨x,hx,h⟩) hq
   ·rintro δ ⟨acc,o3,o4,o5,ha,hl,hp,rfl⟩;rw [Ae] at hl;simp only [si,true_and,↓jd,↓jm,↓jn,↓jo,↓jq,↓jr,↓jt,↓je,↓fB,↓iK,↓jT,↓jU,↓jV,↓jW,↓jX,↓jY,↓iL,↓iM,↓iN,↓iO,↓iP,↓iQ,↓iR,↓iS,↓iT,↓iU,↓iV,↓iW,↓iX,↓iY,↓iZ,↓i3,↓i4,↓i5,↓i6,↓i7,↓i8,↓i9,↓ja,↓jb,cf,cN,cg,dD,fR,fS,cO,dE,dF,dM,dN,fX,dh,dC,bB,dI,dU,dW,dX,gf,dY,cn,eJ,eG,d3,dZ,dL,cP,di,fO,cG,cy,bI,dj,dm,dn,dz,fP,dA,dB,cH,cz,fQ,gK,gM,gN,gO,gP,gQ,gR,gS,gT,gU,gW,gX,gY,gZ,g6,g9,hJ,hV,hW,hX,hZ,h7,ic,ie,ig,ij,ik,il,ip,iq,iu,iw,ix,iy,iz,iA,iB,iC,iD,iE,iF,iG,iH,gL,d8,gc,eL,cV,gj,gh,d6,d7,d9,eg,ei,eD,eF,cT,eM,eN,eO,bS,fY,fZ,gb,dO,dP,fT,fU,dQ,fV,dR,fW,fj,fv,fw,gH,gI,gG,gJ,eZ,ff,fg,fh,cq,fu,fk,eX,eY,fx,fy,fz,fA,cu,iI,iJ,jg,jf,jh,ji,jj,jk,jl,fC,fD,jx,jv,jw,ju,jC,jy,jz,jA,jB,cX,fE,jG,jH,jD,jE,jF,jI,jJ,jK,fF,jL,jM,fG,jO,fH,jP,jQ,jR,jN,jS,fJ,fK,fL,fM,jZ,j3,j5,fN,bY,gx,gy,gz,gA,gB,gC,gD,gE,gF,ne_eq,bK,gp,gr,gs,gu,gk,gm,gn,cI,cR,dS,cQ,dJ,dH,dG,bJ,bU,bp,bZ,cC,b0,Py,Qf,Px,P5,PK,Qa,P6,PY,QD,QE,QP,QK,QQ,PR,PL,Qc,P8,P9,P0,exists_eq_left',exists_eq_left,exists_and_left,exists_and_right,Ql,Qm,Sl.v.injEq,Sl.o.injEq,Sl.k.injEq,Qp,Qj,Qr,Qe,Qk,PJ,and_true,true_and,QR,Qs,exists_const,decide_eq_true_eq,QS,QU,QH,QI,P4,decide_eq_false_iff_not,and_assoc,or_true,true_or,↓reduceIte,if_true,if_false,PZ,Qb,not_true_eq_false,not_false_eq_true,QL,QA,ite_true,ite_false,eq_self,exists_eq,reduceCtorEq,false_and,and_false,or_false,false_or,exists_false,Qv,Qy,cx,QG,QV,QC,QW,P7,QB,Qg,QM,aV,bw,bX,cU,eQ,aT,cL,eV,beq_self_eq_true,eR,eT,gi,aS,WN];have l12:acc.length<=12:=Ce
    obtain⟨tz,ed,tt⟩:=Pn ha l12 hp;have te:=pT (ws:=acc.map bf);have rs:∀z∈acc.map bf,Sm 250 z:=λz hz=>by
     obtain⟨d,hd,rfl⟩:=QO.mp hz;have:=ue (ha d hd);exact⟨Ce,this.1⟩
    have ln:(Pr "\n").length=1:=td
    have sj:=uk (ws:=acc.map bf) (m:=2412) (c:=10) tx (λz hz=>(rs z hz).2) Ce;rw [<-pU] at sj;refine⟨Ce,mK (λd=>.str (bf d)) (λd hd R hR=>?_) ?_⟩
    ·walk_at "a";exact⟨d,rfl,ha d hd,hR⟩
    ·rw [show acc.map (λd=>Pu (bf d))=(acc.map bf).map .str by rw [Rb];rfl];have rl:(acc.map bf).length<=12:=by rw [PD];exact l12
     refine⟨[],rfl,(λd h=>by cases h),tx,td,td,?_⟩;rw [Ws td];refine⟨acc,rfl,ha,Ce,acc.map bf,rfl,by rw [ln];omega,mi.mpr sj.2,mi.mpr sj.2,?_⟩;rw [aT,Ws Wv];refine⟨acc.map bf,rfl,by rw [ln];omega,λ_=>trivial,tz,ed.symm,λ_=>trivial,GS td,?_,ns,12,rfl,hb,tx,tx,?_⟩
     ·unfold n8 qI;rw [show n6 (Pr "")=[] by decide+kernel];rfl
     generalize acc.map bf=rows0 at rs rl;refine⟨λm δ=>∃(rows:List Str),(∀z∈rows,Sm 250 z)/\rows.length<=12/\m=rows.length/\δ=[some (Sl.v (mD (ns.map .int))),o,some (Sl.o acc),o3,some (Sl.v mh),o5,some (Sl.v (Ra (rows.map .str))),none,none,none],⟨_,rows0,rs,rl,rfl,rfl⟩,?_⟩;rintro m δ ⟨rows,hr,hrl,rfl,rfl⟩;simp only [si,true_and,↓jd,↓jm,↓jn,↓jo,↓jq,↓jr,↓jt,↓je,↓fB,↓iK,↓jT,↓jU,↓jV,↓jW,↓jX,↓jY,↓iL,↓iM,↓iN,↓iO,↓iP,↓iQ,↓iR,↓iS,↓iT,↓iU,↓iV,↓iW,↓iX,↓iY,↓iZ,↓i3,↓i4,↓i5,↓i6,↓i7,↓i8,↓i9,↓ja,↓jb,cf,cN,cg,dD,fR,fS,cO,dE,dF,dM,dN,fX,dh,dC,bB,dI,dU,dW,dX,gf,dY,cn,eJ,eG,d3,dZ,dL,cP,di,fO,cG,cy,bI,dj,dm,dn,dz,fP,dA,dB,cH,cz,fQ,gK,gM,gN,gO,gP,gQ,gR,gS,gT,gU,gW,gX,gY,gZ,g6,g9,hJ,hV,hW,hX,hZ,h7,ic,ie,ig,ij,ik,il,ip,iq,iu,iw,ix,iy,iz,iA,iB,iC,iD,iE,iF,iG,iH,gL,d8,gc,eL,cV,gj,gh,d6,d7,d9,eg,ei,eD,eF,cT,eM,eN,eO,bS,fY,fZ,gb,dO,dP,fT,fU,dQ,fV,dR,fW,fj,fv,fw,gH,gI,gG,gJ,eZ,ff,fg,fh,cq,fu,fk,eX,eY,fx,fy,fz,fA,cu,iI,iJ,jg,jf,jh,ji,jj,jk,jl,fC,fD,jx,jv,jw,ju,jC,jy,jz,jA,jB,cX,fE,jG,jH,jD,jE,jF,jI,jJ,jK,fF,jL,jM,fG,jO,fH,jP,jQ,jR,jN,jS,fJ,fK,fL,fM,jZ,j3,j5,fN,bY,gx,gy,gz,gA,gB,gC,gD,gE,gF,ne_eq,bK,gp,gr,gs,gu,gk,gm,gn,cI,cR,dS,cQ,dJ,dH,dG,bJ,bU,bp,bZ,cC,b0,Py,Qf,Px,P5,PK,Qa,P6,PY,QD,QE,QP,QK,QQ,PR,PL,Qc,P8,P9,P0,exists_eq_left',exists_eq_left,exists_and_left,exists_and_right,Ql,Qm,Sl.v.injEq,Sl.o.injEq,Sl.k.injEq,Qp,Qj,Qr,Qe,Qk,PJ,and_true,true_and,QR,Qs,exists_const,decide_eq_true_eq,QS,QU,QH,QI,P4,decide_eq_false_iff_not,and_assoc,or_true,true_or,↓reduceIte,if_true,if_false,PZ,Qb,not_true_eq_false,not_false_eq_true,QL,QA,ite_true,ite_false,eq_self,exists_eq,reduceCtorEq,false_and,and_false,or_false,false_or,exists_false,Qv,Qy,cx,QG,QV,QC,QW,P7,QB,Qg,QM,aV,bw,bX,cU,eQ,aT,cL,eV,beq_self_eq_true,eR,eT,gi,aS,WN]
     have te2:=pT (ws:=rows);have su:=v9 (ws:=rows) (m:=250) λz hz=>(hr z hz).1;have sj2:=uk (ws:=rows) (m:=4000) (c:=10) tx (λz hz=>(hr z hz).2) Ce;rw [<-pU] at sj2;refine⟨rows,rfl,by rw [ln];omega,by have:=sj2.1;omega,?_⟩;split
     ·rename_i hgt;have rn:rows≠[]:=λz=>by rw [z] at hgt;exact absurd hgt td
      have:=Vd.mpr rn;exact⟨_,by rw [U3];omega,rows.dropLast,λz hz=>hr z (List.dropLast_subset _ hz),by rw [U3];omega,rfl,List.map_dropLast.symm⟩
     ·rename_i hle;have t251:bO rows<=251:=by
       by_cases rn:rows=[]
       ·rw [rn];decide
       ·have g:=sg 10 rn;rw [<-qK,<-nF,<-pU] at g;omega
      refine⟨λ_ δ=>∃o7 o8 o9:Option Sl,δ=[some (Sl.v (mD (ns.map .int))),o,some (Sl.o acc),o3,some (Sl.v mh),o5,some (Sl.v (Ra (rows.map .str))),o7,o8,o9],⟨_,_,_,rfl⟩,?_,?_⟩
      ·rintro j z δ hz ⟨o7,o8,o9,rfl⟩;obtain⟨hj,rfl⟩:=Ad hz;clear hz;simp only [si,bY,true_and,↓jd,↓jm,↓jn,↓jo,↓jq,↓jr,↓jt,↓je,↓fB,↓iK,↓jT,↓jU,↓jV,↓jW,↓jX,↓jY,↓iL,↓iM,↓iN,↓iO,↓iP,↓iQ,↓iR,↓iS,↓iT,↓iU,↓iV,↓iW,↓iX,↓iY,↓iZ,↓i3,↓i4,↓i5,↓i6,↓i7,↓i8,↓i9,↓ja,↓jb,cf,cN,cg,dD,fR,fS,cO,dE,dF,dM,dN,fX,dh,dC,bB,dI,dU,dW,dX,gf,dY,cn,eJ,eG,d3,dZ,dL,cP,di,fO,cG,cy,bI,dj,dm,dn,dz,fP,dA,dB,cH,cz,fQ,gK,gM,gN,gO,gP,gQ,gR,gS,gT,gU,gW,gX,gY,gZ,g6,g9,hJ,hV,hW,hX,hZ,h7,ic,ie,ig,ij,ik,il,ip,iq,iu,iw,ix,iy,iz,iA,iB,iC,iD,iE,iF,iG,iH,gL,d8,gc,eL,cV,gj,gh,d6,d7,d9,eg,ei,eD,eF,cT,eM,eN,eO,bS,fY,fZ,gb,dO,dP,fT,fU,dQ,fV,dR,fW,fj,fv,fw,gH,gI,gG,gJ,eZ,ff,fg,fh,cq,fu,fk,eX,eY,fx,fy,fz,fA,cu,iI,iJ,jg,jf,jh,ji,jj,jk,jl,fC,fD,jx,jv,jw,ju,jC,jy,jz,jA,jB,cX,fE,jG,jH,jD,jE,jF,jI,jJ,jK,fF,jL,jM,fG,jO,fH,jP,jQ,jR,jN,jS,fJ,fK,fL,fM,jZ,j3,j5,fN,bY,gx,gy,gz,gA,gB,gC,gD,gE,gF,ne_eq,bK,gp,gr,gs,gu,gk,gm,gn,cI,cR,dS,cQ,dJ,dH,dG,bJ,bU,bp,bZ,cC,b0,Py,Qf,Px,P5,PK,Qa,P6,PY,QD,QE,QP,QK,QQ,PR,PL,Qc,P8,P9,P0,exists_eq_left',exists_eq_left,exists_and_left,exists_and_right,Ql,Qm,Sl.v.injEq,Sl.o.injEq,Sl.k.injEq,Qp,Qj,Qr,Qe,Qk,PJ,and_true,true_and,QR,Qs,exists_const,decide_eq_true_eq,QS,QU,QH,QI,P4,decide_eq_false_iff_not,and_assoc,or_true,true_or,↓reduceIte,if_true,if_false,PZ,Qb,not_true_eq_false,not_false_eq_true,QL,QA,ite_true,ite_false,eq_self,exists_eq,reduceCtorEq,false_and,and_false,or_false,false_or,exists_false,Qv,Qy,cx,QG,QV,QC,QW,P7,QB,Qg,QM,aV,bw,bX,cU,eQ,aT,cL,eV,beq_self_eq_true,eR,eT,gi,aS,WN];refine⟨rows,250,rfl,hr,tx,tx,Ce,λr1 h1 t1=>?_⟩
       dsimp only;intro g g0 g1;have fin:∀ys:List Str,(∀z∈ys,QX z=true)->bO ys<=900->(ys.map λx:Str=>x.length).sum+ys.length*(Pr "\n").length<=16777216/\Gz [Pu (Txt.join (Pr "\n") ys)] λd=>(∀(y:Ww),True)/\(qJ (Txt.join (Pr "\n") ys)/\d=n8 (Txt.join (Pr "\n") ys)\/(∀(z:Str),¬Txt.join (Pr "\n") ys=z)/\d=QF [R8,PV 0])/\∃x,some (Sl.v (Pu (Txt.join (Pr "\n") ys)))=x:=λys hy ht=>by
        have a:=pT (ws:=ys);have s:=uk (ws:=ys) (m:=990) (c:=10) tx hy Ce;rw [<-pU] at s;have tk:=GS s;exact⟨by rw [ln];omega,_,rfl,tk,λ_=>trivial,.inl ⟨tk,rfl⟩,_,rfl⟩
       have a1:=pT (ws:=r1);split
       ·exact⟨r1,261,rfl,h1,tx,tx,Ce,λr2 h2 t2=>⟨r2,rfl,fin r2 (λz hz=>(h2 z hz).2) Ce⟩⟩
       ·exact⟨r1,rfl,fin r1 (λz hz=>(h1 z hz).2) Ce⟩
      ·rintro δ ⟨o7,o8,o9,rfl⟩;walk_at "a";exact q
end
end K60
namespace PySem.W.Fast
def tw163033111582397783:=0
def tw2766203834023924476:=0
def tw12364546244023545327:=0
def tw7359765094920356454:=0
def tw12837122686997265281:=0
def tw1809204983446817735:=0
def tw549837567827138106:=0
def tw3233010438465952534:=0
def tw3532166270212672011:=0
def tw16753334392963119087:=0
def tw17950621820422187783:=0
def tw8737672679112937268:=0
def tw4606247711783653045:=0
def tw1535657509523479891:=0
def tw9670725734895214892:=0
def tw2234825425878343720:=0
def tw16683647943036417202:=0
def tw8957300582248094051:=0
def tw9011268139068289640:=0
def tw15305051074304720222:=0
def tw327933194203904210:=0
def tw6756716645593589183:=0
def tw16700370702879798095:=0
def tw9428141368816505630:=0
def tw7064560626018123205:=0
def tw16528776749302408457:=0
def tw8659714672505587855:=0
def tw4272877330646311470:=0
def tw1260463316166702434:=0
def tw12157361781762917395:=0
def tw4891032981854706579:=0
def tw14861327847222304540:=0
def tw15303440818932995621:=0
def tw22696767994051775:=0
def tw12082344370451132647:=0
def tw15968666883756338934:=0
def tw5359044730172559112:=0
def tw3813392250006141019:=0
def tw10471989503932709513:=0
def tw13333189669789322405:=0
def tw16679403244261922023:=0
def tw3826448200380947590:=0
def tw12780918200741268269:=0
def tw4214258151872049622:=0
def tw1502682344028026687:=0
def tw4218348276235230142:=0
def tw2239601390827265344:=0
def tw5096521182366034361:=0
def tw10555100747308984568:=0
def tw2225850028310374608:=0
def tw4158639675977887726:=0
def tw13084021528867619823:=0
def tw13209209102836417350:=0
def tw569078690705190833:=0
def tw18176818227703131955:=0
def tw6481524502747144030:=0
def tw7861322007619518919:=0
def tw16460698344330363182:=0
def tw1227340606855826906:=0
def tw15382704963664997731:=0
def tw798342069488719647:=0
def tw925211586074014503:=0
def tw7367960141364560497:=0
def tw11426356313569558078:=0
def tw5498543836415481742:=0
def tw17285057710163271802:=0
def tw6337696610071698391:=0
def tw11609148291491006687:=0
def tw18112013822274861656:=0
def tw3114884598408982475:=0
def tw531954976782006660:=0
def tw10568615978719864264:=0
def tw13722355442715028359:=0
def tw11767369623925316179:=0
def tw9282269106676476261:=0
def tw6066598273433947912:=0
def tw10280883371470814500:=0
def tw10739194455637125051:=0
def tw8249663528716276690:=0
def tw13425150385266622552:=0
def tw7559908043733872977:=0
def tw7093183744496905784:=0
def tw12161263729073278693:=0
def tw1855282946233909267:=0
def tw789309900108308017:=0
def tw1879193484357143414:=0
def tw12011920026339014035:=0
def tw4889831169694019041:=0
def tw1155597670056880809:=0
def tw14147509373839094691:=0
def tw12418475435821565210:=0
def tw5685440827734982384:=0
def tw16610218344466450158:=0
def tw2077741897406781641:=0
def tw3110505682031391738:=0
def tw10237754025514877164:=0
def tw9451426755953926153:=0
def tw2947657655376365368:=0
def tw10288588469947492917:=0
def tw2415105568838548281:=0
def tw11916811305338460611:=0
def tw3478923126224011779:=0
def tw1152124871015084412:=0
def tw6890719159504617010:=0
def tw5142010743643156861:=0
def tw3269096231063612971:=0
def tw16389106911624797294:=0
def tw1363525245250161513:=0
def tw8204484314610901179:=0
def tw9514787657269649640:=0
def tw15422711153082952183:=0
def tw14821048113801003028:=0
def tw2130905995874957969:=0
def tw17322889385213620047:=0
def tw13441481869176142327:=0
def tw12346775640641294455:=0
def tw7460035650515933220:=0
def tw167663717647032180:=0
def tw5840705352397094775:=0
def tw14317457779910458210:=0
def tw17047590507760000200:=0
def tw1714715531569247493:=0
def tw12743574455706667198:=0
def tw8215186869853267105:=0
def tw13126147983614300894:=0
def tw3198850249738029432:=0
def tw15034680505588077091:=0
def tw7552052578531029113:=0
def tw8067852219157209488:=0
def tw18247816332207129235:=0
def tw4989834067500497746:=0
def tw5129573831864689484:=0
def tw968820994480620221:=0
def tw12212659852199024106:=0
def tw10222505467215021871:=0
def tw16354216997756280697:=0
def tw11940760275347823851:=0
def tw5702124440062500625:=0
def tw7875954874769121405:=0
def tw10984183811197595400:=0
def tw216810633685640613:=0
def tw17367769565883430494:=0
def tw10806072942148743434:=0
def tw5872512828905670063:=0
def tw3768418945657167260:=0
def tw16753733667613282722:=0
def tw1661080548886524445:=0
def tw18329829917365863345:=0
def tw4205054859089853169:=0
def tw11742293040465378928:=0
def tw16276421555177723406:=0
def tw14102931835688275717:=0
def tw9772477888583965851:=0
def tw7425969856437864579:=0
def tw17392345001551153341:=0
def tw12344462436351630099:=0
def tw11371845768420523826:=0
def tw12340415457690582757:=0
def tw9081756695753711686:=0
def tw5650763788539104536:=0
def tw13530354465403756263:=0
def tw17153412704770987159:=0
def tw5497048912030205548:=0
def tw16158231105096417147:=0
def tw11821890111583585267:=0
def tw6158299794497973289:=0
def tw1383551291429974671:=0
def tw8990300604406126897:=0
def tw15137308766857671183:=0
def tw11086341156872705912:=0
def tw17052811832429531892:=0
def tw7051629990463355505:=0
def tw3993233316907376940:=0
def tw936839253662571307:=0
def tw7022583172192844474:=0
def tw6541819237099581879:=0
def tw16915987138446336552:=0
def tw10807269679723322316:=0
def tw9616140442732575401:=0
def tw5884911721174048447:=0
def tw4051153308611830434:=0
def tw8948677599535322512:=0
def tw14978285010729046911:=0
def tw12855750681569877865:=0
def tw12066850316071848678:=0
def tw10963910441691026499:=0
def tw10767421634296839711:=0
def tw14486468677932323604:=0
def tw12635468982315389803:=0
def tw18286082459101055674:=0
def tw10323081877129392450:=0
def tw1939995622246373046:=0
def tw14740037152916980336:=0
def tw13689934828617325092:=0
def tw3544471077762406284:=0
def tw3291635283096555335:=0
def tw6829525676294923666:=0
def tw2492470550995938158:=0
def tw16739273316021274752:=0
def tw14296446349035839735:=0
def tw1098805528499170678:=0
def tw4774080346455965525:=0
def tw15021882199980274788:=0
def tw15396234272608401234:=0
def tw10579238500181058633:=0
def tw11142744471804598932:=0
def tw5552419436015169557:=0
def tw16994398961636067109:=0
def tw11717775108340524513:=0
def tw16812587010224612332:=0
def tw14924535876578107815:=0
def tw1716871554173248125:=0
def tw14945584295798866545:=0
def tw7113457842201602070:=0
def tw16450141868668711176:=0
def tw11528624949687722848:=0
def tw1901280532864917952:=0
def tw1221942203431531510:=0
def tw1855863215260037773:=0
def tw10118197578287633064:=0
def tw13960551281076537976:=0
def tw17940580836717015183:=0
def tw7833802251214608118:=0
def tw14293299022525982525:=0
def tw12435213484183843315:=0
def tw12794889934852794753:=0
def tw12308247117407924259:=0
def tw5909032109783252919:=0
def tw15372151308169783341:=0
def tw4061496084434518710:=0
def tw11633440301493030755:=0
def tw6966409767327029938:=0
def tw9894625215784117858:=0
def tw2951199073999498761:=0
def tw3519177168067352800:=0
def tw15874859624661645424:=0
def tw9891326352507505366:=0
def tw3793549524191131319:=0
def tw3785627915014227764:=0
def tw1719215116796396697:=0
def tw12275442069864001319:=0
def tw820521701040365093:=0
def tw6225883914064652380:=0
def tw4233605325234509781:=0
def tw10837755701635327580:=0
def tw15359093057229125273:=0
def tw9662746378808051315:=0
def tw8031573452213959606:=0
def tw3082707493506308953:=0
def tw16910714261717555099:=0
def tw10715152461152441905:=0
def tw9715944645366435548:=0
def tw3692222666618083745:=0
def tw17467937190700086525:=0
def tw7689187123073010137:=0
def tw2911988136852596337:=0
def tw12644743049771825052:=0
def tw3402304362312256569:=0
def tw1905149244538326045:=0
def tw10513440612526835310:=0
def tw1045371821068136232:=0
def tw9788961617271344938:=0
def tw3205946925744632059:=0
def tw11201745432699473494:=0
def tw10887477721598730331:=0
def tw4287885136182706250:=0
def tw6830130067083012369:=0
def tw5470518560700976657:=0
def tw4770087632006333693:=0
def tw4118501529859243612:=0
def tw16993591637677408954:=0
def tw13659112585054060730:=0
def tw6663763363170193091:=0
def tw17053916776256441670:=0
def tw11180613007466195226:=0
def tw14845058985606685192:=0
def tw6455718892001443967:=0
def tw42369526291349620:=0
def tw2742287041914074727:=0
def tw17332102024289804313:=0
def tw15383607366800781884:=0
def tw15221192034785551872:=0
def tw13611693435558327573:=0
def tw13002452918991380084:=0
def tw16310784975474127436:=0
def tw11078054025175562465:=0
def tw6601441571711077432:=0
def tw3431452578931193212:=0
def tw2591014487091250365:=0
def tw13121067930951043100:=0
def tw350797170280929667:=0
def tw15924087591674362664:=0
def tw14640729258508555321:=0
def tw3630381847661717467:=0
def tw7377592067749975427:=0
def tw14110706716489290996:=0
def tw8797924827717413539:=0
def tw12003835027017842880:=0
def tw7440997447153093977:=0
def tw4691390222503864939:=0
def tw18286878346474569966:=0
def tw16290993221924485384:=0
def tw10136748453574542663:=0
def tw12490258262743784397:=0
def tw8713369430166222813:=0
def tw16711644950260915488:=0
def tw9914161126390587919:=0
def tw13998238926663144307:=0
def tw7807962088611072977:=0
def tw1741972063041342568:=0
def tw3900832024630126093:=0
def tw13993992666465041029:=0
def tw5768932611427353455:=0
def tw8586759611131306608:=0
def tw3034563545862750378:=0
def tw7202432324897938559:=0
def tw9050793565399269292:=0
def tw9308542207055243024:=0
def tw6619260644719684324:=0
def tw14218284387925740745:=0
def tw3930268591109194681:=0
def tw14701391028297142453:=0
def tw18241115658957383387:=0
def tw16676608153276290741:=0
def tw4094247698942787532:=0
def tw17264297568772345013:=0
def tw15718239352570201902:=0
def tw5170419506319494503:=0
def tw2979369503854763793:=0
def tw18134286514585970258:=0
def tw9662939130002026948:=0
def tw9155845924033491193:=0
def tw6238483471588439748:=0
def tw5335420994507986695:=0
def tw5289903271237679412:=0
def tw3943526292164451262:=0
def tw17581109130722799825:=0
def tw16338733915503840913:=0
def tw15948391019428016143:=0
def tw15946678733234551660:=0
def tw13784012954750242710:=0
def tw11837800877689893330:=0
def tw14249243058780076638:=0
def tw2726138875802254268:=0
def tw5441333999288568906:=0
def tw16326658775281739421:=0
def tw10799219175618502273:=0
def tw1831030385794679217:=0
def tw1253117430867717233:=0
def tw16887250364025965358:=0
def tw8607110387280862943:=0
def tw4162218090844529010:=0
def tw9467683247638738538:=0
def tw7073199824057587964:=0
def tw14980765624123772038:=0
def tw2635154745758046236:=0
def tw15117194199421666889:=0
def tw13727024969958457074:=0
def tw9029748802833322156:=0
def tw7012337703852453505:=0
def tw440246788093215673:=0
def tw4055374730508648342:=0
def tw3592821746882142430:=0
def tw2803454991720396579:=0
def tw2357112125213610716:=0
def tw12427540909584837324:=0
def tw16944812699009777194:=0
def tw6581826863079397707:=0
def tw17874428971004973554:=0
def tw14621011198593207263:=0
def tw14462728387868979522:=0
def tw10165511945700449776:=0
def tw8399220939883992426:=0
def tw10118722336107409864:=0
def tw10956275723847545432:=0
def tw9533225495385074844:=0
def tw9468695073754702890:=0
def tw8740905072092800904:=0
def tw756251606333211988:=0
def tw7276476557849038002:=0
def tw6682725372098265185:=0
def tw17899491064544183232:=0
def tw17125326761321544678:=0
def tw16127214521042356866:=0
def tw12932496094295345578:=0
def tw12883135965348437394:=0
def tw12647495056099546773:=0
def tw18416486299340424394:=0
def tw779191626921868689:=0
def tw7677378083032944914:=0
def tw6150441941858001508:=0
def tw5672849891194962175:=0
def tw3619735054280907720:=0
def tw3061250107934429831:=0
def tw2577352409596193180:=0
def tw2070562186295711612:=0
def tw1950603088530398572:=0
def tw14033010700780731702:=0
def tw13556417910418740861:=0
def tw10924002639582844552:=0
def tw13431953398266475252:=0
def tw8916084827495292927:=0
def tw885112405998372985:=0
def tw7932402037321855751:=0
def tw506637218895111290:=0
def tw4710095822737544073:=0
def tw425683319505785864:=0
def tw2307646706624266604:=0
def tw16313909552620856398:=0
def tw14144612249648548875:=0
def tw13734971197767184359:=0
def tw11571320271196914649:=0
def tw6845460608002240152:=0
def tw5242468693200683314:=0
def tw400160861392584208:=0
def tw3892660353796542529:=0
def tw3883203295264299168:=0
def tw257160371569129345:=0
def tw16149011357073710918:=0
def tw15899341951068939209:=0
def tw14520374365528207710:=0
def tw11364004566571306286:=0
def tw10801400498471859586:=0
def tw10533698238776281969:=0
def tw9913097964674818714:=0
def tw9770925386814749131:=0
def tw9557739118912326896:=0
def tw9539359097375356801:=0
def tw9357307041818659839:=0
def tw9265782299404448432:=0
def tw9101760069484795277:=0
def tw8830922273511745143:=0
def tw8752390883510711789:=0
def tw8629988847890288551:=0
def tw8554690360819295175:=0
def tw847452614979827365:=0
def tw8422987026763401132:=0
def tw8189045679754933884:=0
def tw8096402857402759278:=0
def tw7776527625026681052:=0
def tw7764896264033224432:=0
def tw7620853086150854284:=0
def tw7288295559467724610:=0
def tw7241711404789652907:=0
def tw7183313337540246159:=0
def tw7158445342931380163:=0
def tw712629398628576141:=0
def tw6978752479837166836:=0
def tw6868805140364085403:=0
def tw6865346772044435890:=0
def tw6755077241374131024:=0
def tw6684958439194055273:=0
def tw6632081655583071394:=0
def tw6185704013702184704:=0
def tw6066172958232800905:=0
def tw6030629050510246352:=0
def tw6003867894214828390:=0
def tw5879391068812583268:=0
def tw5816813846362608605:=0
def tw5523653906540366741:=0
def tw5301922027856441966:=0
def tw52999179489417208:=0
def tw5218862655317414944:=0
def tw5043927562523765913:=0
def tw4909129166862071742:=0
def tw490852940383381394:=0
def tw4849928673074915544:=0
def tw4800521505703834119:=0
def tw4696125261319147517:=0
def tw4690858163476716398:=0
def tw4651320933304468638:=0
def tw4593509557595637563:=0
def tw4528300620320855156:=0
def tw4362239629571264401:=0
def tw4284155130359032931:=0
def tw4177138975885874583:=0
def tw4175350029346041771:=0
def tw4068158124284762910:=0
def tw3800008019393772975:=0
def tw3785748109317227169:=0
def tw377854949629163728:=0
def tw3705137372889219197:=0
def tw3506971200791396570:=0
def tw3339678536894754650:=0
def tw3330448045507338790:=0
def tw3264912815814900017:=0
def tw3098889976328827672:=0
def tw2603064504333133344:=0
def tw2488102028231108828:=0
def tw2402836817200126877:=0
def tw2379007857296090527:=0
def tw2298424825862963453:=0
def tw1968769642566832964:=0
def tw1909663705393918903:=0
def tw18225125004911656559:=0
def tw18076989650214661273:=0
def tw17993542120130054853:=0
def tw179469081755043661:=0
def tw17936943666494063991:=0
def tw17913915471265534281:=0
def tw17912804623675975092:=0
def tw17792842761405116386:=0
def tw17224255888216881455:=0
def tw1719448738340208525:=0
def tw1712632780904069148:=0
def tw16869336365191260894:=0
def tw16750198626810089809:=0
def tw16714319584489607336:=0
def tw16583647328762321981:=0
def tw16412976102126551419:=0
def tw16157980408615308412:=0
def tw15272821754826437372:=0
def tw1509941475402037818:=0
def tw15026426597354724749:=0
def tw14986470671249960283:=0
def tw14910045340598607510:=0
def tw14904478775699962182:=0
def tw14883734675867115895:=0
def tw14866903648348629451:=0
def tw14850607137268548419:=0
def tw14546526076078542264:=0
def tw14476313132548039797:=0
def tw14412301270227135542:=0
def tw14369835854462041876:=0
def tw14299959125176906743:=0
def tw1409270279410704188:=0
def tw13859913052373072246:=0
def tw13782780174064428394:=0
def tw13545085817511437725:=0
def tw13489823362296673299:=0
def tw13394759376506016990:=0
def tw13138606761042573414:=0
def tw13085577015142532433:=0
def tw13083424638347511360:=0
def tw12532724973213430732:=0
def tw12064678912599552311:=0
def tw11420757543631519649:=0
def tw11280367740563380599:=0
def tw11131375265444337581:=0
def tw10983667042573784399:=0
def tw10942505010777392258:=0
def tw10923401398956803554:=0
def tw10878403802983189791:=0
def tw10777798662291861616:=0
def tw10653985165480757605:=0
def tw10548466224609319382:=0
def tw10486739264885962146:=0
def tw10438292150855530817:=0
def tw10419090159493291215:=0
def tw10396140215311439427:=0
def tw10298981944582780376:=0
def tw10248212975114436121:=0
end PySem.W.Fast
open PySem PySem.W PyProof.Rows
local macro_rules | `(tactic| walk_at "f")=>`(tactic| (refine' L2.DfT.of ?a ?l ?c ?k;(case a=>k_is);(case l=>k_is);(case c=>k_is);(case k=>k_is)))
local macro_rules | `(tactic| walk_at "m")=>`(tactic| (refine' L2.DmT.of ?a ?i ?l ?c ?k;(case a=>k_is);(case i=>k_is);(case l=>k_is);(case c=>k_is);(case k=>k_is)))
set_option maxRecDepth 100000 in
theorem PySem.Challenge.cw_goneday_k60_sets_as_texts_holds : PySem.Challenge.rw_goneday_k60_sets_as_texts.Holds := by
 w_on;o_law;k_head;(case hw=>w_witness2)
 k_fill
 refine L2.walk_ofBK (l:=PySem.Challenge.rw_goneday_k60_sets_as_texts) (n:=63) (k:=24) (x:="_law_script") (CX:=L2.CX0) (sp:=K60.sp_law) rfl tx rfl ⟨rfl,tx,tx⟩ (λw h Y=>PySem.W.kIn_of Y) ?F ?S ?C
 case F=>
  intro w mg fa h KX G hmg;have T:∃t,K60.Txt (L2.KOf KX) mg t:=by
   dsimp only [L2.KOf];refine' K60.txt_mk KX G ?za ?zb ?zc ?zd ?ze ?zf ?zg ?zh ?zi ?zj ?zk ?zl ?zm ?zn ?zo ?zp ?zq ?zr ?zs ?zt ?zu ?zv ?zw ?zx ?zy ?zz ?zA ?zB ?zC ?zD ?zE ?zF ?zG ?zH ?zI ?zJ ?zK ?zL ?zM ?zN ?zO ?zP ?zQ ?zR ?zS ?zT ?zU ?zV ?zW ?zX ?zY ?zZ ?ya ?yb ?yc ?yd ?ye ?yf ?yg ?yh ?yi ?yj ?yk ?yl ?ym ?yn ?yo ?yp ?yq ?yr ?ys ?yt ?yu ?yv ?yw ?yx ?yy ?yz ?yA ?yB ?yC ?yD ?yE ?yF ?yG ?yH ?yI ?yJ ?yK ?yL ?yM ?yN ?yO ?yP ?yQ ?yR ?yS ?yT ?yU ?yV ?yW ?yX ?yY ?yZ ?xa ?xb ?xc ?xd ?xe ?xf ?xg ?xh ?xi ?xj ?xk ?xl ?xm ?xn ?xo ?xp ?xq ?xr ?xs ?xt ?xu ?xv ?xw ?xx ?xy ?xz ?xA ?xB ?xC ?xD ?xE ?xF ?xG ?xH ?xI ?xJ
   (case zb | zc | zd | ze | zf | zg | zh | zi | zj | zk | zl | zm | zn | zo | zp | zq | zr | zs | zt | zu | zv | zw | zx | zy | zz | zA | zB | zC | zD | zE | zF | zG | zH | zI | zJ | zK | zL | zM | zN | zO | zP | zQ | zR | zS | zT | zU | zV | zW | zX | zY | zZ | ya | yb | yc | yd | ye | yf=>walk_at "f")
   (case yg | yh=>k_is)
   (case yi=>exact⟨_,rfl⟩)
   (case yj | yk=>k_is)
   (case yl=>first | (repeat (first | exact .nil | refine .cons ⟨_,rfl⟩ ?_)))
   (case ym=>decide)
   (case yn=>k_is)
   (case yo=>exact⟨_,rfl⟩)
   (case yp=>k_is)
   (case yq=>exact⟨_,rfl⟩)
   (case yr=>k_is)
   (case ys=>exact⟨_,rfl⟩)
   (case yt=>k_is)
   (case yu=>exact⟨_,rfl⟩)
   (case yv=>k_is)
   (case yw=>exact⟨_,rfl⟩)
   (case yx | yy=>k_is)
   (case yz=>exact⟨_,rfl⟩)
   (case yA=>k_is)
   (case yB=>exact⟨_,rfl⟩)
   (case yC=>k_is)
   (case yD=>exact⟨_,rfl⟩)
   (case yE | yF=>k_is)
   (case yG=>first | (repeat (first | exact .nil | refine .cons ⟨_,rfl⟩ ?_)))
   (case yH=>decide)
   (case yI=>k_is)
   (case yJ=>exact⟨_,rfl⟩)
   (case yK=>k_is)
   (case yL=>exact⟨_,rfl⟩)
   (case yM | yN | yO | yP | yQ | yR | yS | yT | yU | yV=>k_is)
   (case yX | yY | yZ | xa | xb | xc | xd | xe | xf | xg | xh | xi | xj | xk | xl | xm | xn | xo | xp | xq=>first | k_is | k_exc | kit_is)
   (case xr | xs | xt | xu | xv | xw | xx | xy | xz | xA | xB | xC | xD | xE | xF | xG | xH | xI | xJ=>k_is)
   (case za=>walk_at "m")
   (case yW=>refine'⟨?a,?b,?c,?d⟩;(case a=>kernel_rfl);(case b=>k_is);(case c=>k_is);(case d=>k_is))
  obtain⟨t,T⟩:=T;have e0:=hmg.symm.trans T.F_AF.m;cases e0;exact⟨t.d_AF,T.bt_AF,λbase kb nb=>K60.ok_law T⟩
 case S=>exact λK H a ns hl hb hO hS=>K60.start_law hl hb hS
 case C=>exact λ_ _ _ _ z=>z
