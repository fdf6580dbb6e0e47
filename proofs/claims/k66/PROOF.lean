import PyProof.Rows.All
import Wide.All
import OpenK.AllK
import PySem.Challenge.RW_goneday_k66_whole_no_clash_where_no_pair
open PySem.Str renaming ofString->VY,ofString->V1
open PySem.W renaming Frag->VZ,nsIn->Xv,mg_none_of->XQ,findIn->Ys,emptyDict->Yu,fnOf->Yz,keepIn->YF,instObj->YS,mg_of->YZ,methodCall_KW->Zt,callWith_K->ZO,codeIn->ZY,cellsFrom_some->Z3,plainGet->Z8,isFn->PB,plainGet_of->Qu,lookIn->Pk,methodObj->Qn,hasDictIn->R7,takerIn->RY,makesIn->R4,plainOver->Vb,handedIn->S8,OpenLaw->SR,WalkO->UU
open List renaming length_map->V0,map_cons->V2,length_cons->V5,mem_map->Wb,mem_cons->Wc,getElem?_eq_some_iff->Wf,getElem?_set_ne->Wg,size_toArray->Wh,replicate->Wj,map_map->Wk,getElem?_map->Wm,append_nil->Wn,mem_append->Wo,getElem?_cons_succ->Wq,mem_filter->Wr,length_append->Wt,mem_cons_of_mem->Wu,map_append->Ww,getElem?_cons_zero->Wz,length_nil->WB,map_nil->WD,getElem?_eq_getElem->WE,mem_singleton->WH,nil_append->WK,getElem?_set_self->WM,cons_append->WN,mem_cons_self->WR,take_of_length_le->WU,lookup_cons->WV,set_cons_zero->WW,set_cons_succ->WX,any_cons->WY,mem_of_getElem?->W0,getElem?_nil->W3,filter_cons->W6,foldl_cons->W8,length_filter_le->Xi,all_cons->Xq,length_take->Xr,mem_append_right->Xz,take_succ->XA,range->XB,all_nil->XG,any_nil->XH,getElem?_append_left->XI,not_mem_nil->XJ,find?_cons->XN,pairwise_cons->XO,filterMap_cons->XS,nodup_cons->XW,append_assoc->XX,pairwise_map->X1,map->X3,foldl_append->X4,getElem?_eq_none->Yc,getElem?_append_right->Yg,nodup_append->Yl,getElem_mem->Yp,any_eq_true->Yq,mem_flatMap->Yr,mem_map_of_mem->Yv,flatMap_append->Yw,mem_filterMap->Yy,pairwise_append->YG,getElem?_replicate->YH,flatMap_cons->YI,filter_sublist->YL,getD_eq_getElem?_getD->YM,length_drop->YO,mem_of_mem_take->YV,length_range->YX,map_congr_left->Y0,ext_getElem->Y1,filterMap_map->Y4,length_singleton->Y7,mem_append_left->Za,mem_range->Ze,length_filterMap_le->Zh,sum_cons->Zj,append_of_mem->Zo,lookup->Zp,all_eq_true->Zy,mem_of_mem_drop->Zz,perm_ext_iff_of_nodup->ZC,length->ZD,getElem_of_mem->ZF,drop_eq_getElem_cons->ZH,pairwise_iff_getElem->ZL,any_map->ZR,find?_eq_none->ZS,filter_append->ZX,Nodup->ZZ,getElem_inj->Z7,length_replicate->RC,take_append_drop->Qi,range_succ->QB,eq_nil_of_length_eq_zero->Vm,tail_cons->QF,contains_cons->QZ,length_eraseIdx_of_lt->Uz,mem_of_head?->R1,filterMap_cons_none->VJ,filterMap_cons_some->Sn,length_eq_zero_iff->U4,getElem?_set_self'->Vy,pairwise_singleton->SE,of_mem_zip->Ql,drop_of_length_le->Sm,pairwise_lt_range->VO,filter->Q1,filter_eq_nil_iff->Su,head?_eq_none_iff->Sw,nodup_nil->QY,filterMap_append->Td,map_take->R0,filter_eq_self->VF,toArray->RL,filter_filter->U8,any_eq_false->SA,find?_append->Rc,filter_congr->TY,not_lt->RR,le_antisymm->Vi,map_snd_zip->SH,take_length->Vu,isEmpty_map->Ux,forIn_cons->Rk,filter_map->TM,forIn_nil->UA,drop_zero->UH,lt_trans->Tb
open PySem.Heap renaming get?_push_of_some->V3,lt_size->Wl,get?_push_size->Wv,get?_update_other->XZ,get?_update_self->X7,SameBut->YU,size_push->Zf,get?_update_ne->Vh,get?_push_ne->Sr,ExtBut->Ts
open Nat renaming le_refl->V4,le_trans->Wy,ne_of_lt->WI,reduceAdd->Xc,reduceSub->Xd,zero_le->Xe,reduceLeDiff->Xf,sub_self->Xu,zero_add->Xw,add_zero->XC,reduceLT->XD,lt_of_lt_of_le->XM,lt_succ_of_lt->Ye,le_succ->Yj,lt_or_ge->YA,lt_succ_self->YN,le_of_not_lt->YQ,le_of_lt->YT,lt_irrefl->YY,ne_of_gt->ZM,lt_of_le_of_lt->ZW,lt_trans->Pa,le_of_succ_le->RV,mul_le_mul_left->Sb,add_le_add_left->UM,le_of_eq->Qz,eq_zero_or_pos->T8,min_le_right->Sz,mul_succ->Rl
open PySem.PyData renaming strOk->V6,str->V8,int->Wa,eqv->Ws,tuple->WG,canLay0->Xm,canLayAll0->X0,list->X2,bool->Ya,eqvAll->Ym,depth->Zu,none->ZE,depthAll->ZI
open PySem.ScopeKind renaming function->V7
open PySem renaming Spec->ab5,Scope->cxK,boot_len->Yt,mem_of_lookup->YK,Within->Pr,Fin->Pe,call->RP
open Bool renaming false_ne_true->We,false_eq_true->WC,not_eq_true'->WJ,true_eq_false->W2,true_and->W9,or_false->Xj,false_or->Xk,not_false->Xn,and_eq_true->Xs,not_true->Xx,and_true->Xy,not_eq_true->YD,eq_iff_iff->Y6,or_eq_true->Zn,false_and->Zs,not_eq_false->QX,and_false->U6,and_comm->Vs
open PySem.NameKind renaming free->Wi,globalImplicit->W4,free->Yh,cell->Z5
open List.cons renaming injEq->Wx,inj->Pq
open Array renaming length_toList->WA,getD_eq_getD_getElem?->Yd,getD->Zb,getElem?_eq_getElem->Zc,getElem?_toList->Zv,perm_iff_toList_perm->UO,getElem?_eq_none->Ud,mem_toList_iff->UC,toList_append->U3,toList_push->UN,toList_inj->V9,toList_map->UE,toList_zip->Tx,toList->Vv
open PySem.PyData.tuple renaming injEq->WL
open Option.some renaming injEq->WO,inj->Xt
open PySem.PyData.str renaming injEq->WS
open PySem.PyData.int renaming injEq->WT
open PySem.PyData.list renaming injEq->WZ
open PySem.Value renaming ref->W5,none->Yn,int->YJ,bool->Y3,str->Zd,type->Zk,isInt_shape->VG,isInt->RO,isStrOf->SO,bytes->VL,float->Sv
open PySem.PyData.bool renaming injEq->W7
open Option renaming join_some->Xa,join_none->Xb,map_some->Xg,map_none->Xh,map_eq_some_iff->Xl,mem_toList->Y9,isSome_iff_exists->ZP,isSome_map->Z1,getD_none->Qm,isSome_some->Rq,bind->UP
open Int renaming reduceNeg->Xo,reducePow->Xp,reduceLT->XE,reduceLE->XF,toNat_natCast->YW,eq_ofNat_of_zero_le->Zi,fdiv_eq_ediv_of_nonneg->Ra,fmod_eq_emod_of_nonneg->Ui,lt_trichotomy->R5,emod_eq_zero_of_dvd->Vj,dvd_of_emod_eq_zero->S0,ediv_emod_unique->Tq,emod_lt_of_pos->Uu,add_sub_cancel->Vg,emod_nonneg->TU,le_antisymm->UT,dvd_trans->Tt,ediv_one->Ul,add_zero->U5,ne_of_lt->T5,mul_one->TC,le_refl->T7
open PySem.PassesOwn renaming never->XR
open PySem.Builtin.Int renaming intBits->XT
open PySem.Heap.SameBut renaming update->XU
open PySem.Obj renaming mapSeq->XY,data_mapFields->YB,isFreed_of_fields->Zw,cls_mapFields->Qk,putSet->Pc,mapFields->VW
open PySem.SeqAt renaming canLay_of_shaped->X5,shaped->ZQ
open Sum renaming inr->X6,inl->OM
open True renaming intro->X8
open PySem.Around renaming under_plainId->X9,under->Qj
open PySem.Builtin.Tuple renaming tupleExact->Yb,tupleItemsOf->ZA,tupleIsExact->SK
open PyProof.Rows renaming slot_tuple_getitem->Yf,boot_sorted->YC,callWith_type1->Zx,entry_tuple_getitem->UB,boot_min->RM,args_tuple_getitem->Tg,bubble->RT,boot_max->TL,boot_sum->Sy
open PySem.SetTable renaming below->Yi,grown->Y2,orStandIn->Sa,sizeAbove->Tf,layClean->So,relaid->U1,laid->SV,slot->UI
open PySem.Builtin.Slice renaming slicePlaces->Yk,sliceAdjust->Yx,sliceApplied->Y8,sliceFields->SD
open False renaming elim->Yo
open Function renaming comp->YE
open PySem.F renaming slot_dict_get->YR,entry_dict_get->Zq,slot_list_extend->ZT,plainAttrs_list->Z0,plain_extend_loop->TK,type_list_extend->U2,args_dict_get_2->SU,args_dict_get_3->UW,plainAttrs_dict->Ry,plain_list_iadd->TR,type_dict_get->UG,plain_set_new->Te,slot_set_iter->UK
open PyProof.Rows.F renaming plain_set_update_loop->Y5,entry_set_update_loop->ZU
open PySem.Builtin.List renaming listTooLong->Zg,listLengthHint->VN,listExtendWith->Vq,listSameRef->T9,listUpdate->TZ
open PySem.W.WData renaming int->Zl,weightAll->ZG,list->PV,layableAll->Ss,weight->Vp
open ForInStep renaming yield->Zm
open PySem.SetTable.below renaming go->Zr
open PySem.Calls renaming call_function_entry->ZJ,spliced_cons->ZN,callWith_builtin->Z4,evalArgs_plain->RD,Name_function_global->Rg,spliced_nil->Qo,call_len_list->VX
open PySem.W.KasT renaming kasWp_bind->ZK
open Nat.succ renaming inj->ZV
open List.Sublist renaming refl->Z2
open Prod.mk renaming injEq->Z6
open PySem.AutoSeq1 renaming list_extend_list_list_0->Z9
open Or renaming inr->O8,inl->OZ
open PySem.Builtin.Str renaming strSliceIndices->SS
open PySem.Paired renaming length->QQ,snoc->TJ
open PySem.Walks renaming list->PR
open PySem.Builtin.Dict renaming updateFrom->TN
open PyProof renaming noPylong_small->VV
open PySem.SeqAt.RcAt renaming tuple_str->Tv
open PySem.SeqAt.EqAt renaming str_tuple->Ti,str_int->Rm
open PySem.Code renaming isFrame->RU,frames->SY
open PySem.Heap.IsSliceOf renaming new->SI
open PySem.PyData.dict renaming injEq->VS
open PySem.SetTable.probe renaming go->VU
open PySem.Heap.DictOf renaming new->Vr
open PySem.Expr renaming Subscript->Se,List->Qw,Call->VE
open PyProof.Rows.IsTup renaming new->QV
open Prod renaming snd->RK
open PySem.CmpOp renaming NotIn->Vw
open PySem renaming PyData->L7,wpAny_bind->M5,Value->M3,Addr->L9,Shared->M6,wpAny_pure->MO,starEach->MQ,wpAny->MD,sizeLine->MT,model->MK,FuncData->MZ,Expr->Mb,Program->N4,World->Mp,Heap->Md,Stmt->MU,mainGlobals->Mt,Around->N0,sizeLine_eq->My,foldedSetIterable->NO,wpAny_newObj_type->NM,backTo->Mj,bootBuiltins->N6,wpAny_holding->N9,compareOp->Mz,swapsWith->N3,wpAny_truthy_bool->Nu,wpAny_mono->NB,wpAny_call_entry->Nk,cLine->Mq,behindInMarks->Nb,codeAny_builtin->Nx,wpAny_callSpecial?_slot->Of,cellsFrom->NJ,Scope->ND,attributeBase->Ny,plainId_quiet->Nw,NameKind->NK,wpAny_loadPart'->QD,keywordEach->Np,sysModules->Nd,SetTable->OC,holding->NL,pyNext->NF,codeAny->NS,wpAny_Call_Name_kw->Oi,wpAny_typeOf->OG,tupleKind_room_in1->Ol,wpAny_passesOwn->Oc,wpAny_setState_of->Ov,getItem->Na,backToKw->Nl,codeAny_mono->OS,wpAny_askSetting->P9,wpAny_setEntries_of->PX,Keyword->Ng,scanBound->OB,binaryOp->O5,rawInt->NY,wpAny_setField->P6,wpAny_seqItems->P8,wpAny_tryCatch->Oq,call->NC,call_meets->OT,wpAny_rule->OI,wpAny_newList->P5,standAt->Nz,sliceBounds->Oe,wpAny_updateSeq->PZ,PassesOwn->OL,DictEntry->Pw,intKind->OA,assignEach->Ob,typeIs_str->Oa,setNext->O6,wpAny_pyIter_list->QP,wpAny_field->Oh,subscripted->Og,wpAny_of_eq->P1,wpAny_attempt->PK,relayAll->OQ,tupleKind->OV,getMethod->OW,builtinLookup_eq_fast->QU,wpAny_execs_nil->Pd,letOwnedTupleGo->QG,wpAny_ite_split->QE,wpAny_fieldsOf->Px,firstArgMember->QN,wpAny_letGo->PF,pickOrder->Ow,wpAny_sequenceKey->R6,GenState->PD,wpAny_comprehension_free->Sq,wpAny_isInstance->RI
open PyProof.Rows renaming seqObj->Ml,IntsAre->N2,envOfC->Nf,listUpdate_at->P4,get?_update_seq->PJ,AllBare->OH,entry_list_sort->Py,slicePart_none->QL,slot_list_sort->Pu,subscriptTail->QO
open PySem.W renaming kia_one->OD
theorem MN{p:Prop}[Decidable p](h:decide p=true:=by decide+kernel):p:=of_decide_eq_true h
theorem MA{p:Prop}(h:p:=by decide):p:=h
theorem L8{p:Prop}(h:p:=by omega):p:=h
theorem MC{p:Prop}(h:p:=by simp):p:=h
theorem M4{c:Prop}{h:Decidable c}(k:¬c){α:Sort u}{t e:α}:ite c t e=e:=if_neg k
theorem M8{c:Prop}{h:Decidable c}(k:c){α:Sort u}{t e:α}:ite c t e=t:=if_pos k
abbrev Mc:=PySem.NameKind.local
set_option compiler.extract_closed false
set_option autoImplicit true
set_option relaxedAutoImplicit true
def Oj:="↓kx ↓kB ↓kC ↓kD ↓kE ↓kF ↓kG ↓kz ↓fX ↓jV ↓lE ↓lF ↓lG ↓lH ↓lI ↓lJ ↓jW ↓jX ↓jY ↓jZ ↓j2 ↓j3 ↓j4 ↓j5 ↓j6 ↓j7 ↓j8 ↓j9 ↓kc ↓ke ↓kg ↓kh ↓ki ↓kj ↓km ↓kn ↓ko ↓kq ↓kr ↓ku cB d4 cw eZ dP g7 dG dQ fc fj g9 d7 eO dC bM dI fx d8 fy iq fz cY fI fH ig ie dL d5 eQ gX dE cV cc cW eU eV eX gY gZ eY dZ cX g6 i5 i7 i8 i9 ja jb jc jd je jf jg jh ji jj jk jm jn jo jq jr jt ju jv jw jx jy jz jA jB jC jD jE jF jG jH jI jJ jK jL jM jN jO jP i6 fC ij fJ eD iC iw fA fB fD ik fE fF fG eB iu fK fL cL ia ib ic fk hJ hU hZ fo fq ft h7 fQ iY fU iZ i3 iX i4 fP iE iF iG cZ fS fR iD fO jQ jR jS jT fV fW jU fZ fY gb gc gf kA gh gi gj kK kI kJ kH kP gm kM kN kO eF kL gB gC gr gz gA kR kT gE kU gF dW kW kX gH kY kZ k6 gG gI k7 k8 k9 lL gO lM gP lN lO gQ lh gJ gK c7 gM gN lK lq dJ lr lx lz lA gL lB bU iO iP iQ iR iS iT iU iV iW ne_eq fT iK iL iM iN iH iI iJ dS dU fu dR fi fh fg cC cD bJ dj dY dn V2 WD V5 WB Wj WN WK Wn Xc Xd XC Xw Xu Wz Wq W3 WW WX WO exists_eq_left' exists_eq_left exists_and_left exists_and_right Xa Xb Sl.v.injEq Sl.o.injEq Sl.k.injEq WT W7 WS WL WZ Wx and_true true_and XD Xf exists_const decide_eq_true_eq XE XF Xo Xp WJ decide_eq_false_iff_not and_assoc or_true true_or ↓reduceIte if_true if_false WC W2 not_true_eq_false not_false_eq_true Xx Xn ite_true ite_false eq_self exists_eq reduceCtorEq false_and and_false or_false false_or exists_false Xg Xh dD Xq XG WY XH Xy Xj W9 Xk bN cN dH cO fM bT iz iA beq_self_eq_true fN ix iy bP sizeLine_eq"
def OP (n : String) : Lean.MacroM (Lean.TSyntax `tactic) := do
 let ts : Array (Lean.TSyntax `Lean.Parser.Tactic.simpLemma) <- ((n.splitOn " ").toArray).mapM λs =>do
  if s.startsWith "↓" then
   let i := Lean.mkIdent (s.drop 1).toString.toName
   `(Lean.Parser.Tactic.simpLemma| ↓ $i:ident)
  else
   let i := Lean.mkIdent s.toName
   `(Lean.Parser.Tactic.simpLemma| $i:ident)
 `(tactic| simp only [$ts,*])
local macro_rules | `(tactic| walk_at $s:str) =>if s.getString.startsWith "+" then OP ((s.getString.drop 1).toString++Oj) else Lean.Macro.throwUnsupported
local macro_rules|`(command|def $i:declId $s:optDeclSig $v:declVal)=>`(command|noncomputable def $i:declId $s:optDeclSig $v:declVal)|`(command|abbrev $i:declId $s:optDeclSig $v:declVal)=>`(command|noncomputable abbrev $i:declId $s:optDeclSig $v:declVal)
noncomputable section
set_option Elab.async false
set_option linter.all false
set_option maxRecDepth 100000
set_option maxHeartbeats 0
set_option genSizeOf false
namespace L2
open PySem PySem.Spec PyProof.Rows
abbrev Fa:=List L7->(L7->Prop)->Prop
abbrev aj:=Sum Int Str
def tW:aj->M3->Bool
 | .inl k,v=>RO k v
 | .inr x,v=>SO x v
def acX(w:Mp):aj->Int
 | .inl k=>hashInt k
 | .inr x=>hashStr w x
theorem pN:∀{k:aj}{v:M3},tW k v=true->(∃i t,k=OM i/\v=YJ i t)\/(∃x t,k=X6 x/\v=Zd x t)
 | .inl i,v,h=>by
  obtain⟨t,e⟩:=VG (k:=i) (v:=v) h;exact .inl ⟨i,t,rfl,e⟩
 | .inr x,v,h=>by
  obtain⟨t,e⟩:=Value.isStrOf_shape (x:=x) (v:=v) h;exact .inr ⟨x,t,rfl,e⟩
theorem acS(i:Int)(t:Tok):tW (.inl i) (.int i t)=true:=by simp[tW,RO]
theorem ac0(x:Str)(t:Tok):tW (.inr x) (.str x t)=true:=by simp[tW,SO]
theorem Ma(a b:Int):decide ((OM a:aj)=OM b)=(a==b):=by
 by_cases e:a=b
 ·subst e;simp
 ·have h:¬(OM a:aj)=OM b:=λq=>e (OM.inj q);rw[decide_eq_false h];exact(beq_eq_false_iff_ne.mpr e).symm
theorem ac8(a b:Str):decide ((X6 a:aj)=X6 b)=decide (a=b):=by
 by_cases e:a=b
 ·subst e;simp
 ·have h:¬(X6 a:aj)=X6 b:=λq=>e (X6.inj q);rw[decide_eq_false h,decide_eq_false e]
theorem aeJ(a:Int)(b:Str):decide ((OM a:aj)=X6 b)=false:=decide_eq_false (λq=>nomatch q)
theorem adb(a:Str)(b:Int):decide ((X6 a:aj)=OM b)=false:=decide_eq_false (λq=>nomatch q)
def cK(prog:N4)(w:Mp):PySem.KeyKind prog w aj where
 is:=tW
 hash:=acX w
 inj:=λv a b ha hb=>by
  rcases pN ha with⟨i,t,rfl,rfl⟩|⟨x,t,rfl,rfl⟩
  ·rcases pN hb with⟨j,u,rfl,e⟩|⟨y,u,rfl,e⟩
   ·injection e with e1 _;rw[e1]
   ·exact nomatch e
  ·rcases pN hb with⟨j,u,rfl,e⟩|⟨y,u,rfl,e⟩
   ·exact nomatch e
   ·injection e with e1 _;rw[e1]
 byValue:=λk v h=>by
  rcases pN h with⟨i,t,rfl,rfl⟩|⟨x,t,rfl,rfl⟩<;>rfl
 pyHash:=λhv h=>by
  rcases pN hv with⟨i,t,rfl,rfl⟩|⟨x,t,rfl,rfl⟩
  ·exact wpAny_pyHash_int h
  ·exact wpAny_pyHash_str h
 eqBool:=λhu hv h=>by
  rcases pN hu with⟨i,t,rfl,rfl⟩|⟨x,t,rfl,rfl⟩
  ·rcases pN hv with⟨j,u,rfl,rfl⟩|⟨y,u,rfl,rfl⟩
   ·rw[Ma]at h;exact wpAny_eqBool_int h
   ·rw[aeJ]at h;exact SeqAt.EqAt.int_str i t y u _ _ _ _ h
  ·rcases pN hv with⟨j,u,rfl,rfl⟩|⟨y,u,rfl,rfl⟩
   ·rw[adb]at h;exact Rm x t j u _ _ _ _ h
   ·rw[ac8]at h;exact wpAny_eqBool_str h
 «strs»:=λk x t v h=>by
  rcases pN h with⟨i,u,rfl,e⟩|⟨y,u,rfl,e⟩
  ·exact nomatch e
  ·injection e with e1 _
   subst e1;cases v<;>rfl
theorem Me(prog:N4)(w:Mp)(i:Int)(t:Tok):(cK prog w).is (.inl i) (.int i t)=true:=acS i t
theorem Mf(prog:N4)(w:Mp)(x:Str)(t:Tok):(cK prog w).is (.inr x) (.str x t)=true:=ac0 x t
inductive V where
 |non|bl (b:Bool)|int (i:Int)|str (x:Str)|byt (b:Array UInt8)|flt (b:UInt64)|ref (a:L9)|ty (n:String)
 deriving DecidableEq
def aG:V->M3->Prop
 | .non,u=>u=Yn
 | .bl b,u=>u=Y3 b
 | .int i,u=>∃t,u=YJ i t
 | .str x,u=>∃t,u=Zd x t
 | .byt b,u=>∃t,u=VL b t
 | .flt b,u=>∃t,u=Sv b t
 | .ref a,u=>u=W5 a
 | .ty n,u=>u=Zk n
abbrev aF:List V->List M3->Prop:=Paired aG
theorem aF.length(r:aF xs us):xs.length=us.length:=QQ r
theorem aF.get:∀{xs:List V}{us:List M3}{i:Nat}{x:V},aF xs us->xs[i]?=some x->∃u,us[i]?=some u/\aG x u
 |_,_,_,_,.nil,e=>by simp at e
 |_,_,0,_,.cons r _,e=>by simp at e;subst e;exact⟨_,rfl,r⟩
 |_,_,i+1,x,.cons _ t,e=>by
  obtain⟨u,h1,h2⟩:=aF.get (i:=i) (x:=x) t (by simpa using e);exact⟨u,by simpa using h1,h2⟩
theorem aF.set(r:aG x u):∀{xs:List V}{us:List M3}(i:Nat),aF xs us->aF (xs.set i x) (us.set i u)
 |_,_,_,.nil=>.nil
 |_,_,0,.cons _ t=>.cons r t
 |_,_,i+1,.cons q t=>.cons q (aF.set r i t)
theorem aF.append:∀{xs ys:List V}{us ws:List M3},aF xs us->aF ys ws->aF (xs++ys) (us++ws)
 |_,_,_,_,.nil,s=>s
 |_,_,_,_,.cons r t,s=>.cons r (aF.append t s)
theorem aF.take:∀{xs:List V}{us:List M3}(n:Nat),aF xs us->aF (xs.take n) (us.take n)
 |_,_,0,_=>.nil
 |_,_,_+1,.nil=>.nil
 |_,_,n+1,.cons r t=>.cons r (aF.take n t)
theorem aF.drop:∀{xs:List V}{us:List M3}(n:Nat),aF xs us->aF (xs.drop n) (us.drop n)
 |_,_,0,r=>r
 |_,_,_+1,.nil=>.nil
 |_,_,n+1,.cons _ t=>aF.drop n t
def mF:Option V->Option M3->Prop
 |some v,some u=>aG v u
 |none,none=>True
 |_,_=>False
def KV{κ:Type}:List (κ×V)->List (κ×M3)->Prop:=Paired λ(p:κ×V) (q:κ×M3)=>p.1=q.1/\aG p.2 q.2
def kV:aj->V
 | .inl i=>.int i
 | .inr x=>.str x
inductive HO where
 |lst (xs:List V)
 |tup (xs:List V)
 |dK (kvs:List (aj×V))|dT (kvs:List (List aj×V))
 |set (S:Int->Bool) (n:Nat)
 |ins (C dx:L9) (fs:List (Str×V))
 |own (x:L9)
 |xd (fs:List (Str×V))
 |met (f x:L9)
 |rng (lo hi:Int)
 |frz (o:Obj) (u:HO)
 |tbl (ps:Array M3)
 |cod (q:Str)
 |ext (φ:Md->Prop)
abbrev Hp:=L9->Option HO
def ai(H:Hp)(a:L9)(o:HO):Hp:=λb=>if b=a then some o else H b
theorem aV:ai H a o a=some o:=by unfold ai;rw[M8 rfl]
theorem ar(h:b≠a):ai H a o b=H b:=by unfold ai;rw[M4 h]
theorem Ew:ai (ai H a o) a u=ai H a u:=by
 funext b;unfold ai;split<;>rfl
theorem Mg{H:Hp}(h:H a=some o)(h':H b=some u)(d:o≠u):a≠b:=by
 intro e;subst e;rw[h]at h';exact d (Xt h')
theorem lQ{H:Hp}(h:H a=some o)(h':H b=none):a≠b:=by
 intro e;subst e;rw[h]at h';cases h'
def Mh(h:Md)(a:L9)(q:Str):Prop:=∃oc vs t,h.get? a=some oc/\oc.data= .fields vs/\vs[1]?=some (.str q t)
def DfT(H:Hp)(h:Md)(a:L9)(q:Str):Prop:=∃ps:Array M3,h.get? a=some {cls:= .none,data:= .fields ps}/\PySem.TriplesOk ps.toList/\∀pos cv,PySem.codeAmong pos ps.toList=some cv->∃c,cv= .ref c/\H c=some (.cod q)
section
variable(P:N4)(w:Mp)
def cA(H:Hp)(h:Md)(a:L9):HO->Prop
 | .lst xs=>xs.length<=MT/\∃(its:List M3)(n:Nat),aF xs its/\h.get? a=some {cls:= .type "list",data:= .seq its.toArray n}
 | .tup xs=>xs.length<=MT/\∃its:List M3,aF xs its/\IsTup h a its.toArray
 | .dK kvs=>kvs.length<=MT/\(a==Nd)=false/\∃vs,KV kvs vs/\h.DictOf (cK P w) a vs
 | .dT kvs=>kvs.length<=MT/\(a==Nd)=false/\∃xs:List (List aj×L9×M3),
  Paired (λ(p:List aj×V) (q:List aj×L9×M3)=>p.1=q.1/\H q.2.1=some (.tup (p.1.map kV))/\aG p.2 q.2.2) kvs xs/\
  ∃o es ep,h.get? a=some o/\o.ExactDict/\o.data= .dict es ep/\es.toList=xs.map (entryOfKey (OV (cK P w)))/\(xs.map (·.1)).Nodup
 | .set S n=>h.SetOf (OA P w) a S n
 | .ins C dx fs=>H dx=some (.own a)/\fs.length<=1000/\dx≠a/\h.get? a=some (YS C dx)/\
  ∃mA,h.Ns1 dx mA/\(∀f,mF (fs.lookup f) (mA f))/\Pr mA (fs.map (·.1))
 | .own _=>∃o,h.get? a=some o
 | .xd fs=>∃mA,h.Ns1 a mA/\∀f,mF (fs.lookup f) (mA f)
 | .rng lo hi=>∃t u v,h.get? a=some {cls:= .type "range",data:= .fields #[.int lo t,.int hi u,.int 1 v]}
 | .frz o u=>h.get? a=some o/\cA H h a u
 | .tbl ps=>∃q t,ps[0]?=some (.str q t)/\DfT H h a q
 | .cod q=>Mh h a q
 | .met f x=>h.get? a=some (Qn (.ref f) (.ref x))
 | .ext φ=>φ h/\(∃o,h.get? a=some o)/\∀h1 h2:Md,φ h1->(∀o,h1.get? a=some o->h2.get? a=some o)->φ h2
def bQ(H:Hp)(h:Md):Prop:=∀a o,H a=some o->cA P w H h a o
end
section
variable{P:N4}{w:Mp}{H H':Hp}{h h':Md}{a:L9}{o:HO}
theorem cA.lt(x:cA P w H h a o):a < h.objs.size:=by
 cases o with
 |lst xs=>obtain⟨_,_,_,_,e⟩:=x;exact Wl e
 |tup xs=>obtain⟨_,_,_,p⟩:=x;exact p.lt
 |dK kvs=>obtain⟨_,_,_,_,o,_,_,e,_⟩:=x;exact Wl e
 |dT kvs=>obtain⟨_,_,_,_,o,_,_,e,_⟩:=x;exact Wl e
 |set S n=>obtain⟨o,_,_,_,e,_⟩:=x;exact Wl e
 |ins C dx fs=>obtain⟨_,_,_,e,_⟩:=x;exact Wl e
 |own y=>obtain⟨_,e⟩:=x;exact Wl e
 |xd fs=>obtain⟨_,⟨_,_,_,e,_⟩,_⟩:=x;exact Wl e
 |rng lo hi=>obtain⟨_,_,_,e⟩:=x;exact Wl e
 |frz ob u=>obtain⟨e,_⟩:=x;exact Wl e
 |tbl ps=>obtain⟨_,_,_,_,e,_⟩:=x;exact Wl e
 |cod q=>obtain⟨_,_,_,e,_⟩:=x;exact Wl e
 |met f y=>exact Wl (show h.get? a=some _ from x)
 |ext φ=>obtain⟨_,⟨_,e⟩,_⟩:=x;exact Wl e
theorem Paired.mapP{α β:Type}{F G:α->β->Prop}:∀{l₁:List α}{l₂:List β},Paired F l₁ l₂->(∀a b,F a b->G a b)->Paired G l₁ l₂
 |_,_,.nil,_=>.nil
 |_,_,.cons r t,f=>.cons (f _ _ r) (Paired.mapP t f)
theorem cA.stay(x:cA P w H h a o)(k:∀b u,(b=a\/H b=some (.own a))->h.get? b=some u->h'.get? b=some u)
 (ho:∀b,H b=some (.own a)->H' b=some (.own a))(ht:∀b xs,H b=some (.tup xs)->H' b=some (.tup xs))(hc:∀b q,H b=some (.cod q)->H' b=some (.cod q)):cA P w H' h' a o:=by
 induction o with
 |lst xs=>obtain⟨z,its,n,r,e⟩:=x;exact⟨z,its,n,r,k _ _ (.inl rfl) e⟩
 |tup xs=>obtain⟨z,its,r,ob,e,c⟩:=x;exact⟨z,its,r,ob,k _ _ (.inl rfl) e,c⟩
 |dK kvs=>obtain⟨z,y,vs,r,ob,es,ep,e,c⟩:=x;exact⟨z,y,vs,r,ob,es,ep,k _ _ (.inl rfl) e,c⟩
 |dT kvs=>
  obtain⟨z,y,xs,r,ob,es,ep,e,c⟩:=x;exact⟨z,y,xs,Paired.mapP r λp q z=>⟨z.1,ht _ _ z.2.1,z.2.2⟩,ob,es,ep,k _ _ (.inl rfl) e,c⟩
 |set S n=>obtain⟨ob,es,ep,t,e,c⟩:=x;exact⟨ob,es,ep,t,k _ _ (.inl rfl) e,c⟩
 |ins C dx fs=>
  obtain⟨d,z,ne,e,mA,⟨od,es,ep,e2,c⟩,r⟩:=x;exact⟨ho _ d,z,ne,k _ _ (.inl rfl) e,mA,⟨od,es,ep,k _ _ (.inr d) e2,c⟩,r⟩
 |own y=>obtain⟨ob,e⟩:=x;exact⟨ob,k _ _ (.inl rfl) e⟩
 |xd fs=>obtain⟨mA,⟨od,es,ep,e,c⟩,r⟩:=x;exact⟨mA,⟨od,es,ep,k _ _ (.inl rfl) e,c⟩,r⟩
 |rng lo hi=>obtain⟨t,u,v,e⟩:=x;exact⟨t,u,v,k _ _ (.inl rfl) e⟩
 |frz ob u ih=>obtain⟨e,q⟩:=x;exact⟨k _ _ (.inl rfl) e,ih q⟩
 |tbl ps=>
  obtain⟨q,t,z,qs,e,tr,y⟩:=x;exact⟨q,t,z,qs,k _ _ (.inl rfl) e,tr,λpos cv w=>let ⟨c,e1,e2⟩:=y pos cv w;⟨c,e1,hc _ _ e2⟩⟩
 |cod q=>obtain⟨oc,vs,t,e,r⟩:=x;exact⟨oc,vs,t,k _ _ (.inl rfl) e,r⟩
 |met f y=>
  have e:h.get? a=some (Qn (.ref f) (.ref y)):=x;show h'.get? a=some (Qn (.ref f) (.ref y));exact k a _ (.inl rfl) e
 |ext φ=>obtain⟨p,⟨o,e⟩,st⟩:=x;exact⟨st _ _ p λo q=>k _ _ (.inl rfl) q,⟨o,k _ _ (.inl rfl) e⟩,st⟩
theorem bQ.lt(x:bQ P w H h)(e:H a=some o):a < h.objs.size:=(x a o e).lt
theorem bQ.fresh(x:bQ P w H h)(e:h.objs.size<=a):H a=none:=by
 cases q:H a with
 |none=>rfl
 |some u=>exact absurd (XM (x.lt q) e) (YY _)
theorem bQ.kept(x:bQ P w H h)(k:∀b u,h.get? b=some u->h'.get? b=some u):bQ P w H h':=λa o e=>
 (x a o e).stay (λb u _ q=>k b u q) (λ_ q=>q) (λ_ _ q=>q) λ_ _ q=>q
theorem bQ.laid(x:bQ P w H h)(k:∀b u,h.get? b=some u->h'.get? b=some u)(hp:h.objs.size<=a)(new:cA P w (ai H a o) h' a o):bQ P w (ai H a o) h':=λb u e=>by
 have hn:=x.fresh hp;by_cases hb:b=a
 ·subst hb;rw[aV]at e;cases e;exact new
 ·rw[ar hb]at e;exact(x b u e).stay (λc v _ q=>k c v q) (λc q=>by rw[ar (lQ q hn)];exact q) (λc xs q=>by rw[ar (lQ q hn)];exact q) λc xs q=>by rw[ar (lQ q hn)];exact q
end
def Rd(H:Hp)(a:L9)(u:HO):Prop:=H a=some u\/∃o,H a=some (.frz o u)
theorem Rd.ok(r:Rd H a u)(x:bQ P w H h):cA P w H h a u:=by
 rcases r with r|⟨o,r⟩
 ·exact x a u r
 ·obtain⟨_,q⟩:=x a _ r;exact q
def tX:Option HO->Prop
 |some (.lst _)=>True
 |some (.dK _)=>True
 |some (.dT _)=>True
 |some (.set _ _)=>True
 |some (.ins _ _ _)=>True
 |some (.ext _)=>True
 |_=>False
theorem bQ.write(ok:bQ P w H h)(mu:tX (H x))(he:e=x\/H e=some (.own x))(k:∀b u,b≠e->h.get? b=some u->h'.get? b=some u)(heo:∃u,h'.get? e=some u)
 (new:cA P w (ai H x o') h' x o'):bQ P w (ai H x o') h':=λb u q=>by
 have nown:∀c y,H c=some (.own y)->c≠x:=λc y r z=>by subst z;rw[r]at mu;exact mu
 have ntup:∀c xs,H c=some (.tup xs)->c≠x:=λc xs r z=>by subst z;rw[r]at mu;exact mu
 have ncod:∀c xs,H c=some (.cod xs)->c≠x:=λc xs r z=>by subst z;rw[r]at mu;exact mu
 by_cases hb:b=x
 ·subst hb;rw[aV]at q;cases q;exact new
 ·rw[ar hb]at q;by_cases hbe:b=e
  ·have q':H b=some (.own x):=by
    rcases he with z|z
    ·exact absurd (hbe.trans z) hb
    ·rw[hbe];exact z
   rw[q]at q';cases q';obtain⟨v,hv⟩:=heo;exact⟨v,by rw[hbe];exact hv⟩
  ·refine(ok b u q).stay (λc v hc r=>k c v ?_ r) (λc r=>by rw[ar (nown c b r)];exact r) (λc xs r=>by rw[ar (ntup c xs r)];exact r) λc xs r=>by rw[ar (ncod c xs r)];exact r
   rcases hc with rfl|hc
   ·exact hbe
   ·rintro rfl;rcases he with z|z
    ·exact nown c b hc z
    ·rw[hc]at z;cases z;exact hb rfl
structure Un (fs ex:List L9) (H H':Hp) (h h':Md):Prop where
 keep:∀b o,h.get? b=some o->H b=none->b∉fs->b∉ex->h'.get? b=some o
 slot:∀b o,h.get? b=some o->H b=none->b∈fs->b∉ex->∃sl,h'.get? b=some {o with slots:=sl}
 free:∀b o,h.get? b=some o->H b=none->b∉ex->H' b=none
 there:∀b o,h.get? b=some o->b∉ex->∃o',h'.get? b=some o'
 tups:∀b xs,H b=some (.tup xs)->H' b=some (.tup xs)
 frzs:∀b o u,H b=some (.frz o u)->H' b=some (.frz o u)
 tbls:∀b ps,H b=some (.tbl ps)->∃more,H' b=some (.tbl (ps++more))
section
variable{fs fs' ex ex':List L9}{H H1 H2:Hp}{h h1 h2 h':Md}{a x e:L9}{o:HO}
theorem Un.any(u:Un fs ex H H1 h h1)(q:h.get? b=some ob)(n:H b=none)(hx:b∉ex):∃sl,h1.get? b=some {ob with slots:=sl}:=by
 by_cases hb:b∈fs
 ·exact u.slot b ob q n hb hx
 ·exact⟨ob.slots,u.keep b ob q n hb hx⟩
theorem Un.kept(k:∀b u,h.get? b=some u->h'.get? b=some u):Un fs ex H H h h':=
 ⟨λb ob q _ _ _=>k b ob q,λb ob q _ _ _=>⟨ob.slots,k b ob q⟩,λ_ _ _ n _=>n,λb ob q _=>⟨ob,k b ob q⟩,λ_ _ q=>q,λ_ _ _ q=>q,λ_ ps q=>⟨#[],by rw[q];simp⟩⟩
theorem Un.refl:Un fs ex H H h h:=Un.kept λ_ _ q=>q
theorem Un.laid(k:∀b u,h.get? b=some u->h'.get? b=some u)(hp:h.objs.size<=a)(hn:H a=none):Un fs ex H (ai H a o) h h' where
 keep:=λb u q _ _ _=>k b u q
 slot:=λb u q _ _ _=>⟨u.slots,k b u q⟩
 free:=λb u q n _=>by rw[ar (WI (XM (Wl q) hp))];exact n
 there:=λb u q _=>⟨u,k b u q⟩
 tups:=λb xs q=>by rw[ar (lQ q hn)];exact q
 frzs:=λb u xs q=>by rw[ar (lQ q hn)];exact q
 tbls:=λb ps q=>⟨#[],by rw[ar (lQ q hn),q];simp⟩
theorem Un.write(mu:tX (H x))(he:e=x\/H e=some (.own x))(k:∀b u,b≠e->h.get? b=some u->h'.get? b=some u)(heo:∃u,h'.get? e=some u):Un fs ex H (ai H x o) h h':=by
 have hx:∀b,H b=none->b≠x:=λb n z=>by subst z;rw[n]at mu;exact mu
 have hb:∀b,H b=none->b≠e:=λb n z=>by
  subst z;rcases he with r|r
  ·exact hx b n r
  ·rw[n]at r;cases r
 have hm:∀b u,H b=some u->¬tX (some u)->b≠x:=λb u q nm z=>by subst z;rw[q]at mu;exact nm mu
 refine⟨λb u q n _ _=>k b u (hb b n) q,λb u q n _ _=>⟨u.slots,k b u (hb b n) q⟩,λb u q n _=>by rw[ar (hx b n)];exact n,λb u q _=>?_,
  λb xs q=>by rw[ar (hm b _ q λz=>z)];exact q,λb u xs q=>by rw[ar (hm b _ q λz=>z)];exact q,λb ps q=>⟨#[],by rw[ar (hm b _ q λz=>z),q];simp⟩⟩
 by_cases hbe:b=e
 ·subst hbe;exact heo
 ·exact⟨u,k b u hbe q⟩
end
def trk(h:Md)(H:Hp):List L9:=(XB h.objs.size).filter λa=>(H a).isSome
def qY(h:Md)(H:Hp):Md:=PySem.W.hideAll h (trk h H)
theorem adk(h:Md)(H:Hp):(qY h H).objs.size=h.objs.size:=PySem.W.hideAll_size _ _
theorem ado{h:Md}{H:Hp}(e:h.get? b=some o)(n:H b=none):(qY h H).get? b=some o:=
 PySem.W.hideAll_get _ e λhm=>by
  have q:(H b).isSome=true:=(Wr.mp hm).2;rw[n]at q;simp at q
theorem Mm(e:(qY h H).get? b=some o):h.get? b=some o/\H b=none:=by
 have e':h.get? b=some o:=PySem.W.of_hideAll (trk h H) e;refine⟨e',?_⟩;cases q:H b with
 |none=>rfl
 |some x=>
  have hm:b∈trk h H:=Wr.mpr ⟨Ze.mpr (Wl e'),by simp[q]⟩;have z:(qY h H).get? b=none:=PySem.W.hideAll_none (trk h H) hm;rw[z]at e;cases e
def Mo(g h:Md)(L:L9):List (L9×Obj):=(XB h.objs.size).filterMap λa=>if a=L\/(g.get? a).isSome=true then none else(h.get? a).map λo=>(a,o)
def rest(g h:Md)(L d:L9):List (L9×Obj):=(Mo g h L).filter λp=>decide (p.1≠d)
structure Mod (Z:VZ) (mg:Str->Option M3) (base:Md):Prop where
 kin:Z.In base
 glob:base.Ns Mt mg
 blt:∃mb,base.Ns builtinsNs mb/\∀x:Str,x≠"__name__"->mb x=N6 x
 nolimit:base.NoLimit
structure Cx where
 prog:N4
 w:Mp
 K:VZ
 mg:Str->Option M3
 base:Md
 A:N0
 N:List Str
 s₀:M6
 H₀:Hp
 env:Env
 outer:List Env
 stack:List Env
 ex:List L9
 fn:Str->Bool
 calm:Bool
 pn:List (L9×Obj)
 xe:M3->M6->Prop
def oE(l:List Env):List L9:=l.filterMap (·.frame)
abbrev Cx.fs(X:Cx):List L9:=oE X.outer
def u7(sc:ND)(x:Str):Prop:=sc.names.lookup x=some .local\/sc.names.lookup x=some .cell\/sc.names.lookup x=some .free
def oR(sc:ND)(x:Str):Prop:=sc.names.lookup x=some .local\/sc.names.lookup x=some .cell
def ada(env:Env)(h:Md)(m:Str->Option M3)(x:Str)(u:M3):Prop:=
 (env.kindOf x=some .local/\m x=some u)\/((env.kindOf x=some .cell\/env.kindOf x=some .free)/\∃c,env.cells.lookup x=some c/\h.IsCell c (some u))
structure Cx.Ok (X:Cx):Prop where
 mod:Mod X.K X.mg X.base
 kind:X.env.scope.kind= .function
 glob:X.env.globals=Mt
 blt:X.env.builtins=builtinsNs
 above:X.s₀.heap.objs.size<=X.env.locals
 inj:∀x y c,X.env.cells.lookup x=some c->X.env.cells.lookup y=some c->x=y
 has:∀x,(X.env.kindOf x=some .cell\/X.env.kindOf x=some .free)->∃c,X.env.cells.lookup x=some c
 cab:∀x c,X.fn x=true->X.env.cells.lookup x=some c->X.s₀.heap.objs.size<=c
 hd:X.calm=true->X.A.handled=none
 frames:X.A.frames=some X.stack
 stk:X.stack=X.outer\/(X.stack=X.env::X.outer/\X.env.frame=some X.env.locals)
 exf:∀b∈X.ex,b≠X.env.locals/\∀x c,X.env.cells.lookup x=some c->c≠b
 bs:∀b o,X.base.get? b=some o->X.s₀.heap.get? b=some o/\X.H₀ b=none
 bsz:X.base.objs.size<=X.s₀.heap.objs.size
 noex:∀b o,X.base.get? b=some o->b∉X.ex
 exfs:∀b∈X.ex,b∉X.fs
 funs:X.s₀.heap.FunFrames X.base X.outer
 frf:∀b∈X.fs,X.H₀ b=none
structure af (X:Cx) (aeK:List (L9×Obj)) (U:List (Option V)) (H:Hp) (s:M6):Prop where
 ok:X.Ok
 os:s.os=X.s₀.os
 bare:OH s.gens
 base:Un X.fs X.ex X.H₀ H X.s₀.heap s.heap
 loc:∃m,s.heap.Ns X.env.locals m/\∀(i:Nat)(x:Str)(v:V),X.N[i]?=some x->U[i]?=some (some v)->u7 X.env.scope x->∃u,aG v u/\ada X.env s.heap m x u
 cell:∀x c,X.env.cells.lookup x=some c->∃v,s.heap.IsCell c v
 free:H X.env.locals=none
 freeC:∀x c,X.env.cells.lookup x=some c->H c=none
 pin:∀p∈X.pn++aeK,s.heap.get? p.1=some p.2/\H p.1=none/\p.1≠X.env.locals/\p.1∉X.fs/\∀v,p.2.data≠ .cell v
 hok:bQ X.prog X.w H s.heap
 len:U.length=X.N.length
section
variable{X:Cx}{aeK:List (L9×Obj)}{U:List (Option V)}{H H':Hp}{s:M6}{h':Md}
theorem Cx.Ok.nofr(ok:X.Ok){b:L9}{o:Obj}(e:X.base.get? b=some o):b∉X.fs:=λhb=>by
 have:=(ok.funs.mem hb).1;rw[e]at this;cases this
theorem af.bs(I:af X aeK U H s):∀b o,X.base.get? b=some o->s.heap.get? b=some o/\H b=none:=λb o e=>
 ⟨I.base.keep b o (I.ok.bs b o e).1 (I.ok.bs b o e).2 (I.ok.nofr e) (I.ok.noex b o e),I.base.free b o (I.ok.bs b o e).1 (I.ok.bs b o e).2 (I.ok.noex b o e)⟩
theorem af.bk(I:af X aeK U H s):∀b o,X.base.get? b=some o->s.heap.get? b=some o:=λb o e=>(I.bs b o e).1
theorem af.mod(I:af X aeK U H s):Mod X.K X.mg X.base:=I.ok.mod
theorem af.kIn(I:af X aeK U H s):X.K.In s.heap:=I.ok.mod.kin.keeps I.bk
theorem af.fr(I:af X aeK U H s):∃m,Fr X.base X.env.locals s.heap m:=
 let ⟨m,hn,_⟩:=I.loc
 ⟨m,hn,I.bk,Wy I.ok.bsz I.ok.above⟩
theorem af.lt(I:af X aeK U H s):X.env.locals < s.heap.objs.size:=let ⟨_,hn,_⟩:=I.loc;hn.lt
theorem af.sz(I:af X aeK U H s):X.s₀.heap.objs.size<=s.heap.objs.size:=Wy I.ok.above (YT I.lt)
theorem af.nofs(I:af X aeK U H s){a:L9}(h:s.heap.objs.size<=a):a∉X.fs:=λhb=>by
 obtain⟨_,o,ho,_⟩:=I.ok.funs.mem hb;exact absurd (XM (Wl ho) (Wy I.sz h)) (YY _)
theorem af.cne(I:af X aeK U H s):∀x c,X.env.cells.lookup x=some c->c≠X.env.locals:=λx c e z=>by
 obtain⟨v,o,ho,hd⟩:=I.cell x c e;obtain⟨m,⟨o',es,ep,ho',hd',_⟩,_⟩:=I.loc;rw[z,ho']at ho;cases ho;rw[hd']at hd;cases hd
theorem af.funs(I:af X aeK U H s):s.heap.FunFrames X.base X.outer:=by
 have all:∀(l:List Env),(∀b∈oE l,b∈X.fs)->X.s₀.heap.FunFrames X.base l->s.heap.FunFrames X.base l:=by
  intro l
  induction l with
  |nil=>intro _ _;trivial
  |cons env r ih=>
   intro hs hl;obtain⟨hk,⟨L,o,hf,hn,ho,hd⟩,hr⟩:=hl;have hL:L∈X.fs:=hs L (by unfold oE;rw[XS,hf];exact WR);obtain⟨sl,e⟩:=I.base.slot L o ho (I.ok.frf L hL) hL λz=>I.ok.exfs L z hL;exact⟨hk,⟨L,_,hf,hn,e,hd⟩,ih (λb hb=>hs b (by unfold oE;rw[XS,hf];exact Wu _ hb)) hr⟩
 exact all X.outer (λ_ hb=>hb) I.ok.funs
theorem af.stack(I:af X aeK U H s):s.heap.FunFrames X.base X.stack:=by
 rcases I.ok.stk with e|⟨e,hf⟩
 ·rw[e];exact I.funs
 ·rw[e];obtain⟨m,hn,_⟩:=I.loc;refine .cons (by rw[I.ok.kind];decide) hf hn ?_ I.funs;exact Heap.get?_none_of_le (Wy I.ok.bsz I.ok.above)
theorem af.stkSub(I:af X aeK U H s):∀b∈oE X.stack,b∈X.env.locals::X.fs:=λb hb=>by
 rcases I.ok.stk with e|⟨e,hf⟩
 ·rw[e]at hb;exact Wu _ hb
 ·rw[e]at hb;unfold oE at hb;rw[XS,hf]at hb;exact hb
theorem af.stkFree(I:af X aeK U H s):∀b∈oE X.stack,H b=none:=λb hb=>by
 rcases Wc.mp (I.stkSub b hb) with e|hb
 ·rw[e];exact I.free
 ·obtain⟨_,o,ho,_⟩:=I.ok.funs.mem hb;exact I.base.free b o ho (I.ok.frf b hb) λz=>I.ok.exfs b z hb
theorem af.step{g':Array PD}{t':Nat}{d':Drawn}{ch:List L9}(I:af X aeK U H s)
 (hch:∀b∈ch,(b∈X.ex\/X.s₀.heap.objs.size<=b)/\b≠X.env.locals/\(∀x c,X.env.cells.lookup x=some c->c≠b)/\∀p∈X.pn++aeK,p.1≠b)
 (keep:∀b o,b≠X.env.locals->b∉X.fs->b∉ch->s.heap.get? b=some o->H b=none->h'.get? b=some o)
 (slot:∀b o,b≠X.env.locals->b∈X.fs->b∉ch->s.heap.get? b=some o->H b=none->∃sl,h'.get? b=some {o with slots:=sl})(free:∀b o,b∉ch->s.heap.get? b=some o->H b=none->H' b=none)
 (there:∀b o,b∉ch->s.heap.get? b=some o->∃o',h'.get? b=some o')
 (tups:∀b xs,H b=some (.tup xs)->H' b=some (.tup xs))(frzs:∀b o u,H b=some (.frz o u)->H' b=some (.frz o u))(tbls:∀b ps,H b=some (.tbl ps)->∃more,H' b=some (.tbl (ps++more)))
 (ns:∀m,s.heap.Ns X.env.locals m->h'.Ns X.env.locals m)(hok:bQ X.prog X.w H' h')(hg:OH g'):
 af X aeK U H' {s with heap:=h',gens:=g',drawn:=d',toks:=t'}:=by
 have neL:∀b o,X.s₀.heap.get? b=some o->b≠X.env.locals:=λb o e=>WI (XM (Wl e) I.ok.above);have neC:∀b o,X.s₀.heap.get? b=some o->b∉X.ex->b∉ch:=λb o e hx hb=>by
  rcases(hch b hb).1 with z|z
  ·exact hx z
  ·exact absurd (XM (Wl e) z) (YY _)
 have cellK:∀x c,X.env.cells.lookup x=some c->∀v,s.heap.IsCell c v->h'.IsCell c v:=λx c e v uu=>by
  obtain⟨o,ho,hd⟩:=uu;have nch:c∉ch:=λz=>(hch c z).2.2.1 x c e rfl;by_cases hc:c∈X.fs
  ·obtain⟨sl,q⟩:=slot c o (I.cne x c e) hc nch ho (I.freeC x c e);exact⟨_,q,hd⟩
  ·exact⟨o,keep c o (I.cne x c e) hc nch ho (I.freeC x c e),hd⟩
 refine⟨I.ok,I.os,hg,⟨λb o e n hb hx=>?_,λb o e n hb hx=>?_,λb o e n hx=>?_,λb o e hx=>?_,λb xs e=>tups b xs (I.base.tups b xs e),λb o xs e=>frzs b o xs (I.base.frzs b o xs e),λb ps e=>?_⟩,?_,λx c e=>?_,?_,λx c e=>?_,λp hp=>?_,hok,I.len⟩
 ·exact keep b o (neL b o e) hb (neC b o e hx) (I.base.keep b o e n hb hx) (I.base.free b o e n hx)
 ·obtain⟨sl,e1⟩:=I.base.slot b o e n hb hx;obtain⟨sl',e2⟩:=slot b _ (neL b o e) hb (neC b o e hx) e1 (I.base.free b o e n hx);exact⟨sl',e2⟩
 ·obtain⟨o',e1⟩:=I.base.there b o e hx;exact free b o' (neC b o e hx) e1 (I.base.free b o e n hx)
 ·obtain⟨o',e1⟩:=I.base.there b o e hx;exact there b o' (neC b o e hx) e1
 ·obtain⟨m1,e1⟩:=I.base.tbls b ps e;obtain⟨m2,e2⟩:=tbls b _ e1;exact⟨m1++m2,by rw[e2,Array.append_assoc]⟩
 ·obtain⟨m,hn,hl⟩:=I.loc;refine⟨m,ns m hn,λi x v e1 e2 e3=>?_⟩;obtain⟨u,r,l⟩:=hl i x v e1 e2 e3;refine⟨u,r,?_⟩;rcases l with l|⟨k,c,e,z⟩
  ·exact .inl l
  ·exact .inr ⟨k,c,e,cellK x c e _ z⟩
 ·obtain⟨v,z⟩:=I.cell x c e;exact⟨v,cellK x c e v z⟩
 ·obtain⟨m,⟨o,_,_,ho,_⟩,_⟩:=I.loc;exact free _ o (λz=>(hch _ z).2.1 rfl) ho I.free
 ·obtain⟨v,o,ho,hd⟩:=I.cell x c e;exact free c o (λz=>(hch c z).2.2.1 x c e rfl) ho (I.freeC x c e)
 ·obtain⟨e,n,ne,nf,d⟩:=I.pin p hp;have nch:p.1∉ch:=λz=>(hch p.1 z).2.2.2 p hp rfl;exact⟨keep p.1 p.2 ne nf nch e n,free p.1 p.2 nch e n,ne,nf,d⟩
theorem af.un(I:af X aeK U H s)(u:Un X.fs [] H H' s.heap h')(hok:bQ X.prog X.w H' h'):af X aeK U H' {s with heap:=h',toks:=t'}:=by
 obtain⟨m,⟨o,es,ep,ho,r⟩,_⟩:=id I.loc;obtain⟨sl,hL⟩:=u.any ho I.free MC;exact I.step (g':=s.gens) (d':=s.drawn) (ch:=[]) (λ_ z=>nomatch z) (λb o _ hb _ e n=>u.keep b o e n hb MC) (λb o _ hb _ e n=>u.slot b o e n hb MC) (λb o _ e n=>u.free b o e n MC) (λb o _ e=>u.there b o e MC) u.tups u.frzs u.tbls (λm' hm=>by
  obtain⟨o',es',ep',ho',r'⟩:=hm;rw[ho]at ho';cases ho';exact⟨_,es',ep',hL,r'⟩) hok I.bare
theorem af.call(I:af X aeK U H s)(u:Un (oE X.stack) ch H H' s.heap h')(hok:bQ X.prog X.w H' h')(hg:OH g')
 (hch:∀b∈ch,(b∈X.ex\/X.s₀.heap.objs.size<=b)/\b≠X.env.locals/\(∀x c,X.env.cells.lookup x=some c->c≠b)/\∀p∈X.pn++aeK,p.1≠b):
 af X aeK U H' {s with heap:=h',gens:=g',drawn:=d',toks:=t'}:=by
 obtain⟨m,⟨o,es,ep,ho,r⟩,_⟩:=id I.loc;obtain⟨sl,hL⟩:=u.any ho I.free λz=>(hch _ z).2.1 rfl;exact I.step (ch:=ch) hch (λb o hL hb hc e n=>u.keep b o e n (λz=>(Wc.mp (I.stkSub b z)).elim hL hb) hc) (λb o _ _ hc e n=>u.any e n hc) (λb o hc e n=>u.free b o e n hc) (λb o hc e=>u.there b o e hc) u.tups u.frzs u.tbls (λm' hm=>by
  obtain⟨o',es',ep',ho',r'⟩:=hm;rw[ho]at ho';cases ho';exact⟨_,es',ep',hL,r'⟩) hok hg
theorem af.turned(I:af X aeK U H s)(k:∀b o,b≠it->s.heap.get? b=some o->h'.get? b=some o)(hn:H it=none)(hL:it≠X.env.locals)
 (h1:it∈X.ex\/X.s₀.heap.objs.size<=it)(h2:∀x c,X.env.cells.lookup x=some c->c≠it)(h3:∀p∈X.pn++aeK,p.1≠it):af X aeK U H {s with heap:=h',toks:=t'}:=by
 have nit:∀b u,H b=some u->b≠it:=λb u e z=>by rw[z,hn]at e;cases e
 refine I.step (g':=s.gens) (d':=s.drawn) (ch:=[it]) (λb hb=>?_) (λb o _ _ hc e _=>k b o (λz=>hc (by simp[z])) e) (λb o _ _ hc e _=>⟨o.slots,k b o (λz=>hc (by simp[z])) e⟩) (λ_ _ _ _ n=>n)
  (λb o hc e=>⟨o,k b o (λz=>hc (by simp[z])) e⟩) (λ_ _ e=>e) (λ_ _ _ e=>e) (λb ps e=>⟨#[],by rw[e];simp⟩) (λm hm=>?_) (λb u e=>?_) I.bare
 ·have e:b=it:=by simpa using hb
  subst e;exact⟨h1,hL,h2,h3⟩
 ·obtain⟨o,es,ep,ho,r⟩:=hm;exact⟨o,es,ep,k _ o (Ne.symm hL) ho,r⟩
 ·refine(I.hok b u e).stay (λc v hc q=>k c v ?_ q) (λ_ q=>q) (λ_ _ q=>q) λ_ _ q=>q;rcases hc with z|z
  ·rw[z];exact nit b u e
  ·exact nit c _ z
theorem af.tok(I:af X aeK U H s)(t:Nat):af X aeK U H {s with toks:=t}:=I.un (h':=s.heap) (t':=t) Un.refl I.hok
theorem af.kept(I:af X aeK U H s)(k:∀b u,s.heap.get? b=some u->h'.get? b=some u):af X aeK U H {s with heap:=h',toks:=t'}:=I.un (Un.kept k) (I.hok.kept k)
theorem af.laid{a:L9}{t':Nat}(I:af X aeK U H s)(k:∀b u,s.heap.get? b=some u->h'.get? b=some u)(hp:s.heap.objs.size<=a)(new:cA X.prog X.w (ai H a o) h' a o):
 af X aeK U (ai H a o) {s with heap:=h',toks:=t'}:=I.un (Un.laid k hp (I.hok.fresh hp)) (I.hok.laid k hp new)
theorem af.write(I:af X aeK U H s)(mu:tX (H x))(he:e=x\/H e=some (.own x))(k:∀b u,b≠e->s.heap.get? b=some u->h'.get? b=some u)(heo:∃u,h'.get? e=some u)
 (new:cA X.prog X.w (ai H x o) h' x o):af X aeK U (ai H x o) {s with heap:=h',toks:=t'}:=I.un (Un.write mu he k heo) (I.hok.write mu he k heo new)
theorem af.weak{U':List (Option V)}(I:af X aeK U H s)(hl:U'.length=U.length)(w:∀(i:Nat) v,U'[i]?=some (some v)->U[i]?=some (some v)):af X aeK U' H s:=
 ⟨I.ok,I.os,I.bare,I.base,let ⟨m,hn,hl'⟩:=I.loc;⟨m,hn,λi x v e1 e2 e3=>hl' i x v e1 (w i v e2) e3⟩,I.cell,I.free,I.freeC,I.pin,I.hok,hl.trans I.len⟩
theorem af.pins_of(I:af X aeK U H s)(h:∀p∈pins',s.heap.get? p.1=some p.2/\H p.1=none/\p.1≠X.env.locals/\p.1∉X.fs/\∀v,p.2.data≠ .cell v):af X pins' U H s:=
 ⟨I.ok,I.os,I.bare,I.base,I.loc,I.cell,I.free,I.freeC,λp hp=>(Wo.mp hp).elim (λz=>I.pin p (Za _ z)) (h p),I.hok,I.len⟩
theorem Ey{N:List Str}(hN:N.Nodup){i j:Nat}{x:Str}(a:N[i]?=some x)(b:N[j]?=some x):i=j:=by
 obtain⟨h1,e1⟩:=Wf.mp a;obtain⟨h2,e2⟩:=Wf.mp b;exact(Z7 hN).mp (e1.trans e2.symm)
theorem Ez{Q:Unit->M6->Prop}(I:af X aeK U H s)(hN:X.N.Nodup)(hi:X.N[i]?=some x)(hx:oR X.env.scope x)(r:aG v u)
 (h:∀s',af X aeK (U.set i (some v)) H s'->(∃a,YU a s.heap s'.heap/\(a=X.env.locals\/X.env.cells.lookup x=some a))->Q () s')(hf:X.fn x=true\/X.env.scope.names.lookup x=some .local:=by first|exact .inl rfl|exact .inr rfl|assumption):MD M A (storeName X.env x u) Q E s:=by
 obtain⟨m,hn,hl⟩:=id I.loc;have hcls:(X.env.scope.kind== .class || (X.env.scope.kind== .module && X.env.locals !=X.env.globals))=false:=by rw[I.ok.kind];rfl
 have hiσ:i < U.length:=by rw[I.len];exact(Wf.mp hi).1
 have cne:=I.cne;have tracked:∀{a:L9}{h':Md},(∃o,s.heap.get? a=some o/\H a=none)->YU a s.heap h'->bQ X.prog X.w H h':=λ{a h'} ha hs b ob e=>by
  obtain⟨_,_,hfree⟩:=ha;refine(I.hok b ob e).stay (λc w' hc q=>(hs.2 c ?_).trans q) (λ_ q=>q) (λ_ _ q=>q) λ_ _ q=>q;rintro rfl;rcases hc with rfl|hc
  ·rw[hfree]at e;cases e
  ·rw[hfree]at hc;cases hc
 rcases hx with hk|hk
 ·refine wpAny_storeName_local hk hn (λh' hn' hs=>?_) hcls;obtain⟨oL,_,_,hoL,_⟩:=id hn;refine h _ ⟨I.ok,I.os,I.bare,⟨λb o e n hb hx=>?_,λb o e n hb hx=>?_,I.base.free,λb o e hx=>?_,I.base.tups,I.base.frzs,I.base.tbls⟩,⟨_,hn',λj y v' e1 e2 e3=>?_⟩,λy c e=>?_,I.free,I.freeC,λp hp=>?_,tracked ⟨oL,hoL,I.free⟩ hs,by simpa using I.len⟩ ⟨_,hs,.inl rfl⟩
  ·exact(hs.2 b (WI (XM (Wl e) I.ok.above))).trans (I.base.keep b o e n hb hx)
  ·obtain⟨sl,e1⟩:=I.base.slot b o e n hb hx;exact⟨sl,(hs.2 b (WI (XM (Wl e) I.ok.above))).trans e1⟩
  ·obtain⟨o',e1⟩:=I.base.there b o e hx;exact⟨o',(hs.2 b (WI (XM (Wl e) I.ok.above))).trans e1⟩
  ·by_cases hj:j=i
   ·subst hj;rw[hi]at e1;cases e1;rw[WM hiσ]at e2;cases e2;exact⟨u,r,.inl ⟨hk,MC⟩⟩
   ·rw[Wg (Ne.symm hj)]at e2;obtain⟨u',r',q⟩:=hl j y v' e1 e2 e3;refine⟨u',r',?_⟩;rcases q with⟨k,e⟩|⟨k,c,e,z⟩
    ·refine .inl ⟨k,?_⟩;have:y≠x:=λe=>hj (Ey hN e1 (e▸hi));simp[this,e]
    ·exact .inr ⟨k,c,e,z.sameBut hs (cne y c e)⟩
  ·obtain⟨w',z⟩:=I.cell y c e;exact⟨w',z.sameBut hs (cne y c e)⟩
  ·obtain⟨e,n,ne,nf,d⟩:=I.pin p hp;exact⟨(hs.2 p.1 ne).trans e,n,ne,nf,d⟩
 ·have hfn:X.fn x=true:=by
   rcases hf with z|z
   ·exact z
   ·rw[z]at hk;cases hk
  obtain⟨c,hc⟩:=I.ok.has x (.inl hk);obtain⟨w',z⟩:=I.cell x c hc;refine wpAny_storeName_cell I.ok.kind hk hc z (λh' hc' hs=>?_);obtain⟨oc,hoc,hocd⟩:=id z;refine h {s with heap:=h'} ⟨I.ok,I.os,I.bare,⟨λb o e n hb hx=>?_,λb o e n hb hx=>?_,I.base.free,λb o e hx=>?_,I.base.tups,I.base.frzs,I.base.tbls⟩,⟨m,hn.sameBut hs (Ne.symm (cne x c hc)),λj y v' e1 e2 e3=>?_⟩,λy c' e=>?_,I.free,I.freeC,λp hp=>?_,tracked ⟨oc,hoc,I.freeC x c hc⟩ hs,by simpa using I.len⟩ ⟨c,hs,.inr hc⟩
  ·exact(hs.2 b (WI (XM (Wl e) (I.ok.cab x c hfn hc)))).trans (I.base.keep b o e n hb hx)
  ·obtain⟨sl,e1⟩:=I.base.slot b o e n hb hx;exact⟨sl,(hs.2 b (WI (XM (Wl e) (I.ok.cab x c hfn hc)))).trans e1⟩
  ·obtain⟨o',e1⟩:=I.base.there b o e hx;exact⟨o',(hs.2 b (WI (XM (Wl e) (I.ok.cab x c hfn hc)))).trans e1⟩
  ·by_cases hj:j=i
   ·subst hj;rw[hi]at e1;cases e1;rw[WM hiσ]at e2;cases e2;exact⟨u,r,.inr ⟨.inl hk,c,hc,hc'⟩⟩
   ·rw[Wg (Ne.symm hj)]at e2;obtain⟨u',r',q⟩:=hl j y v' e1 e2 e3;refine⟨u',r',?_⟩;rcases q with q|⟨k,c',e,z'⟩
    ·exact .inl q
    ·refine .inr ⟨k,c',e,z'.sameBut hs ?_⟩;rintro rfl;exact hj (Ey hN e1 (I.ok.inj _ _ _ e hc▸hi))
  ·by_cases hcc:c'=c
   ·subst hcc;exact⟨_,hc'⟩
   ·obtain⟨w2,z2⟩:=I.cell y c' e;exact⟨w2,z2.sameBut hs hcc⟩
  ·obtain⟨e,n,ne,nf,d⟩:=I.pin p hp;refine⟨(hs.2 p.1 ?_).trans e,n,ne,nf,d⟩;intro q;rw[q,hoc]at e;have q':oc=p.2:=Xt e;exact d w' (by rw[<-q'];exact hocd)
theorem EA{Q:Unit->M6->Prop}(I:af X aeK U H s)(hN:X.N.Nodup)(hi:X.N[i]?=some x)(hx:oR X.env.scope x)(r:aG v u)
 (h:∀s',af X aeK (U.set i (some v)) H s'->Q () s')(hf:X.fn x=true\/X.env.scope.names.lookup x=some .local:=by first|exact .inl rfl|exact .inr rfl|assumption):MD M A (storeName X.env x u) Q E s:=
 Ez I hN hi hx r (λs' I' _=>h s' I') hf
theorem af.call'{s':M6}(I:af X aeK U H s)(ho:s'.os=s.os)(u:Un (oE X.stack) ch H H' s.heap s'.heap)(hok:bQ X.prog X.w H' s'.heap)(hg:OH s'.gens)
 (hch:∀b∈ch,(b∈X.ex\/X.s₀.heap.objs.size<=b)/\b≠X.env.locals/\(∀x c,X.env.cells.lookup x=some c->c≠b)/\∀p∈X.pn++aeK,p.1≠b):af X aeK U H' s':=by
 obtain⟨h',g',d',t',o'⟩:=s';have e:o'=s.os:=ho;subst e;exact I.call (g':=g') (t':=t') (d':=d') u hok hg hch
end
abbrev XK:=M3->Option L9->Hp->Prop
abbrev St:=List (Option V)
abbrev VK:=V->Hp->Prop
abbrev TE:=St->Hp->VK->Prop
abbrev TT:=St->Hp->(Bool->Hp->Prop)->Prop
abbrev TA:=St->Hp->(List V->Hp->Prop)->Prop
structure qZ where
 nx:St->Hp->Prop
 rt:VK
 bk:St->Hp->Prop:=λ_ _=>False
 ct:St->Hp->Prop:=λ_ _=>False
abbrev TS:=qZ->St->Hp->Prop
inductive EP(X:Cx)(aeK:List (L9×Obj))(U:St)(Q:VK)(u:M3)(s':M6):Prop
 |mk (v:V) (H':Hp):af X aeK U H' s'->aG v u->Q v H'->EP X aeK U Q u s'
inductive TP(X:Cx)(aeK:List (L9×Obj))(U:St)(Q:Bool->Hp->Prop)(b:Bool)(s':M6):Prop
 |mk (H':Hp):af X aeK U H' s'->Q b H'->TP X aeK U Q b s'
inductive AP(X:Cx)(aeK:List (L9×Obj))(U:St)(Q:List V->Hp->Prop)(us:List M3)(s':M6):Prop
 |mk (vs:List V) (H':Hp):af X aeK U H' s'->aF vs us->Q vs H'->AP X aeK U Q us s'
def SP(X:Cx)(aeK:List (L9×Obj))(D:qZ)(f:Flow)(s':M6):Prop:=
 match f with
 | .next=>∃U' H',af X aeK U' H' s'/\D.nx U' H'
 | .brk=>∃U' H',af X aeK U' H' s'/\D.bk U' H'
 | .cont=>∃U' H',af X aeK U' H' s'/\D.ct U' H'
 | .ret u=>∃v U' H',af X aeK U' H' s'/\aG v u/\D.rt v H'
def PE(X:Cx)(e:Mb)(t:TE):Prop:=
 ∀(aeK:List (L9×Obj))(s:M6)(U:St)(H:Hp)(Q:VK),af X aeK U H s->t U H Q->MD (MK X.prog X.w) X.A (eval e X.env) (EP X aeK U Q) X.xe s
def PT(X:Cx)(e:Mb)(t:TT):Prop:=
 ∀(aeK:List (L9×Obj))(s:M6)(U:St)(H:Hp)(Q:Bool->Hp->Prop),af X aeK U H s->t U H Q->MD (MK X.prog X.w) X.A (isTrue e X.env (eval e X.env)) (TP X aeK U Q) X.xe s
def PW(X:Cx)(e:Mb)(t:TT):Prop:=
 ∀(whole:Sem M3)(aeK:List (L9×Obj))(s:M6)(U:St)(H:Hp)(Q:Bool->Hp->Prop),af X aeK U H s->t U H Q->MD (MK X.prog X.w) X.A (isTrue e X.env whole) (TP X aeK U Q) X.xe s
theorem PW.pt(h:PW X e t):PT X e t:=h _
def PA(X:Cx)(es:List Mb)(t:TA):Prop:=
 ∀(pos:Pos)(aeK:List (L9×Obj))(s:M6)(U:St)(H:Hp)(Q:List V->Hp->Prop),af X aeK U H s->t U H Q->MD (MK X.prog X.w) X.A (spliced (Mj pos (MQ es X.env))) (AP X aeK U Q) X.xe s
def PS(X:Cx)(st:MU)(t:TS):Prop:=
 ∀(aeK:List (L9×Obj))(s:M6)(U:St)(H:Hp)(D:qZ),af X aeK U H s->t D U H->MD (MK X.prog X.w) X.A (exec st X.env) (SP X aeK D) X.xe s
def bE(X:Cx)(st:List MU)(t:TS):Prop:=
 ∀(aeK:List (L9×Obj))(s:M6)(U:St)(H:Hp)(D:qZ),af X aeK U H s->t D U H->MD (MK X.prog X.w) X.A (execs st X.env) (SP X aeK D) X.xe s
theorem aA{α:Type}{t:Sem α}{Q Q':α->M6->Prop}{M:Model}{A:N0}{E:M3->M6->Prop}{s:M6}(h:MD M A t Q E s)(hQ:∀a s,Q a s->Q' a s):MD M A t Q' E s:=NB h hQ λ_ _ x=>x
section
variable{X:Cx}
theorem abW{a b:Mb}{ta tb:TE}(ha:PE X a ta)(hb:PE X b tb){aeK:List (L9×Obj)}{s:M6}{U:St}{H:Hp}{R:V->V->Hp->Prop}(I:af X aeK U H s)(h:ta U H λx H1=>tb U H1 λy H2=>R x y H2)
 {α:Type}{Q:α->M6->Prop}{f:M3->M3->Sem α}
 (hf:∀v u s2 x y H2,af X aeK U H2 s2->aG x v->aG y u->R x y H2->MD (MK X.prog X.w) X.A (f v u) Q X.xe s2):
 MD (MK X.prog X.w) X.A (eval a X.env) (λv s₁=>MD (MK X.prog X.w) X.A (eval b X.env) (λu s₂=>MD (MK X.prog X.w) X.A (f v u) Q X.xe s₂) X.xe s₁) X.xe s:=by
 refine aA (ha aeK s U H _ I h) λv s1 ⟨x,H1,I1,r1,q1⟩=>?_;refine aA (hb aeK s1 U H1 _ I1 q1) λu s2 ⟨y,H2,I2,r2,q2⟩=>?_;exact hf v u s2 x y H2 I2 r1 r2 q2
def lW(i:Nat):TE:=λU H Q=>∃v,U[i]?=some (some v)/\Q v H
def tC(v:V):TE:=λ_ H Q=>Q v H
theorem A2{i:Nat}{x:Str}{pos:Pos}(hN:X.N[i]?=some x)(hv:u7 X.env.scope x)(hd:(x==("__debug__":Str))=false:=by decide)(hcd:(x==("__classdict__":Str))=false:=by decide):PE X (.Name x pos) (lW i):=by
 intro aeK s U H Q I h;obtain⟨v,e,h⟩:=h;obtain⟨m,hn,hl⟩:=I.loc;obtain⟨u,r,l⟩:=hl i x v hN e hv;have fin:EP X aeK U Q u s:=⟨v,H,I,r,h⟩;rcases l with⟨hk,hm⟩|⟨hk,c,hc,hcell⟩
 ·exact wpAny_Name (wpAny_loadName_local I.ok.kind hk hn hm fin) hd
 ·rcases hk with hk|hk
  ·exact wpAny_Name (wpAny_loadName_cell I.ok.kind hk hc hcell fin) hd
  ·exact wpAny_Name (wpAny_loadName_free I.ok.kind hk hc hcell fin hcd) hd
theorem bC:PE X (.Constant (.int i) j pos) (tC (.int i)):=λ_ _ _ H _ I h=>wpAny_Constant_int ⟨.int i,H,I.tok _,⟨_,rfl⟩,h⟩
theorem EB:PE X (.Constant (.bool b) j pos) (tC (.bl b)):=λ_ _ _ H _ I h=>Constant_bool ⟨.bl b,H,I,rfl,h⟩
theorem EC:PE X (.Constant .none j pos) (tC .non):=λ_ _ _ H _ I h=>Constant_none ⟨.non,H,I,rfl,h⟩
theorem A3:PE X (.Constant (.str x) j pos) (tC (.str x)):=λ_ _ _ H _ I h=>Calls.Constant_str ⟨.str x,H,I.tok _,⟨_,rfl⟩,h⟩
def Gl(X:Cx)(x:Str):Prop:=X.env.kindOf x=some .globalImplicit
theorem wc{E:M3->M6->Prop}{aeK:List (L9×Obj)}{s:M6}{U:St}{x:Str}{u:M3}{Q:M3->M6->Prop}(I:af X aeK U H s)(hg:Gl X x)(hm:X.mg x=some u)(h:Q u s)
 (hd:(x==("__debug__":Str))=false:=by decide):MD (MK X.prog X.w) X.A (eval (.Name x pos) X.env) Q E s:=
 Rg I.ok.kind hg (Calls.loadGlobal_global (by rw[I.ok.glob];exact I.mod.glob.keeps I.bk) hm h) hd
theorem sJ{E:M3->M6->Prop}{aeK:List (L9×Obj)}{s:M6}{U:St}{H:Hp}{x:Str}{u:M3}{pos:Pos}{Q:M3->M6->Prop}(I:af X aeK U H s)(hg:Gl X x)(hm:X.mg x=none)(hv:N6 x=some u)(h:Q u s)
 (hn:x≠"__name__":=by decide)(hd:(x==("__debug__":Str))=false:=by decide):MD (MK X.prog X.w) X.A (eval (.Name x pos) X.env) Q E s:=by
 obtain⟨mb,h1,h2⟩:=I.mod.blt;exact Rg I.ok.kind hg (Calls.loadGlobal_builtin (by rw[I.ok.glob];exact I.mod.glob.keeps I.bk) hm (by rw[I.ok.blt];exact h1.keeps I.bk) ((h2 x hn).trans hv) h) hd
theorem tY(hg:Gl X x)(hm:X.mg x=some u)(r:aG v u)(hd:(x==("__debug__":Str))=false:=by decide):PE X (.Name x pos) (tC v):=
 λ_ _ _ H _ I h=>wc I hg hm ⟨v,H,I,r,h⟩ hd
theorem ED{x:Str}{v:V}{u:M3}{pos:Pos}(hg:Gl X x)(hm:X.mg x=none)(hv:N6 x=some u)(r:aG v u)(hn:x≠"__name__":=by decide)(hd:(x==("__debug__":Str))=false:=by decide):PE X (.Name x pos) (tC v):=
 λ_ _ _ H _ I h=>sJ I hg hm hv ⟨v,H,I,r,h⟩ hn hd
variable{a b:Mb}{ta tb:TE}{pos:Pos}
def PC(X:Cx)(op:CmpOp)(a b:Mb)(t:TE):Prop:=
 ∀(aeK:List (L9×Obj))(s:M6)(U:St)(H:Hp)(Q:VK),af X aeK U H s->t U H Q->
  MD (MK X.prog X.w) X.A (eval a X.env) (λv s₁=>MD (MK X.prog X.w) X.A (eval b X.env) (λu s₂=>MD (MK X.prog X.w) X.A (Mz op v u) (EP X aeK U Q) X.xe s₂) X.xe s₁) X.xe s
theorem adw(b:Mb)(h:op≠ .In)(h2:op≠ .NotIn):Nb op b=false:=by
 have e1:(op==CmpOp.In)=false:=by cases op<;>first|rfl|exact absurd rfl h
 have e2:(op==Vw)=false:=by cases op<;>first|rfl|exact absurd rfl h2
 cases b<;>simp[Nb,e1,e2]
def EF(ta:TE):TE:=λU H Q=>ta U H λx H1=>Q (.bl (!decide (x= .non))) H1
theorem aG.none_iff(r:aG x v):(v==Yn)=decide (x= .non):=by
 cases x with
 |non=>cases r;rfl
 |bl _=>cases r;rfl
 |int _=>obtain⟨t,rfl⟩:=r;rfl
 |str _=>obtain⟨t,rfl⟩:=r;rfl
 |byt _=>obtain⟨t,rfl⟩:=r;rfl
 |flt _=>obtain⟨t,rfl⟩:=r;rfl
 |ref _=>cases r;rfl
 |ty _=>cases r;rfl
theorem Mr(ha:PE X a ta):PC X .IsNot a (.Constant .none j pos') (EF ta):=by
 intro aeK s U H Q I h;refine aA (ha aeK s U H _ I h) λv s1 ⟨x,H1,I1,r1,q1⟩=>?_;exact Constant_none (isnot_none_gen ⟨.bl _,H1,I1,by rw[r1.none_iff];rfl,q1⟩)
def tB(t:TE):TT:=λU H Q=>t U H λx H1=>∃c,x= .bl c/\Q c H1
theorem we(h:PC X op a b t)(h1:Nb op b=false:=by first|exact adw _ MA MA|rfl):PT X (.Compare a [op] [b] pos) (tB t):=by
 intro aeK s U H Q I hw;refine wpAny_isTrue_Compare1 (aA (h aeK s U H _ I hw) λv s1 h1=>aA h1 λu s2 h2=>aA h2 λc s3 ⟨x,H1,I1,r1,q1⟩=>?_) h1;obtain⟨d,rfl,q⟩:=q1;cases r1;exact Nu ⟨H1,I1,q⟩
theorem EG(h:PE X e t)(he:∀whole,isTrue e X.env whole=(do let v<-whole;Nz e.pos;NL [v] (truthy v)):=by intro _;rfl):PT X e (tB t):=by
 intro aeK s U H Q I hw;refine isTrue_plain (aA (h aeK s U H _ I hw) λv s1 ⟨x,H1,I1,r1,q1⟩=>?_) (he _);obtain⟨d,rfl,q⟩:=q1;cases r1;exact Nu ⟨H1,I1,q⟩
variable{tA tB':TT}{rest:List Mb}
def EH(t u:TT):TT:=λU H Q=>t U H λc H1=>if c=true then u U H1 Q else Q false H1
def EI(t u:TT):TT:=λU H Q=>t U H λc H1=>if c=true then Q true H1 else u U H1 Q
def EJ(t:TT):TT:=λU H Q=>t U H λc H1=>Q (!c) H1
theorem EK(ha:PT X a tA):PW X (.BoolOp .And [a] pos) tA:=by
 intro wh aeK s U H Q I h;refine isTrue_and (aA (ha aeK s U H Q I h) λc s1 e=>?_);cases c with
 |true=>exact isTrue_and_nil e
 |false=>exact e
theorem Ms(ha:PT X a tA):PW X (.BoolOp .Or [a] pos) tA:=by
 intro wh aeK s U H Q I h;refine isTrue_or (aA (ha aeK s U H Q I h) λc s1 e=>?_);cases c with
 |false=>exact isTrue_or_nil e
 |true=>exact e
theorem EL(ha:PT X a tA)(hb:PW X (.BoolOp .And (b::rest) pos) tB'):PW X (.BoolOp .And (a::b::rest) pos) (EH tA tB'):=by
 intro wh aeK s U H Q I h;refine isTrue_and (aA (ha aeK s U H _ I h) λc s1 ⟨H1,I1,q1⟩=>?_);cases c with
 |true=>exact hb wh aeK s1 U H1 Q I1 q1
 |false=>exact⟨H1,I1,q1⟩
theorem adf(ha:PT X a tA)(hb:PW X (.BoolOp .Or (b::rest) pos) tB'):PW X (.BoolOp .Or (a::b::rest) pos) (EI tA tB'):=by
 intro wh aeK s U H Q I h;refine isTrue_or (aA (ha aeK s U H _ I h) λc s1 ⟨H1,I1,q1⟩=>?_);cases c with
 |true=>exact⟨H1,I1,q1⟩
 |false=>exact hb wh aeK s1 U H1 Q I1 q1
theorem Mu(ha:PT X a tA):PT X (.UnaryOp .Not a pos) (EJ tA):=by
 intro aeK s U H Q I h;exact isTrue_not (aA (ha aeK s U H (λc H1=>Q (!c) H1) I h) λc s1 uu=>by obtain⟨H1,I1,q⟩:=uu;exact⟨H1,I1,q⟩)
def EM(ta tb:TE):TE:=λU H Q=>ta U H λx H1=>∃c,x= .bl c/\if c=true then tb U H1 Q else Q (.bl false) H1
def EN(ta tb:TE):TE:=λU H Q=>ta U H λx H1=>∃c,x= .bl c/\if c=true then Q (.bl true) H1 else tb U H1 Q
theorem A4(h:PE X a t):PE X (.BoolOp op [a] pos) t:=λaeK s U H Q I hw=>BoolOp_one (h aeK s U H Q I hw)
theorem EO(ha:PE X a ta)(hb:PE X (.BoolOp .And (b::rest) pos) tb):PE X (.BoolOp .And (a::b::rest) pos) (EM ta tb):=by
 intro aeK s U H Q I h;refine BoolOp_and (aA (ha aeK s U H _ I h) λv s1 ⟨x,H1,I1,r1,q1⟩=>?_);obtain⟨c,rfl,q1⟩:=q1;cases r1;refine Nu ?_;cases c with
 |true=>exact hb aeK s1 U H1 Q I1 q1
 |false=>exact⟨.bl false,H1,I1,rfl,q1⟩
theorem Mv(ha:PE X a ta)(hb:PE X (.BoolOp .Or (b::rest) pos) tb):PE X (.BoolOp .Or (a::b::rest) pos) (EN ta tb):=by
 intro aeK s U H Q I h;refine BoolOp_or (aA (ha aeK s U H _ I h) λv s1 ⟨x,H1,I1,r1,q1⟩=>?_);obtain⟨c,rfl,q1⟩:=q1;cases r1;refine Nu ?_;cases c with
 |false=>exact hb aeK s1 U H1 Q I1 q1
 |true=>exact⟨.bl true,H1,I1,rfl,q1⟩
def ER(t:TT)(ta tb:TE):TE:=λU H Q=>t U H λc H1=>if c=true then ta U H1 Q else tb U H1 Q
theorem ES(hc:PT X c tA)(ha:PE X a ta)(hb:PE X b tb):PE X (.IfExp c a b pos) (ER tA ta tb):=by
 intro aeK s U H Q I h;refine wpAny_IfExp (aA (hc aeK s U H _ I h) λd s1 ⟨H1,I1,q1⟩=>?_);cases d with
 |true=>exact ha aeK s1 U H1 Q I1 q1
 |false=>exact hb aeK s1 U H1 Q I1 q1
end
def bb(Z:VZ)(H:Hp)(a:L9)(xs:List V):Prop:=
 Rd H a (.lst xs)\/
  ∃(o:Obj)(its:Array M3)(n:Nat),Z.lookup a=some o/\o.cls= .type "list"/\o.dict=none/\o.data= .seq its n/\its.size<=MT/\aF xs its.toList
def bo(Z:VZ)(H:Hp)(a:L9)(xs:List V):Prop:=
 Rd H a (.tup xs)\/
  ∃(o:Obj)(its:Array M3)(n:Nat),Z.lookup a=some o/\o.cls= .type "tuple"/\o.data= .seq its n/\its.size<=MT/\aF xs its.toList
def Mw:M3->Option V
 | .none=>some .non
 | .bool b=>some (.bl b)
 | .int i _=>some (.int i)
 | .str x _=>some (.str x)
 | .bytes b _=>some (.byt b)
 | .float b _=>some (.flt b)
 | .ref a=>some (.ref a)
 | .type n=>some (.ty n)
 |_=>none
theorem aG.abs(r:aG x u):Mw u=some x:=by
 cases x with
 |non=>cases r;rfl
 |bl _=>cases r;rfl
 |int _=>obtain⟨t,rfl⟩:=r;rfl
 |str _=>obtain⟨t,rfl⟩:=r;rfl
 |byt _=>obtain⟨t,rfl⟩:=r;rfl
 |flt _=>obtain⟨t,rfl⟩:=r;rfl
 |ref _=>cases r;rfl
 |ty _=>cases r;rfl
theorem aG.inj(r:aG x u)(q:aG y u):x=y:=Xt (r.abs.symm.trans q.abs)
theorem aF.inj:∀{xs ys:List V}{us:List M3},aF xs us->aF ys us->xs=ys
 |_,_,_,.nil,.nil=>rfl
 |_,_,_,.cons r t,.cons r' t'=>by rw[r.inj r',aF.inj t t']
section
variable{X:Cx}{aeK:List (L9×Obj)}{U:St}{H:Hp}{s:M6}{a:L9}{xs ys:List V}
theorem bb.of(h:H a=some (.lst xs)):bb Z H a xs:= .inl (.inl h)
theorem bo.of(h:H a=some (.tup xs)):bo Z H a xs:= .inl (.inl h)
theorem af.list(I:af X aeK U H s)(h:bb X.K H a xs):∃its:List M3,aF xs its/\PlainL s.heap a its.toArray/\xs.length<=MT:=by
 rcases h with h|⟨o,its,n,hk,hc,hd,hs,hz,r⟩
 ·obtain⟨z,its,n,r,e⟩:=h.ok I.hok;exact⟨its,r,⟨_,n,e,rfl,rfl,rfl⟩,z⟩
 ·refine⟨its.toList,r,⟨o,n,I.kIn a o hk,hc,hd,by simpa using hs⟩,?_⟩;have e:=r.length;simp only[WA]at e;omega
theorem af.tuple(I:af X aeK U H s)(h:bo X.K H a xs):∃its:List M3,aF xs its/\IsTup s.heap a its.toArray/\xs.length<=MT:=by
 rcases h with h|⟨o,its,n,hk,hc,hs,hz,r⟩
 ·obtain⟨z,its,r,p⟩:=h.ok I.hok;exact⟨its,r,p,z⟩
 ·refine⟨its.toList,r,⟨o,I.kIn a o hk,hc,n,by simpa using hs⟩,?_⟩;have e:=r.length;simp only[WA]at e;omega
theorem af.list_inj(I:af X aeK U H s)(h:bb X.K H a xs)(h':bb X.K H a ys):xs=ys:=by
 obtain⟨its,r,⟨o,n,e,_,_,d⟩,_⟩:=I.list h;obtain⟨its',r',⟨o',n',e',_,_,d'⟩,_⟩:=I.list h';rw[e]at e';cases e';rw[d]at d';injection d' with d1 _
 have:its=its':=by simpa using congrArg Vv d1
 subst this;exact r.inj r'
theorem af.tuple_inj(I:af X aeK U H s)(h:bo X.K H a xs)(h':bo X.K H a ys):xs=ys:=by
 obtain⟨its,r,⟨o,e,_,n,d⟩,_⟩:=I.tuple h;obtain⟨its',r',⟨o',e',_,n',d'⟩,_⟩:=I.tuple h';rw[e]at e';cases e';rw[d]at d';injection d' with d1 _
 have:its=its':=by simpa using congrArg Vv d1
 subst this;exact r.inj r'
end
abbrev Cx.wish(X:Cx)(E:M3->M6->Prop):Cx:={X with xe:=E}
abbrev Cx.nox(X:Cx):Cx:=X.wish λ_ _=>False
theorem Cx.Ok.wish{X:Cx}(ok:X.Ok)(E:M3->M6->Prop):(X.wish E).Ok:=
 ⟨ok.mod,ok.kind,ok.glob,ok.blt,ok.above,ok.inj,ok.has,ok.cab,ok.hd,ok.frames,ok.stk,ok.exf,ok.bs,ok.bsz,ok.noex,ok.exfs,ok.funs,ok.frf⟩
theorem Cx.Ok.unwish{X:Cx}(ok:(X.wish E).Ok):X.Ok:=
 ⟨ok.mod,ok.kind,ok.glob,ok.blt,ok.above,ok.inj,ok.has,ok.cab,ok.hd,ok.frames,ok.stk,ok.exf,ok.bs,ok.bsz,ok.noex,ok.exfs,ok.funs,ok.frf⟩
section
variable{X:Cx}{aeK:List (L9×Obj)}{U:St}{H:Hp}{s:M6}{E:M3->M6->Prop}
theorem af.wish(I:af X aeK U H s)(E:M3->M6->Prop):af (X.wish E) aeK U H s:=⟨I.ok.wish E,I.os,I.bare,I.base,I.loc,I.cell,I.free,I.freeC,I.pin,I.hok,I.len⟩
theorem af.unwish(I:af (X.wish E) aeK U H s):af X aeK U H s:=⟨I.ok.unwish,I.os,I.bare,I.base,I.loc,I.cell,I.free,I.freeC,I.pin,I.hok,I.len⟩
theorem SP.unwish(h:SP (X.wish E) aeK D f s'):SP X aeK D f s':=by
 cases f with
 |next=>obtain⟨U',H',I,q⟩:=h;exact⟨U',H',I.unwish,q⟩
 |brk=>obtain⟨U',H',I,q⟩:=h;exact⟨U',H',I.unwish,q⟩
 |cont=>obtain⟨U',H',I,q⟩:=h;exact⟨U',H',I.unwish,q⟩
 |ret u=>obtain⟨v,U',H',I,r,q⟩:=h;exact⟨v,U',H',I.unwish,r,q⟩
theorem bE.nox{st:List MU}{t:TS}(h:bE X.nox st t):bE X st t:=λaeK s U H D I hw=>
 NB (h aeK s U H D (I.wish _) hw) (λ_ _ q=>q.unwish) λ_ _ z=>Yo z
end
section
variable{X:Cx}{st:MU}{rest:List MU}{t u:TS}{e:Mb}{te:TE}{pos:Pos}
def ET:TS:=λD U H=>D.nx U H
def A5(t u:TS):TS:=λD U H=>t {D with nx:=u D} U H
theorem sL:bE X [] ET:=λ_ _ U H _ I h=>Pd ⟨U,H,I,h⟩
theorem gW(h1:PS X st t)(h2:bE X rest u):bE X (st::rest) (A5 t u):=by
 intro aeK s U H D I h;refine wpAny_execs_cons (aA (h1 aeK s U H {D with nx:=u D} I h) λf s1 q=>?_);cases f with
 |next=>
  obtain⟨U',H',I',q⟩:=q;exact h2 aeK s1 U' H' D I' q
 |ret v=>exact q
 |brk=>exact q
 |cont=>exact q
theorem l5(h1:PS X st t):bE X [st] t:=by
 intro aeK s U H D I h;refine wpAny_execs_cons (aA (h1 aeK s U H D I h) λf s1 q=>?_);cases f with
 |next=>exact Pd q
 |ret v=>exact q
 |brk=>exact q
 |cont=>exact q
theorem af.quiet{aeK:List (L9×Obj)}{U:St}{s:M6}(I:af X aeK U H s):interactive X.env=false:=by simp[interactive,I.ok.kind]
def EU(te:TE):TS:=λD U H=>te U H λ_ H1=>D.nx U H1
theorem wg(he:PE X e te)(hs:N3 e none pos.line X.env=pure false:=by rfl):PS X (.Expr e pos) (EU te):=by
 intro aeK s U H D I h;exact wpAny_Expr_any (aA (he aeK s U H _ I h) λv s1 uu=>by obtain⟨x,H1,I1,r1,q1⟩:=uu;exact⟨U,H1,I1,q1⟩) I.quiet hs
def EV(te:TE):TS:=λD U H=>te U H D.rt
theorem mG(he:PE X e te):PS X (.Return (some e) pos) (EV te):=by
 intro aeK s U H D I h;exact wpAny_Return_some (aA (he aeK s U H _ I h) λv s1 uu=>by obtain⟨x,H1,I1,r1,q1⟩:=uu;exact⟨x,U,H1,I1,r1,q1⟩)
def EW(c:TT)(t u:TS):TS:=λD U H=>c U H λb H1=>if b=true then t D U H1 else u D U H1
theorem sM(hc:PT X c tc)(ha:bE X a t)(hb:bE X b u):PS X (.If c a b pos) (EW tc t u):=by
 intro aeK s U H D I h;refine wpAny_If (aA (hc aeK s U H _ I h) λd s1 ⟨H1,I1,q1⟩=>?_);cases d with
 |true=>exact ha aeK s1 U H1 D I1 q1
 |false=>exact hb aeK s1 U H1 D I1 q1
def Mx:TS:=λ_ _ _=>False
theorem adh:PS X st Mx:=λ_ _ _ _ _ _ h=>h.elim
end
abbrev TG:=V->St->Hp->(St->Hp->Prop)->Prop
abbrev qu:=List V->St->Hp->(St->Hp->Prop)->Prop
def PG(X:Cx)(target:Mb)(t:TG):Prop:=
 ∀(aeK:List (L9×Obj))(s:M6)(U:St)(H:Hp)(v:V)(u:M3)(Q:St->Hp->Prop),af X aeK U H s->aG v u->t v U H Q->
  MD (MK X.prog X.w) X.A (assign target X.env u) (λ_ s'=>∃U' H',af X aeK U' H' s'/\Q U' H') X.xe s
def wj(X:Cx)(ts:List Mb)(t:qu):Prop:=
 ∀(aeK:List (L9×Obj))(s:M6)(U:St)(H:Hp)(vs:List V)(us:List M3)(Q:St->Hp->Prop),af X aeK U H s->aF vs us->t vs U H Q->
  MD (MK X.prog X.w) X.A (assignInOrder ((Ob ts X.env).map (·.2)) us) (λ_ s'=>∃U' H',af X aeK U' H' s'/\Q U' H') X.xe s
abbrev A6:=V->V->V->Hp->(Hp->Prop)->Prop
def EX(X:Cx)(t:A6):Prop:=
 ∀(aeK:List (L9×Obj))(s:M6)(U:St)(H:Hp)(o i v:V)(ov iv u:M3)(Q:Hp->Prop),af X aeK U H s->aG o ov->aG i iv->aG v u->t o i v H Q->
  MD (MK X.prog X.w) X.A (setItem ov iv u) (λ_ s'=>∃H',af X aeK U H' s'/\Q H') X.xe s
section
variable{X:Cx}{pos:Pos}
def oF(i:Nat):TG:=λv U H Q=>Q (U.set i (some v)) H
theorem aJ(hN:X.N.Nodup)(hi:X.N[i]?=some x)(hx:oR X.env.scope x)(hf:X.fn x=true\/X.env.scope.names.lookup x=some .local:=by first|exact .inl rfl|exact .inr rfl|assumption):PG X (.Name x pos) (oF i):=by
 intro aeK s U H v u Q I r h;exact wpAny_assign_Name (EA I hN hi hx r (λs' I'=>⟨_,H,I',h⟩) hf)
def u9:qu:=λvs U H Q=>vs=[]/\Q U H
def rQ(t:TG)(u:qu):qu:=λvs U H Q=>∃v r,vs=v::r/\t v U H λU' H'=>u r U' H' Q
theorem oG:wj X [] u9:=by
 intro aeK s U H vs us Q I r h;obtain⟨e,h⟩:=h;subst e;cases r;exact assignInOrder_nil ⟨U,H,I,h⟩
theorem cE(h1:PG X e t)(h2:wj X es u)
 (hs:(Ob (e::es) X.env).map (·.2)=assign e X.env::(Ob es X.env).map (·.2):=by rfl):wj X (e::es) (rQ t u):=by
 intro aeK s U H vs us Q I r h;obtain⟨v,vr,e1,h⟩:=h;subst e1;cases r with
 |cons r rr=>
  rw[hs];refine assignInOrder_cons (aA (h1 aeK s U H _ _ _ I r h) λ_ s1 ⟨σ1,H1,I1,q1⟩=>?_);exact h2 aeK s1 σ1 H1 _ _ Q I1 rr q1
def va(Z:VZ)(n:Nat)(t:qu):TG:=λv U H Q=>∃a xs,v= .ref a/\bo Z H a xs/\xs.length=n/\t xs U H Q
theorem oH{es:List Mb}{k:Nat}{t:qu}{n:Nat}(hc:X.calm=true)(h:wj X es t)
 (hn:(Ob es X.env).length=n:=by rfl)(hst:(Ob es X.env).findIdx? (·.1)=none:=by rfl):PG X (.Tuple es k pos) (va X.K n t):=by
 intro aeK s U H v u Q I r hw;obtain⟨a,xs,e1,hq,hl,hw⟩:=hw;subst e1;cases r;obtain⟨its,rv,ht,hz⟩:=I.tuple hq;refine assign_Tuple_tuple (I.ok.hd hc) ht (by simp[hn,<-hl,rv.length]) hst λh' hx=>?_;have I1:af X aeK U H {s with heap:=h'}:=I.kept (t':=s.toks) λb o e=>hx b o (WI (Wl e)) e;exact h aeK _ U H xs _ Q I1 (by simpa using rv) hw
def EY(to ti:TE)(t:A6):TG:=λv U H Q=>to U H λo H1=>ti U H1 λi H2=>t o i v H2 λH3=>Q U H3
theorem adn(ho:PE X o to)(hi:PE X i ti)(hs:EX X t)
 (ha:∀v,assign (.Subscript o i pos) X.env v=(do
   let ov<-NL [v] (eval o X.env)
   let iv<-NL [v,ov] (eval i X.env)
   Nz pos
   NL [v,ov,iv] (setItem ov iv v)
   release [v,ov,iv] []):=by intro _;rfl):PG X (.Subscript o i pos) (EY to ti t):=by
 intro aeK s U H v u Q I r h;rw[ha];refine M5 (N9 (aA (ho aeK s U H _ I h) λov s1 ⟨x,H1,I1,r1,q1⟩=>?_));refine M5 (N9 (aA (hi aeK s1 U H1 _ I1 q1) λiv s2 ⟨y,H2,I2,r2,q2⟩=>?_));refine M5 (wpAny_standAt (M5 (N9 (aA (hs aeK s2 U H2 x y v ov iv u _ I2 r1 r2 r q2) λ_ s3 ⟨H3,I3,q3⟩=>?_))));exact wpAny_release ⟨U,H3,I3,q3⟩
def vb(te:TE)(g:TG):TS:=λD U H=>te U H λx H1=>g x U H1 D.nx
theorem EZ{tg e:Mb}{te:TE}{g:TG}(he:PE X e te)(hg:PG X tg g)(hs:swapsWithSole [tg] e pos.line X.env=pure false:=by rfl)(hw:swappedStores [tg] e X.env=pure none:=by rfl)
 (h1:(Ob [tg] X.env).map (·.2)=[assign tg X.env]:=by rfl):PS X (.Assign [tg] e pos) (vb te g):=by
 intro aeK s U H D I h;refine wpAny_Assign_stores (aA (he aeK s U H _ I h) λv s1 ⟨x,H1,I1,r1,q1⟩=>?_) hs hw;rw[h1];exact aA (hg aeK s1 U H1 x v _ I1 r1 q1) λ_ s2 q=>q
theorem mR{i:Nat}{x:Str}{e:Mb}{te:TE}{pos':Pos}(hN:X.N.Nodup)(hi:X.N[i]?=some x)(hx:oR X.env.scope x)(he:PE X e te)(hs:N3 e (some (.Name x pos')) pos.line X.env=pure false:=by rfl)(hf:X.fn x=true\/X.env.scope.names.lookup x=some .local:=by first|exact .inl rfl|exact .inr rfl|assumption):
 PS X (.Assign [.Name x pos'] e pos) (vb te (oF i)):=by
 intro aeK s U H D I h;refine wpAny_Assign_Name (aA (he aeK s U H _ I h) λv s1 ⟨y,H1,I1,r1,q1⟩=>?_) hs;exact EA I1 hN hi hx r1 (λs2 I2=>⟨_,H1,I2,q1⟩) hf
def acR(c:TT)(tb:TS):TS:=λD U H=>∃W:Nat->St->Hp->Prop,(∃m,W m U H)/\∀m U H,W m U H->
 c U H λb H1=>if b=true then ∃N:St->Hp->Prop,(∀U' H',N U' H'->∃m',m' < m/\W m' U' H')/\tb {D with nx:=N,ct:=N,bk:=D.nx} U H1 else D.nx U H1
theorem E1(hp:OL (MK X.prog X.w) X.A X.env X.xe)(hc:PT X c tc)(hb:bE X body tb):PS X (.While c body [] pos) (acR tc tb):=by
 intro aeK s U H D I h;obtain⟨W,⟨m0,w0⟩,turn⟩:=h;refine wpAny_While (codeAny_whileLoop (λn s'=>∃U' H',af X aeK U' H' s'/\W n U' H') ?_ m0 ⟨U,H,I,w0⟩);rintro n s1 ⟨σ1,H1,I1,w1⟩;refine Oc hp (aA (hc aeK s1 σ1 H1 _ I1 (turn n σ1 H1 w1)) λb s2 ⟨H2,I2,q2⟩=>?_);cases b with
 |true=>
  obtain⟨N,hN,q2⟩:=q2;rw[M8 rfl];refine Oc hp (aA (hb aeK s2 σ1 H2 _ I2 q2) λf s3 q3=>?_);cases f with
  |next=>
   obtain⟨σ3,H3,I3,n3⟩:=q3;obtain⟨m',hm,w3⟩:=hN σ3 H3 n3;exact⟨m',hm,σ3,H3,I3,w3⟩
  |cont=>
   obtain⟨σ3,H3,I3,n3⟩:=q3;obtain⟨m',hm,w3⟩:=hN σ3 H3 n3;exact⟨m',hm,σ3,H3,I3,w3⟩
  |brk=>exact q3
  |ret v=>exact q3
 |false=>
  rw[M4 We];exact Pd ⟨σ1,H2,I2,q2⟩
end
structure It where
 go:Nat->Hp->Prop
 yld:Nat->Hp->V->Hp->Prop
 stop:Nat->Hp->Prop
def pO(X:Cx)(aeK:List (L9×Obj))(H:Hp)(b:L9):Prop:=
 H b=none/\b≠X.env.locals/\b∉X.fs/\(b∈X.ex\/X.s₀.heap.objs.size<=b)/\(∀x c,X.env.cells.lookup x=some c->c≠b)/\∀p∈X.pn++aeK,p.1≠b
theorem af.fpOk{aeK:List (L9×Obj)}{U:St}{H H':Hp}{s:M6}{b:L9}(I:af X aeK U H s)(hb:s.heap.objs.size<=b)(hn:H' b=none):pO X aeK H' b:=by
 refine⟨hn,ZM (XM I.lt hb),I.nofs hb,.inr (Wy I.sz hb),λx c e z=>?_,λp hp z=>?_⟩
 ·obtain⟨v,q⟩:=I.cell x c e;exact absurd (XM q.lt (by rw[z];exact hb)) (YY _)
 ·exact absurd (XM (Wl (I.pin p hp).1) (by rw[z];exact hb)) (YY _)
structure vc (P:N4) (w:Mp) (Z:VZ) (tg:Mb) (J:It) (fp:List L9) (it:L9) (tn:Nat->Md->Prop):Prop where
 mem:it∈fp
 obj:∀i h,tn i h->∀b∈fp,∃o,h.get? b=some o/\∀v,o.data≠ .cell v
 keep:∀i h h',tn i h->(∀b∈fp,∀o,h.get? b=some o->h'.get? b=some o)->tn i h'
 item:∀(X:Cx),X.prog=P->X.w=w->X.K=Z->X.calm=true->∀(i:Nat)(aeK:List (L9×Obj))(s:M6)(U:St)(H:Hp)(E:M3->M6->Prop),af X aeK U H s->(∀b∈fp,pO X aeK H b)->tn i s.heap->J.go i H->
  MD (MK P w) X.A (NF (.ref it)) (λr s1=>∃u,r=some u/\
   MD (MK P w) X.A (QG tg (.ref it) u) (λ_ s2=>∃x H',af X aeK U H' s2/\aG x u/\J.yld i H x H'/\tn (i+1) s2.heap/\∀b∈fp,H' b=none) E s1) E s
 done:∀(X:Cx),X.prog=P->X.w=w->X.K=Z->X.calm=true->∀(i:Nat)(aeK:List (L9×Obj))(s:M6)(U:St)(H:Hp)(E:M3->M6->Prop),af X aeK U H s->(∀b∈fp,pO X aeK H b)->tn i s.heap->J.stop i H->
  MD (MK P w) X.A (NF (.ref it)) (λr s1=>r=none/\af X aeK U H s1) E s
 self:∀(A:N0)(i:Nat)(s:M6)(Q:M3->M6->Prop)(E:M3->M6->Prop),tn i s.heap->Q (.ref it) s->MD (MK P w) A (pyIter (.ref it)) Q E s
abbrev TI:=St->Hp->(It->Hp->Prop)->Prop
def E3(X:Cx)(aeK:List (L9×Obj))(U:St)(tg:Mb)(R:It->Hp->Prop)(itv:M3)(s2:M6):Prop:=
 ∃(it:L9)(fp:List L9)(tn:Nat->Md->Prop)(J:It)(H':Hp),itv= .ref it/\af X aeK U H' s2/\vc X.prog X.w X.K tg J fp it tn/\tn 0 s2.heap/\(∀b∈fp,pO X aeK H' b)/\R J H'
def PI(X:Cx)(tg iter:Mb)(wi:TI):Prop:=
 ∀(aeK:List (L9×Obj))(s:M6)(U:St)(H:Hp)(R:It->Hp->Prop),af X aeK U H s->wi U H R->
  MD (MK X.prog X.w) X.A (eval iter X.env) (λv s1=>MD (MK X.prog X.w) X.A (pyIter v) (E3 X aeK U tg R) X.xe s1) X.xe s
theorem wk{s:M6}{Q:Unit->M6->Prop}(ho:s.heap.get? it=some o)(hc:o.cls= .type n)(hd:o.data= .fields vs)
 (hn:["enumerate","zip","dict_itemiterator","dict_reverseitemiterator","odict_iterator","itertools.zip_longest","itertools.pairwise"].contains n=false)(hQ:Q () s):MD M A (QG tg (.ref it) u) Q E s:=by
 unfold QG;cases tg<;>first
  |exact MO hQ
  | (cases u<;>first
      |exact MO hQ
      | (refine M5 (wpAny_load ho ?_)
         rw[hc,hd];show MD M A (if (["enumerate","zip","dict_itemiterator","dict_reverseitemiterator","odict_iterator","itertools.zip_longest","itertools.pairwise"].contains n && vs[0]?==some (NY _))=true then _ else _) Q E s;rw[M4 (by intro h;rw[hn,Zs]at h;cases h)];exact MO hQ))
def tZ(Z:VZ)(a:L9):It:=
 ⟨λi H=>∃xs x,bb Z H a xs/\xs[i]?=some x,λi H x H'=>H'=H/\∀xs,bb Z H a xs->xs[i]?=some x,λi H=>∃xs,bb Z H a xs/\xs.length<=i⟩
def vd(Z:VZ)(a:L9):It:=
 ⟨λi H=>∃xs x,bo Z H a xs/\xs[i]?=some x,λi H x H'=>H'=H/\∀xs,bo Z H a xs->xs[i]?=some x,λi H=>∃xs,bo Z H a xs/\xs.length<=i⟩
def qv(lo:Int)(n:Nat):It:=⟨λi _=>i < n,λi H x H'=>H'=H/\x= .int (lo+i),λi _=>n<=i⟩
theorem MB(a it:L9):vc P w Z tg (tZ Z a) [it] it (λi h=>h.IsListIter it a i) where
 mem:=MC
 obj:=λi h st b hb=>by
  have e:b=it:=by simpa using hb
  subst e;obtain⟨o,e,c,d⟩:=st;exact⟨o,e,λv z=>by rw[d]at z;cases z⟩
 keep:=λi h h' st k=>st.at λo e=>k it MC o e
 item:=by
  intro X hP hw hK hc i aeK s U H E I hf st hg;subst hP hw hK;obtain⟨xs,x,hq,hx⟩:=hg;obtain⟨its,rv,p,hz⟩:=I.list hq;obtain⟨u,hu,ru⟩:=rv.get hx;obtain⟨f0,f1,f2,f3,f4,f5⟩:=hf it MC;refine wpAny_pyNext_list_item st p.isList (x:=u) (by simpa using hu) λh' st' sb=>?_;have I1:af X aeK U H {s with heap:=h'}:=I.turned (t':=s.toks) (λb o hb e=>(sb.2 b hb).trans e) f0 f1 f3 f4 f5;obtain⟨o,e,c,d⟩:=id st';exact⟨u,rfl,wk (s:={s with heap:=h'}) e c d MA ⟨x,H,I1,ru,⟨rfl,λys hy=>by rw[I.list_inj hy hq];exact hx⟩,st',λb hb=>(hf b hb).1⟩⟩
 done:=by
  intro X hP hw hK hc i aeK s U H E I hf st hg;subst hP hw hK;obtain⟨xs,hq,hx⟩:=hg;obtain⟨its,rv,p,hz⟩:=I.list hq;obtain⟨f0,f1,f2,f3,f4,f5⟩:=hf it MC;have hl:=rv.length;exact wpAny_pyNext_list_end (I.ok.hd hc) st p.isList (by simp;omega) λh' eb=>⟨rfl,I.turned (t':=s.toks) (λb o hb e=>eb b o hb e) f0 f1 f3 f4 f5⟩
 self:=λ_ _ _ _ _ st h=>wpAny_pyIter_listiter st h
theorem acW(a it:L9):vc P w Z tg (vd Z a) [it] it (λi h=>h.IsTupleIter it a i) where
 mem:=MC
 obj:=λi h st b hb=>by
  have e:b=it:=by simpa using hb
  subst e;obtain⟨o,e,c,d⟩:=st;exact⟨o,e,λv z=>by rw[d]at z;cases z⟩
 keep:=λi h h' st k=>st.at λo e=>k it MC o e
 item:=by
  intro X hP hw hK hc i aeK s U H E I hf st hg;subst hP hw hK;obtain⟨xs,x,hq,hx⟩:=hg;obtain⟨its,rv,p,hz⟩:=I.tuple hq;obtain⟨u,hu,ru⟩:=rv.get hx;obtain⟨f0,f1,f2,f3,f4,f5⟩:=hf it MC;refine wpAny_pyNext_tuple_item st (show s.heap.IsTuple a its.toArray from p) (x:=u) (by simpa using hu) λh' st' sb=>?_;have I1:af X aeK U H {s with heap:=h'}:=I.turned (t':=s.toks) (λb o hb e=>(sb.2 b hb).trans e) f0 f1 f3 f4 f5;obtain⟨o,e,c,d⟩:=id st';exact⟨u,rfl,wk (s:={s with heap:=h'}) e c d MA ⟨x,H,I1,ru,⟨rfl,λys hy=>by rw[I.tuple_inj hy hq];exact hx⟩,st',λb hb=>(hf b hb).1⟩⟩
 done:=by
  intro X hP hw hK hc i aeK s U H E I hf st hg;subst hP hw hK;obtain⟨xs,hq,hx⟩:=hg;obtain⟨its,rv,p,hz⟩:=I.tuple hq;obtain⟨f0,f1,f2,f3,f4,f5⟩:=hf it MC;have hl:=rv.length;exact wpAny_pyNext_tuple_end (I.ok.hd hc) st (show s.heap.IsTuple a its.toArray from p) (by simp;omega) λh' eb=>⟨rfl,I.turned (t':=s.toks) (λb o hb e=>eb b o hb e) f0 f1 f3 f4 f5⟩
 self:=λ_ _ _ _ _ st h=>wpAny_pyIter_tupleiter st h
theorem ac4(it:L9)(lo:Int)(n:Nat):vc P w Z tg (qv lo n) [it] it (λi h=>IsRangeIter h it (lo+(i:Nat)*1) ((n:Int) - (i:Nat)) 1) where
 mem:=MC
 obj:=λi h st b hb=>by
  have e:b=it:=by simpa using hb
  subst e;exact⟨_,st,λv z=>by
   have z':Data.fields _=Data.cell v:=z;cases z'⟩
 keep:=λi h h' st k=>k it MC _ st
 item:=by
  intro X hP hw hK hc i aeK s U H E I hf st hg;subst hP hw hK;obtain⟨f0,f1,f2,f3,f4,f5⟩:=hf it MC;have W:=Walks.range (prog:=X.prog) (w:=X.w) (I.ok.hd hc) it lo 1 n;refine W.item i s _ _ hg st λv h' tk hv st' kk=>?_;obtain⟨t,rfl⟩:=hv;have I1:af X aeK U H {s with heap:=h',toks:=tk}:=I.turned (λb o hb e=>kk b o (by simpa using hb) e) f0 f1 f3 f4 f5;refine⟨_,rfl,wk (s:={s with heap:=h',toks:=tk}) (n:="range_iterator") st' rfl rfl MA ⟨.int (lo+i),H,I1,⟨t,?_⟩,⟨rfl,rfl⟩,st',λb hb=>(hf b hb).1⟩⟩;rw[TC]
 done:=by
  intro X hP hw hK hc i aeK s U H E I hf st hg;subst hP hw hK;obtain⟨f0,f1,f2,f3,f4,f5⟩:=hf it MC;exact wpAny_pyNext_range_end (I.ok.hd hc) st (by have:n<=i:=hg;omega) λh' eb=>⟨rfl,I.turned (t':=s.toks) (λb o hb e=>eb b o hb e) f0 f1 f3 f4 f5⟩
 self:=λ_ _ _ _ _ st h=>wpAny_pyIter_rangeiter st h
section
variable{X:Cx}{tg:Mb}
def A7(Z:VZ)(tl:TE):TI:=λU H R=>tl U H λx H1=>∃a,x= .ref a/\(∃xs,bb Z H1 a xs)/\R (tZ Z a) H1
def A8(Z:VZ)(tl:TE):TI:=λU H R=>tl U H λx H1=>∃a,x= .ref a/\(∃xs,bo Z H1 a xs)/\R (vd Z a) H1
theorem ve(hl:PE X l tl):PI X tg l (A7 X.K tl):=by
 intro aeK s U H R I h;refine aA (hl aeK s U H _ I h) λv s1 ⟨x,H1,I1,r1,q1⟩=>?_;obtain⟨a,e,⟨xs,hq⟩,q⟩:=q1;subst e;cases r1;obtain⟨its,rv,p,hz⟩:=I1.list hq;refine QP p.isList ?_;refine⟨s1.heap.objs.size,[s1.heap.objs.size],_,_,H1,rfl,I1.kept (t':=s1.toks) λb o e=>V3 _ e,MB a _,⟨_,Wv _ rfl,rfl,rfl⟩,λb hb=>?_,q⟩;have e:b=s1.heap.objs.size:=by simpa using hb
 subst e;exact I1.fpOk (V4 _) (I1.hok.fresh (V4 _))
theorem A9(hl:PE X l tl):PI X tg l (A8 X.K tl):=by
 intro aeK s U H R I h;refine aA (hl aeK s U H _ I h) λv s1 ⟨x,H1,I1,r1,q1⟩=>?_;obtain⟨a,e,⟨xs,hq⟩,q⟩:=q1;subst e;cases r1;obtain⟨its,rv,p,hz⟩:=I1.tuple hq;refine wpAny_pyIter_tuple (show s1.heap.IsTuple a its.toArray from p) ?_;refine⟨s1.heap.objs.size,[s1.heap.objs.size],_,_,H1,rfl,I1.kept (t':=s1.toks) λb o e=>V3 _ e,acW a _,⟨_,Wv _ rfl,rfl,rfl⟩,λb hb=>?_,q⟩;have e:b=s1.heap.objs.size:=by simpa using hb
 subst e;exact I1.fpOk (V4 _) (I1.hok.fresh (V4 _))
theorem E4{aeK:List (L9×Obj)}{U:St}{s:M6}{R:It->Hp->Prop}{E:M3->M6->Prop}{lo hi:Int}{t u v:Tok}{tk:Nat}(I:af X aeK U H s)(h1:-(2 ^ 62)<=lo)(h2:lo < 2 ^ 62)(h3:-(2 ^ 62)<=hi)(h4:hi < 2 ^ 62)
 (q:R (qv lo (hi - lo).toNat) H):MD (MK X.prog X.w) X.A (pyIter (.ref s.heap.objs.size)) (E3 X aeK U tg R) E {s with heap:=s.heap.push {cls:= .type "range",data:= .fields #[.int lo t,.int hi u,.int 1 v]},toks:=tk}:=by
 refine wpAny_pyIter_range (IsRange.new ..) (small_one h1 h2 h3 h4) ?_;have I1:af X aeK U H {s with heap:=s.heap.push {cls:= .type "range",data:= .fields #[.int lo t,.int hi u,.int 1 v]},toks:=tk}:=I.kept λb o e=>V3 _ e;refine⟨(s.heap.push {cls:= .type "range",data:= .fields #[.int lo t,.int hi u,.int 1 v]}).objs.size,[(s.heap.push {cls:= .type "range",data:= .fields #[.int lo t,.int hi u,.int 1 v]}).objs.size],_,_,H,rfl,
  I1.kept (t':=tk) λb o e=>V3 _ e,ac4 _ lo (hi - lo).toNat,?_,λb hb=>?_,q⟩
 ·have e1:lo+((0:Nat):Int)*1=lo:=MC
  have e2:(((hi - lo).toNat:Nat):Int) - ((0:Nat):Int)=Builtin.Range.rangeSize lo hi 1:=by rw[rangeSize_one];split<;>omega
  show IsRangeIter _ _ (lo+((0:Nat):Int)*1) ((((hi - lo).toNat:Nat):Int) - ((0:Nat):Int)) 1;rw[e1,e2];exact Wv _ rfl
 ·have e:b=(s.heap.push {cls:= .type "range",data:= .fields #[.int lo t,.int hi u,.int 1 v]}).objs.size:=by simpa using hb
  subst e;exact I1.fpOk (V4 _) (I1.hok.fresh (V4 _))
def Ba(ta:TA):TI:=λU H R=>ta U H λvs H1=>∃j:Int,vs=[.int j]/\-(2 ^ 62)<=j/\j < 2 ^ 62/\R (qv 0 j.toNat) H1
def Bb(ta:TA):TI:=λU H R=>ta U H λvs H1=>∃i j:Int,vs=[.int i,.int j]/\(-(2 ^ 62)<=i/\i < 2 ^ 62/\-(2 ^ 62)<=j/\j < 2 ^ 62)/\R (qv i (j - i).toNat) H1
theorem E5(hg:Gl X "range")(hm:X.mg "range"=none)(ha:PA X [a] ta)(hs:MQ [a] X.env=[(false,eval a X.env)]:=by rfl):PI X tg (.Call (.Name "range" p) [a] [] pos) (Ba ta):=by
 intro aeK s U H R I h;refine Call_ (sJ I hg hm boot_range (Zx (aA (ha pos aeK s U H _ I h) λus s1 ⟨vs,H1,I1,r1,q1⟩=>?_) hs rfl));obtain⟨j,e,q1,q2,q⟩:=q1;subst e;cases r1 with
 |cons r rr=>
  cases rr;obtain⟨t,rfl⟩:=r;exact call_range_1 (E4 I1 L8 L8 q1 q2 (by simpa using q))
theorem E6{a b:Mb}{ta:TA}{p pos:Pos}(hg:Gl X "range")(hm:X.mg "range"=none)(ha:PA X [a,b] ta)(hs:MQ [a,b] X.env=[(false,eval a X.env),(false,eval b X.env)]:=by rfl)(hs2:MQ [b] X.env=[(false,eval b X.env)]:=by rfl):
 PI X tg (.Call (.Name "range" p) [a,b] [] pos) (Bb ta):=by
 intro aeK s U H R I h;refine Call_ (sJ I hg hm boot_range (Zx (aA (ha pos aeK s U H _ I h) λus s1 ⟨vs,H1,I1,r1,q1⟩=>?_) (by rw[hs,hs2]) (by rw[hs2];rfl)));obtain⟨i,j,e,⟨q1,q2,q3,q4⟩,q⟩:=q1;subst e;cases r1 with
 |cons r rr=>
  cases rr with
  |cons r' rr=>
   cases rr;obtain⟨t,rfl⟩:=r;obtain⟨t',rfl⟩:=r';exact call_range_2 (E4 I1 q1 q2 q3 q4 q)
def vg(wi:TI)(g:TG)(tb:TS):TS:=λD U H=>wi U H λJ H1=>∃W:Nat->Nat->St->Hp->Prop,(∃m,W 0 m U H1)/\∀i m U H,W i m U H->
 (J.stop i H/\D.nx U H)\/(J.go i H/\∃N:St->Hp->Prop,(∀U' H',N U' H'->∃m',m' < m/\W (i+1) m' U' H')/\∀x H',J.yld i H x H'->g x U H' λσ2 H2=>tb {D with nx:=N,ct:=N,bk:=D.nx} σ2 H2)
def vh(fp:List L9)(h:Md):List (L9×Obj):=fp.filterMap λb=>(h.get? b).map λo=>(b,o)
theorem wm{h:Md}(hb:b∈fp)(e:h.get? b=some o):(b,o)∈vh fp h:=Yy.mpr ⟨b,hb,by rw[e];rfl⟩
theorem ME(hp:p∈vh fp h):p.1∈fp/\h.get? p.1=some p.2:=by
 obtain⟨b,hb,e⟩:=Yy.mp hp;cases q:h.get? b with
 |none=>rw[q]at e;cases e
 |some o=>
  rw[q]at e;have e':(b,o)=p:=Xt e;subst e';exact⟨hb,q⟩
theorem af.pinned{aeK:List (L9×Obj)}{U:St}{s:M6}{fp:List L9}(I:af X aeK U H s)(hf:∀b∈fp,pO X aeK H b)(ho:∀b∈fp,∃o,s.heap.get? b=some o/\∀v,o.data≠ .cell v):af X (aeK++vh fp s.heap) U H s:=
 I.pins_of λp hp=>(Wo.mp hp).elim (λz=>I.pin p (Xz _ z)) λz=>by
  obtain⟨hb,e⟩:=ME z;obtain⟨f0,f1,f2,_⟩:=hf p.1 hb;obtain⟨o,e',d⟩:=ho p.1 hb;rw[e]at e';cases e';exact⟨e,f0,f1,f2,d⟩
theorem af.unpinned{aeK pl:List (L9×Obj)}{U:St}{s:M6}(I:af X (aeK++pl) U H s):af X aeK U H s:=I.pins_of λp hp=>I.pin p (Xz _ (Za _ hp))
theorem vi(hp:OL (MK X.prog X.w) X.A X.env X.xe)(hc:X.calm=true)(hi:PI X tg iter wi)(hg:PG X tg g)(hb:bE X body tb)
 (hs:∀x,NO iter X.env x=pure x:=by intro _;rfl):PS X (.For tg iter body [] pos) (vg wi g tb):=by
 intro aeK s U H D I h;refine wpAny_For (aA (hi aeK s U H _ I h) λv s1 h1=>aA h1 λitv s2 h2=>?_) hs;obtain⟨it,fp,tn,J,H2,e,I2,T,st2,f2,W,⟨m0,w0⟩,turn⟩:=h2;subst e;have stat:∀{H':Hp},(∀b∈fp,H' b=none)->∀b∈fp,pO X aeK H' b:=λhn b hb=>⟨hn b hb,(f2 b hb).2⟩;refine codeAny_forLoop_any (λn s'=>∃i U' H',af X aeK U' H' s'/\tn i s'.heap/\(∀b∈fp,H' b=none)/\W i n U' H') ?_ m0 ⟨0,U,H2,I2,st2,λb hb=>(f2 b hb).1,w0⟩;rintro n s3 ⟨i,σ3,H3,I3,st3,fr3,w3⟩;rcases turn i n σ3 H3 w3 with⟨stop,qn⟩|⟨go,N,hN,step⟩
 ·refine Oc hp (aA (T.done X rfl rfl rfl hc i aeK s3 σ3 H3 X.xe I3 (stat fr3) st3 stop) λr s4 ⟨hr,I4⟩=>?_);subst hr;exact Pd ⟨σ3,H3,I4,qn⟩
 ·refine Oc hp (aA (T.item X rfl rfl rfl hc i aeK s3 σ3 H3 X.xe I3 (stat fr3) st3 go) λr s4 ⟨u,hr,h4⟩=>?_);subst hr;refine Oc hp (aA h4 λ_ s5 ⟨x,H5,I5,r5,y5,st5,fr5⟩=>?_);have I5':=I5.pinned (stat fr5) (T.obj _ _ st5);refine Oc hp (aA (hg _ s5 σ3 H5 x u _ I5' r5 (step x H5 y5)) λ_ s6 ⟨σ6,H6,I6,q6⟩=>?_);refine Oc hp (aA (hb _ s6 σ6 H6 _ I6 q6) λf s7 q7=>?_);have again:∀{σ7:St}{H7:Hp},af X (aeK++vh fp s5.heap) σ7 H7 s7->N σ7 H7->∃m,m < n/\∃i U' H',af X aeK U' H' s7/\tn i s7.heap/\(∀b∈fp,H' b=none)/\W i m U' H':=λ{σ7 H7} I7 n7=>by
   obtain⟨m',hm,w7⟩:=hN σ7 H7 n7;refine⟨m',hm,i+1,σ7,H7,I7.unpinned,T.keep _ _ _ st5 λb hb o e=>(I7.pin (b,o) (Xz _ (Xz _ (wm hb e)))).1,λb hb=>?_,w7⟩;obtain⟨o,e,d⟩:=T.obj _ _ st5 b hb;exact(I7.pin (b,o) (Xz _ (Xz _ (wm hb e)))).2.1
  cases f with
  |next=>obtain⟨σ7,H7,I7,n7⟩:=q7;exact again I7 n7
  |cont=>obtain⟨σ7,H7,I7,n7⟩:=q7;exact again I7 n7
  |brk=>obtain⟨σ7,H7,I7,q7⟩:=q7;exact⟨σ7,H7,I7.unpinned,q7⟩
  |ret v=>obtain⟨x7,σ7,H7,I7,r7,q7⟩:=q7;exact⟨x7,σ7,H7,I7.unpinned,r7,q7⟩
end
abbrev R2:=V->V->Hp->VK->Prop
def bR(X:Cx)(f:M3->M3->Sem M3)(r:R2):Prop:=
 ∀(aeK:List (L9×Obj))(s:M6)(U:St)(H:Hp)(x y:V)(v u:M3)(Q:VK),af X aeK U H s->aG x v->aG y u->r x y H Q->
  MD (MK X.prog X.w) X.A (f v u) (EP X aeK U Q) X.xe s
def Bc(X:Cx)(f:M3->Sem M3)(r:V->Hp->VK->Prop):Prop:=
 ∀(aeK:List (L9×Obj))(s:M6)(U:St)(H:Hp)(x:V)(v:M3)(Q:VK),af X aeK U H s->aG x v->r x H Q->
  MD (MK X.prog X.w) X.A (f v) (EP X aeK U Q) X.xe s
def l6(X:Cx)(f:M3)(r:List V->Hp->VK->Prop):Prop:=
 ∀(aeK:List (L9×Obj))(s:M6)(U:St)(H:Hp)(xs:List V)(us:List M3)(Q:VK),af X aeK U H s->aF xs us->r xs H Q->
  MD (MK X.prog X.w) X.A (NC f us) (EP X aeK U Q) X.xe s
def MF(X:Cx)(r:V->Hp->(Bool->Hp->Prop)->Prop):Prop:=
 ∀(aeK:List (L9×Obj))(s:M6)(U:St)(H:Hp)(x:V)(v:M3)(Q:Bool->Hp->Prop),af X aeK U H s->aG x v->r x H Q->
  MD (MK X.prog X.w) X.A (truthy v) (TP X aeK U Q) X.xe s
def t5(r:R2)(ta tb:TE):TE:=λU H Q=>ta U H λx H1=>tb U H1 λy H2=>r x y H2 Q
def E7(r:V->Hp->VK->Prop)(ta:TE):TE:=λU H Q=>ta U H λx H1=>r x H1 Q
def rI(C:Int->Int->Prop)(g:Int->Int->V):R2:=λx y H Q=>∃i j,x= .int i/\y= .int j/\C i j/\Q (g i j) H
def pP(g:Int->Int->V):R2:=λx y H Q=>∃i j,x= .int i/\y= .int j/\Q (g i j) H
def rU(g:Int->V):V->Hp->VK->Prop:=λx H Q=>∃i,x= .int i/\Q (g i) H
theorem Bd(ha:PE X a ta)(hb:PE X b tb){aeK:List (L9×Obj)}{s:M6}{U:St}{R:V->V->Hp->Prop}(I:af X aeK U H s)
 (h:ta U H λx H1=>tb U H1 λy H2=>R x y H2){f:M3->M3->Sem M3}
 (hf:∀v u s2 x y H2,af X aeK U H2 s2->aG x v->aG y u->R x y H2->MD (MK X.prog X.w) X.A (f v u) Q X.xe s2):
 MD (MK X.prog X.w) X.A (eval a X.env) (λv s₁=>MD (MK X.prog X.w) X.A (eval b X.env) (λu s₂=>MD (MK X.prog X.w) X.A (f v u) Q X.xe s₂) X.xe s₁) X.xe s:=by
 refine aA (ha aeK s U H _ I h) λv s1 ⟨x,H1,I1,r1,q1⟩=>?_;refine aA (hb aeK s1 U H1 _ I1 q1) λu s2 ⟨y,H2,I2,r2,q2⟩=>?_;exact hf v u s2 x y H2 I2 r1 r2 q2
theorem bD(ho:bR X (O5 op) r)(ha:PE X a ta)(hb:PE X b tb):PE X (.BinOp a op b pos) (t5 r ta tb):=by
 intro aeK s U H Q I h;exact wpAny_BinOp (Bd ha hb I h λv u s2 x y H2 I2 rx ry q=>ho aeK s2 U H2 x y v u Q I2 rx ry q)
theorem MG(ho:Bc X (unaryOp op) r)(ha:PE X a ta):PE X (.UnaryOp op a pos) (E7 r ta):=by
 intro aeK s U H Q I h;exact UnaryOp_ (aA (ha aeK s U H _ I h) λv s1 uu=>by obtain⟨x,H1,I1,r1,q1⟩:=uu;exact ho aeK s1 U H1 x v Q I1 r1 q1)
theorem vj{f:M3->M3->Sem M3}{C:Int->Int->Prop}{g:Int->Int->Int}
 (rule:∀(i j:Int) (t u:Tok) (s:M6) (Q:M3->M6->Prop) (E:M3->M6->Prop),C i j->Q (.int (g i j) s.toks) {s with toks:=s.toks+1}->MD (MK X.prog X.w) X.A (f (.int i t) (.int j u)) Q E s):
 bR X f (rI C λi j=>.int (g i j)):=by
 intro aeK s U H x y v u Q I rx ry h;obtain⟨i,j,rfl,rfl,hc,q⟩:=h;obtain⟨t,rfl⟩:=rx;obtain⟨t',rfl⟩:=ry;exact rule i j t t' s _ _ hc ⟨.int (g i j),H,I.tok _,⟨_,rfl⟩,q⟩
theorem E8{f:M3->M3->Sem M3}{g:Int->Int->Int}
 (rule:∀(i j:Int) (t u:Tok) (s:M6) (Q:M3->M6->Prop) (E:M3->M6->Prop),Q (.int (g i j) s.toks) {s with toks:=s.toks+1}->MD (MK X.prog X.w) X.A (f (.int i t) (.int j u)) Q E s):
 bR X f (pP λi j=>.int (g i j)):=by
 intro aeK s U H x y v u Q I rx ry h;obtain⟨i,j,rfl,rfl,q⟩:=h;obtain⟨t,rfl⟩:=rx;obtain⟨t',rfl⟩:=ry;exact rule i j t t' s _ _ ⟨.int (g i j),H,I.tok _,⟨_,rfl⟩,q⟩
theorem wq{f:M3->M3->Sem M3}{g:Int->Int->Bool}
 (rule:∀(i j:Int) (t u:Tok) (s:M6) (Q:M3->M6->Prop) (E:M3->M6->Prop),Q (.bool (g i j)) s->MD (MK X.prog X.w) X.A (f (.int i t) (.int j u)) Q E s):
 bR X f (pP λi j=>.bl (g i j)):=by
 intro aeK s U H x y v u Q I rx ry h;obtain⟨i,j,rfl,rfl,q⟩:=h;obtain⟨t,rfl⟩:=rx;obtain⟨t',rfl⟩:=ry;exact rule i j t t' s _ _ ⟨.bl (g i j),H,I,rfl,q⟩
def dj(i j:Int):Prop:=0 < j/\j < 1073741824
def dY(i j:Int):Prop:=0<=j/\j<=1000000/\i.natAbs < 2 ^ 64
def dn(i j:Int):Prop:=(-(2 ^ 64) < i/\i < 2 ^ 64)\/(-(2 ^ 64) < j/\j < 2 ^ 64)
theorem dn.ok(h:dn i j):IntMulOk i j:=by
 rcases h with⟨h1,h2⟩|⟨h1,h2⟩
 ·exact .of_left (intBits_le_64 h1 h2)
 ·exact .of_right (intBits_le_64 h1 h2)
theorem bF:bR X (O5 .Add) (pP λi j=>.int (i+j)):=E8 λ_ _ _ _ _ _ _ q=>add_int q
theorem mS:bR X (O5 .Sub) (pP λi j=>.int (i - j)):=E8 λ_ _ _ _ _ _ _ q=>sub_int q
theorem rg:bR X (O5 .Mult) (rI dn λi j=>.int (i*j)):=vj λ_ _ _ _ _ _ _ hc q=>mul_int q hc.ok
theorem qw:bR X (O5 .FloorDiv) (rI dj λi j=>.int (i / j)):=vj λi j _ _ _ _ _ hc q=>by
 have h1:(0:Int) < j:=hc.1;have h2:j < 1073741824:=hc.2;exact floordiv_int L8 (by rw[Ra i L8];exact q) (.inl (VV L8))
theorem rj:bR X (O5 .Mod) (rI (λ_ j=>0 < j) λi j=>.int (i % j)):=vj λi j _ _ _ _ _ hc q=>by
 have h1:(0:Int) < j:=hc;exact mod_int' L8 (by rw[Ui i L8];exact q)
theorem acV:bR X (O5 .Pow) (rI dY λi j=>.int (i ^ j.toNat)):=vj λ_ _ _ _ _ _ _ hc q=>pow_int_small hc.1 hc.2.1 hc.2.2 q
theorem MI{f:M3->Sem M3}{g:Int->Int}
 (rule:∀(i:Int) (t:Tok) (s:M6) (Q:M3->M6->Prop) (E:M3->M6->Prop),Q (.int (g i) s.toks) {s with toks:=s.toks+1}->MD (MK X.prog X.w) X.A (f (.int i t)) Q E s):
 Bc X f (rU λi=>.int (g i)):=by
 intro aeK s U H x v Q I rx h;obtain⟨i,rfl,q⟩:=h;obtain⟨t,rfl⟩:=rx;exact rule i t s _ _ ⟨.int (g i),H,I.tok _,⟨_,rfl⟩,q⟩
theorem MJ:Bc X (unaryOp .USub) (rU λi=>.int (-i)):=MI λ_ _ _ _ _ q=>neg_int q
def sO:V->V->Bool
 | .non,.non=>true | .non,.int _=>true | .int _,.non=>true | .non,.bl _=>true | .bl _,.non=>true | .non,.str _=>true | .str _,.non=>true
 | .int _,.int _=>true | .bl _,.bl _=>true | .str _,.str _=>true | .byt _,.byt _=>true
 | .int _,.str _=>true | .str _,.int _=>true | .bl _,.str _=>true | .str _,.bl _=>true
 |_,_=>false
def E9:R2:=λx y H Q=>sO x y=true/\Q (.bl (decide (x=y))) H
def Fb:R2:=λx y H Q=>sO x y=true/\Q (.bl (!decide (x=y))) H
theorem Fc:decide (V.int i=V.int j)=(i==j):=by
 rw[Y6];simp
theorem Fd:decide (V.bl i=V.bl j)=(i==j):=by
 rw[Y6];simp
theorem Fe:decide (V.str i=V.str j)=(i==j):=by
 rw[Y6];simp
theorem Ff:decide (V.byt i=V.byt j)=(i.toList==j.toList):=by
 rw[Y6];cases i;cases j;simp
theorem bL{aeK:List (L9×Obj)}{U:St}{s:M6}{Q:VK}{k k':Bool}(I:af X aeK U H s)(q:Q (.bl k) H)(e:k=k'):EP X aeK U Q (.bool k') s:=by
 subst e;exact⟨.bl k,H,I,rfl,q⟩
theorem vo:bR X (Mz .Eq) E9:=by
 intro aeK s U H x y v u Q I rx ry h;obtain⟨hs,q⟩:=h;cases x with
 |non=>
  cases rx;cases y with
  |non=>cases ry;exact PySem.EqNone.eq_none_none (bL I q MC)
  |bl j=>cases ry;exact PySem.EqNone.eq_none_bool (bL I q MC)
  |int j=>obtain⟨t',rfl⟩:=ry;exact PySem.EqNone.eq_none_int (bL I q MC)
  |str j=>obtain⟨t',rfl⟩:=ry;exact PySem.EqNone.eq_none_str (bL I q MC)
  |_=>exact absurd (show false=true from hs) We
 |bl i=>
  cases rx;cases y with
  |non=>cases ry;exact PySem.EqNone.eq_bool_none (bL I q MC)
  |bl j=>cases ry;exact eq_bool (bL I q Fd)
  |str j=>obtain⟨t',rfl⟩:=ry;exact PySem.EqMixed.eq_bool_str (bL I q MC)
  |_=>exact absurd (show false=true from hs) We
 |int i=>
  obtain⟨t,rfl⟩:=rx;cases y with
  |non=>cases ry;exact PySem.EqNone.eq_int_none (bL I q MC)
  |int j=>obtain⟨t',rfl⟩:=ry;exact eq_int (bL I q Fc)
  |str j=>obtain⟨t',rfl⟩:=ry;exact PySem.EqMixed.eq_int_str (bL I q MC)
  |_=>exact absurd (show false=true from hs) We
 |str i=>
  obtain⟨t,rfl⟩:=rx;cases y with
  |non=>cases ry;exact PySem.EqNone.eq_str_none (bL I q MC)
  |bl j=>cases ry;exact PySem.EqMixed.eq_str_bool (bL I q MC)
  |int j=>obtain⟨t',rfl⟩:=ry;exact PySem.EqMixed.eq_str_int (bL I q MC)
  |str j=>obtain⟨t',rfl⟩:=ry;exact eq_str (bL I q Fe)
  |_=>exact absurd (show false=true from hs) We
 |byt i=>
  obtain⟨t,rfl⟩:=rx;cases y with
  |byt j=>obtain⟨t',rfl⟩:=ry;exact PySem.W.eq_bytes (bL I q Ff)
  |_=>exact absurd (show false=true from hs) We
 |_=>cases y<;>exact absurd (show false=true from hs) We
theorem ac6:bR X (Mz .NotEq) Fb:=by
 intro aeK s U H x y v u Q I rx ry h;obtain⟨hs,q⟩:=h;cases x with
 |non=>
  cases rx;cases y with
  |non=>cases ry;exact PySem.EqNone.ne_none_none (bL I q MC)
  |bl j=>cases ry;exact PySem.EqNone.ne_none_bool (bL I q MC)
  |int j=>obtain⟨t',rfl⟩:=ry;exact PySem.EqNone.ne_none_int (bL I q MC)
  |str j=>obtain⟨t',rfl⟩:=ry;exact PySem.EqNone.ne_none_str (bL I q MC)
  |_=>exact absurd (show false=true from hs) We
 |bl i=>
  cases rx;cases y with
  |non=>cases ry;exact PySem.EqNone.ne_bool_none (bL I q MC)
  |bl j=>cases ry;exact ne_bool (bL I q (congrArg not Fd))
  |str j=>obtain⟨t',rfl⟩:=ry;exact PySem.EqMixed.ne_bool_str (bL I q MC)
  |_=>exact absurd (show false=true from hs) We
 |int i=>
  obtain⟨t,rfl⟩:=rx;cases y with
  |non=>cases ry;exact PySem.EqNone.ne_int_none (bL I q MC)
  |int j=>obtain⟨t',rfl⟩:=ry;exact ne_int (bL I q (congrArg not Fc))
  |str j=>obtain⟨t',rfl⟩:=ry;exact PySem.EqMixed.ne_int_str (bL I q MC)
  |_=>exact absurd (show false=true from hs) We
 |str i=>
  obtain⟨t,rfl⟩:=rx;cases y with
  |non=>cases ry;exact PySem.EqNone.ne_str_none (bL I q MC)
  |bl j=>cases ry;exact PySem.EqMixed.ne_str_bool (bL I q MC)
  |int j=>obtain⟨t',rfl⟩:=ry;exact PySem.EqMixed.ne_str_int (bL I q MC)
  |str j=>obtain⟨t',rfl⟩:=ry;exact ne_str (bL I q (congrArg not Fe))
  |_=>exact absurd (show false=true from hs) We
 |byt i=>
  obtain⟨t,rfl⟩:=rx;cases y with
  |byt j=>obtain⟨t',rfl⟩:=ry;exact PySem.W.ne_bytes (bL I q (congrArg not Ff))
  |_=>exact absurd (show false=true from hs) We
 |_=>cases y<;>exact absurd (show false=true from hs) We
theorem wt:bR X (Mz .Lt) (pP λi j=>.bl (decide (i < j))):=wq λ_ _ _ _ _ _ _ q=>lt_int q
theorem rn:bR X (Mz .LtE) (pP λi j=>.bl (decide (i<=j))):=wq λ_ _ _ _ _ _ _ q=>le_int q
theorem wu:bR X (Mz .Gt) (pP λi j=>.bl (decide (j < i))):=wq λ_ _ _ _ _ _ _ q=>gt_int q
theorem MM:bR X (Mz .GtE) (pP λi j=>.bl (decide (j<=i))):=wq λ_ _ _ _ _ _ _ q=>ge_int q
theorem sP:bR X (Mz .Is) (λx y H Q=>y= .non/\Q (.bl (decide (x= .non))) H):=by
 intro aeK s U H x y v u Q I rx ry h;obtain⟨rfl,q⟩:=h;cases ry;refine is_none_gen (bL I q ?_);cases x<;>first
  | (cases rx;rfl)
  | (obtain⟨t,rfl⟩:=rx;rfl)
theorem wx:bR X (Mz .IsNot) (λx y H Q=>y= .non/\Q (.bl (!decide (x= .non))) H):=by
 intro aeK s U H x y v u Q I rx ry h;obtain⟨rfl,q⟩:=h;cases ry;refine isnot_none_gen (bL I q ?_);cases x<;>first
  | (cases rx;rfl)
  | (obtain⟨t,rfl⟩:=rx;rfl)
theorem aD(b:Mb)(h:op≠ .In:=by decide)(h2:op≠ .NotIn:=by decide):Nb op b=false:=by
 have e1:(op==CmpOp.In)=false:=by cases op<;>first|rfl|exact absurd rfl h
 have e2:(op==Vw)=false:=by cases op<;>first|rfl|exact absurd rfl h2
 cases b<;>simp[Nb,e1,e2]
theorem wy(ho:bR X (Mz op) r)(ha:PE X a ta)(hb:PE X b tb)(hm:Nb op b=false):PE X (.Compare a [op] [b] pos) (t5 r ta tb):=by
 intro aeK s U H Q I h;exact wpAny_Compare1 (Bd ha hb I h λv u s2 x y H2 I2 rx ry q=>ho aeK s2 U H2 x y v u Q I2 rx ry q) hm
def Be(t:TE):TT:=λU H Q=>t U H λx H'=>∃k,x= .bl k/\Q k H'
theorem rR(ho:bR X (Mz op) r)(ha:PE X a ta)(hb:PE X b tb)(hm:Nb op b=false):PT X (.Compare a [op] [b] pos) (Be (t5 r ta tb)):=by
 intro aeK s U H Q I h;refine wpAny_isTrue_Compare1 (aA (ha aeK s U H _ I h) λv s1 ⟨x,H1,I1,r1,q1⟩=>aA (hb aeK s1 U H1 _ I1 q1) λu s2 ⟨y,H2,I2,r2,q2⟩=>
  aA (ho aeK s2 U H2 x y v u _ I2 r1 r2 q2) λc s3 ⟨z,H3,I3,r3,k,e,q3⟩=>?_) hm
 subst e;cases r3;exact Nu ⟨H3,I3,q3⟩
def Fg(r r':R2)(ta tb tc:TE):TE:=λU H Q=>ta U H λx H1=>tb U H1 λy H2=>r x y H2 λz H3=>∃k,z= .bl k/\
 (if k=true then tc U H3 λw' H4=>r' y w' H4 Q else Q (.bl false) H3)
theorem abc(ho:bR X (Mz op) r)(ho':bR X (Mz op') r')(ha:PE X a ta)(hb:PE X b tb)(hc:PE X c tc)
 (hm:lastMarks [op,op'] [b,c]=false:=by with_unfolding_all rfl):PT X (.Compare a [op,op'] [b,c] pos) (Be (Fg r r' ta tb tc)):=by
 intro aeK s U H Q I h;refine isTrue_chain (aA (ha aeK s U H _ I h) λv s1 ⟨x,H1,I1,r1,q1⟩=>test_link (aA (hb aeK s1 U H1 _ I1 q1) λu s2 ⟨y,H2,I2,r2,q2⟩=>
  aA (ho aeK s2 U H2 x y v u _ I2 r1 r2 q2) λd s3 ⟨z,H3,I3,r3,k,e,q3⟩=>?_)) hm
 subst e;cases r3;refine Nu ?_;cases k with
 |false=>
  obtain⟨k',e',q'⟩:=q3;cases e';exact ite_ff ⟨H3,I3,q'⟩
 |true=>
  refine ite_tt (test_last (aA (hc aeK s3 U H3 _ I3 q3) λw' s4 ⟨z',H4,I4,r4,q4⟩=>aA (ho' aeK s4 U H4 y z' u w' _ I4 r2 r4 q4) λd' s5 ⟨z2,H5,I5,r5,k2,e2,q5⟩=>?_));subst e2;cases r5;exact Nu ⟨H5,I5,q5⟩
def Fh(Z:VZ)(x:V)(H:Hp)(k:Bool):Prop:=
 match x with
 | .non=>k=false
 | .bl b=>k=b
 | .int i=>k=(i !=0)
 | .str y=>y.length<=MT/\k=((y.length:Int) !=0)
 | .byt y=>y.size<=MT/\k=((y.size:Int) !=0)
 | .ref p=>(∃xs,bb Z H p xs/\k=!xs.isEmpty)\/(∃xs,bo Z H p xs/\k=!xs.isEmpty)\/∃kvs,H p=some (.dK kvs)/\k=!kvs.isEmpty
 |_=>False
theorem ac2{κ:Type}{kvs:List (κ×V)}{vs:List (κ×M3)}(r:KV kvs vs):(!vs.isEmpty)=!kvs.isEmpty:=by
 cases r<;>rfl
theorem Fi(r:aF xs its):(!its.toArray.isEmpty)=!xs.isEmpty:=by
 cases r<;>simp
theorem sQ:(MT:Nat) < 2 ^ 63:=by rw[My];decide
theorem MP:MF X (λx H Q=>∃k,Fh X.K x H k/\Q k H):=by
 intro aeK s U H x v Q I rx h;obtain⟨k,e,q⟩:=h;have hl:=sQ;have hs:MT=16777216:=My;cases x with
 |non=>
  cases rx;have e':k=false:=e;subst e';exact truthy_none ⟨H,I,q⟩
 |bl b=>
  cases rx;have e':k=b:=e;subst e';exact Nu ⟨H,I,q⟩
 |int i=>
  obtain⟨t,rfl⟩:=rx;have e':k=(i !=0):=e;subst e';exact PySem.P.truthy_int ⟨H,I,q⟩
 |str y=>
  obtain⟨t,rfl⟩:=rx;obtain⟨hy,e'⟩:y.length<=MT/\k=((y.length:Int) !=0):=e;subst e';exact PySem.P.truthy_str L8 ⟨H,I.tok _,q⟩
 |byt y=>
  obtain⟨t,rfl⟩:=rx;obtain⟨hy,e'⟩:y.size<=MT/\k=((y.size:Int) !=0):=e;subst e';exact PySem.W.truthy_bytes L8 ⟨H,I.tok _,q⟩
 |ref p=>
  cases rx;have e':(∃xs,bb X.K H p xs/\k=!xs.isEmpty)\/(∃xs,bo X.K H p xs/\k=!xs.isEmpty)\/∃kvs,H p=some (.dK kvs)/\k=!kvs.isEmpty:=e;rcases e' with⟨xs,hx,e'⟩|⟨xs,hx,e'⟩|⟨kvs,hx,e'⟩
  ·subst e';obtain⟨its,r,pl,hz⟩:=I.list hx;have hlen:=r.length;exact wpAny_truthy_list pl.isList (by simp only[Wh];omega) ⟨H,I.tok _,by rw[Fi r];exact q⟩
  ·subst e';obtain⟨its,r,pl,hz⟩:=I.tuple hx;have hlen:=r.length;exact truthy_tuple pl (by simp only[Wh];omega) ⟨H,I.tok _,by rw[Fi r];exact q⟩
  ·subst e';obtain⟨hz,hS,vs,r,m⟩:kvs.length<=MT/\(p==Nd)=false/\∃vs,KV kvs vs/\s.heap.DictOf (cK X.prog X.w) p vs:=I.hok p _ hx;have hlen:kvs.length=vs.length:=QQ r;exact wpAny_truthy_dict hS m L8 ⟨H,I.tok _,by rw[ac2 r];exact q⟩
 |_=>exact(show False from e).elim
theorem Fj(ha:PE X a ta)(he:∀whole,isTrue a X.env whole=(do let v<-whole;Nz a.pos;NL [v] (truthy v))):
 PT X a (λU H Q=>ta U H λx H'=>∃k,Fh X.K x H' k/\Q k H'):=by
 intro aeK s U H Q I h;exact isTrue_plain (aA (ha aeK s U H _ I h) λv s1 uu=>by obtain⟨x,H1,I1,r1,q1⟩:=uu;exact MP aeK s1 U H1 x v Q I1 r1 q1) (he _)
theorem Bf:bR X (O5 .Add) (λx y H Q=>∃i j,x= .str i/\y= .str j/\i.length+j.length<=MT/\Q (.str (i++j)) H):=by
 intro aeK s U H x y v u Q I rx ry h;obtain⟨i,j,rfl,rfl,hz,q⟩:=h;obtain⟨t,rfl⟩:=rx;obtain⟨t',rfl⟩:=ry;exact add_str (λt' tk=>⟨.str (i++j),H,I.tok _,⟨_,rfl⟩,q⟩) hz
theorem mH(r:aF [x] us):∃u,us=[u]/\aG x u:=by
 cases r with
 |cons r1 r2=>cases r2;exact⟨_,rfl,r1⟩
theorem wz(r:aF [x,y] us):∃u w',us=[u,w']/\aG x u/\aG y w':=by
 cases r with
 |cons r1 r2=>
  cases r2 with
  |cons r3 r4=>cases r4;exact⟨_,_,rfl,r1,r3⟩
theorem ac3(hc:X.calm=true):l6 X (.builtin "max") (λxs H Q=>∃i j,xs=[.int i,.int j]/\Q (.int (if j > i then j else i)) H):=by
 intro aeK s U H xs us Q I r h;obtain⟨i,j,rfl,q⟩:=h;obtain⟨u,w',rfl,⟨t,rfl⟩,⟨t',rfl⟩⟩:=wz r;refine max_two_ints (I.ok.hd hc) λh' tk k=>⟨_,H,I.kept k,?_,q⟩;by_cases hj:j > i
 ·rw[M8 hj,M8 hj];exact⟨_,rfl⟩
 ·rw[M4 hj,M4 hj];exact⟨_,rfl⟩
theorem Bg(hc:X.calm=true):l6 X (.builtin "min") (λxs H Q=>∃i j,xs=[.int i,.int j]/\Q (.int (if j < i then j else i)) H):=by
 intro aeK s U H xs us Q I r h;obtain⟨i,j,rfl,q⟩:=h;obtain⟨u,w',rfl,⟨t,rfl⟩,⟨t',rfl⟩⟩:=wz r;refine min_two_ints (I.ok.hd hc) λh' tk k=>⟨_,H,I.kept k,?_,q⟩;by_cases hj:j < i
 ·rw[M8 hj,M8 hj];exact⟨_,rfl⟩
 ·rw[M4 hj,M4 hj];exact⟨_,rfl⟩
theorem wA:l6 X (.type "int") (λxs H Q=>(∃i,xs=[.int i]/\Q (.int i) H)\/∃k,xs=[.bl k]/\Q (.int (if k then 1 else 0)) H):=by
 intro aeK s U H xs us Q I r h;rcases h with⟨i,rfl,q⟩|⟨k,rfl,q⟩
 ·obtain⟨u,rfl,t,rfl⟩:=mH r;exact call_int_int ⟨.int i,H,I,⟨_,rfl⟩,q⟩
 ·obtain⟨u,rfl,r1⟩:=mH r;cases r1;exact call_int_bool ⟨.int (if k then 1 else 0),H,I.tok _,⟨_,rfl⟩,q⟩
def MR(Z:VZ)(x:V)(H:Hp)(n:Nat):Prop:=
 match x with
 | .str y=>y.length<=MT/\n=y.length
 | .byt y=>y.size<=MT/\n=y.size
 | .ref p=>(∃xs,bb Z H p xs/\n=xs.length)\/∃xs,bo Z H p xs/\n=xs.length
 |_=>False
theorem MS:l6 X (.builtin "len") (λxs H Q=>∃x n,xs=[x]/\MR X.K x H n/\Q (.int n) H):=by
 intro aeK s U H xs us Q I r h;obtain⟨x,n,rfl,e,q⟩:=h;obtain⟨u,rfl,rx⟩:=mH r;have hl:=sQ;have hs:MT=16777216:=My;cases x with
 |str y=>
  obtain⟨t,rfl⟩:=rx;obtain⟨hy,e'⟩:y.length<=MT/\n=y.length:=e;subst e';exact len_str L8 ⟨.int _,H,I.tok _,⟨_,rfl⟩,q⟩
 |byt y=>
  obtain⟨t,rfl⟩:=rx;obtain⟨hy,e'⟩:y.size<=MT/\n=y.size:=e;subst e';exact PySem.W.len_bytes L8 ⟨.int _,H,I.tok _,⟨_,rfl⟩,q⟩
 |ref p=>
  cases rx;have e':(∃xs,bb X.K H p xs/\n=xs.length)\/∃xs,bo X.K H p xs/\n=xs.length:=e;rcases e' with⟨xs,hx,e'⟩|⟨xs,hx,e'⟩
  ·subst e';obtain⟨its,r',pl,hz⟩:=I.list hx;have hlen:=r'.length;exact VX pl.isList (by simp only[Wh];omega) ⟨.int xs.length,H,I.tok _,⟨_,by simp only[Wh];rw[hlen]⟩,q⟩
  ·subst e';obtain⟨its,r',pl,hz⟩:=I.tuple hx;have hlen:=r'.length;exact len_tuple pl (by simp only[Wh];omega) ⟨.int xs.length,H,I.tok _,⟨_,by simp only[Wh];rw[hlen]⟩,q⟩
 |_=>exact(show False from e).elim
theorem ac5:l6 X (.builtin "divmod") (λxs H Q=>∃i j,xs=[.int i,.int j]/\dj i j/\∀p,H p=none->Q (.ref p) (ai H p (.tup [.int (i / j),.int (i % j)]))):=by
 intro aeK s U H xs us Q I r h;obtain⟨i,j,rfl,⟨h1,h2⟩,q⟩:=h;obtain⟨u,w',rfl,⟨t,rfl⟩,⟨t',rfl⟩⟩:=wz r;refine divmod_int L8 ?_ (.inl (VV L8));rw[Ra i L8,Ui i L8];have hn:H s.heap.objs.size=none:=I.hok.fresh (V4 _);refine⟨.ref s.heap.objs.size,_,?_,rfl,q _ hn⟩;refine I.laid (λb o e=>V3 _ e) (V4 _) ⟨by simp only[V5,WB];rw[My];decide,[.int (i / j) s.toks,.int (i % j) (s.toks+1)],.cons ⟨_,rfl⟩ (.cons ⟨_,rfl⟩ .nil),?_⟩;exact⟨_,Wv s.heap rfl,rfl,0,rfl⟩
structure sR (h:Md) (x dx C:L9) (mA:Str->Option M3):Prop where
 obj:h.get? x=some (YS C dx)
 ns:h.Ns1 dx mA
 ne:dx≠x
theorem ade{h:Md}(n:h.Ns1 dx mA):∃od,h.get? dx=some od/\∀name,Pk name od=some (mA name):=by
 obtain⟨o,es,ep,ho,hd,hk,_,hm⟩:=n;refine⟨o,ho,λname=>?_⟩;have e:=hm name;unfold nsFind findBy at e;rw[<-Array.find?_toList]at e;unfold Pk;rw[hd];dsimp only;split
 ·rename_i y q;rw[q]at e;exact congrArg some e
 ·rename_i q;rw[q]at e;have a:es.toList.any (·.refKey)=false:=by
   rw[SA];intro y hy;obtain⟨z,t,hkey⟩:=hk y (UC.mp hy);simp[DictEntry.refKey,hkey]
  have a':¬es.toList.any (·.refKey)=true:=by rw[a];exact We
  rw[M4 a'];exact congrArg some e
theorem sR.look(I:sR h x dx C mA):∃od,PySem.W.InstAt h x (YS C dx) C (some od)/\∀name,Pk name od=some (mA name):=
 let ⟨od,ho,hl⟩:=ade I.ns
 ⟨od,⟨I.obj,rfl,rfl,ho⟩,hl⟩
section
variable{prog:N4}{w:Mp}{A:N0}{E:M3->M6->Prop}{s:M6}{Z:VZ}{x dx C f:L9}{mA:Str->Option M3}{name:Str}{v:M3}
theorem MV{Q:M3->M6->Prop}(X:Z.In s.heap)(I:sR s.heap x dx C mA)(hg:Z8 Z C name=true)(hh:R7 Z C=true)
 (ha:Ys Z (.ref C) name=some none)(hv:mA name=some v)(hv':S8 v=true)(h:Q v {s with toks:=s.toks+1}):
 MD (MK prog w) A (getAttr (.ref x) name expr) Q E s:=by
 obtain⟨od,J,hl⟩:=I.look;exact PySem.W.get_value X J (Qu hg).1 (PySem.W.findObj_own hh ha rfl (by rw[hl,hv])) hv' h
theorem MW{Q:M3×List M3->M6->Prop}(X:Z.In s.heap)(I:sR s.heap x dx C mA)(hg:Z8 Z C name=true)
 (hf:Ys Z (.ref C) name=some (some (.ref f)))(ht:PB Z (.ref f)=true)(hv:mA name=none)(h:Q (.ref f,[.ref x]) s):
 MD (MK prog w) A (OW (.ref x) name pl) Q E s:=by
 obtain⟨od,J,hl⟩:=I.look;exact PySem.W.method_fn X J (Qu hg).1 (Qu hg).2 hf (beq_iff_eq.mp ht) (by show(Pk name od).map (·.isSome)=some false;rw[hl,hv];rfl) h
theorem CX0{Q:Unit->M6->Prop}(X:Z.In s.heap)(I:sR s.heap x dx C mA)
 (hs:Ys Z (.ref C) "__setattr__"=some (some (.builtin "object.__setattr__")))(hp:Vb Z C=true)(ht:RY Z C name=some none)(hh:R7 Z C=true)
 (hw:Pr mA ns)(hsz:ns.length<=MT)
 (h:∀h',sR h' x dx C (λy=>if y=name then some v else mA y)->YU dx s.heap h'->Q () {s with heap:=h',toks:=s.toks+2}):
 MD (MK prog w) A (setAttr (.ref x) name v) Q E s:=by
 obtain⟨od,J,hl⟩:=I.look;refine PySem.W.set_plain X J hs (PySem.W.osa_open (s:={s with toks:=s.toks+1}) (r:=none) X J hp ht λb=>?_);obtain⟨cd,hc,hd'⟩:=PySem.W.any_some hh;have hx:s.heap.get? x=some ⟨.ref C,some dx,.plain,#[]⟩:=I.obj;refine M5 (MO (M5 (M5 (wpAny_loadPart hx (M5 (PySem.W.Looks.here (s:={s with toks:=s.toks+1}) (PySem.W.looks_clsIn X hc) ?_))))));rw[hd'];refine MO (a:=some dx) (M5 (MO (M5 ?_)));refine wpAny_nsSet1 (s:={s with toks:=s.toks+1}) I.ns λh' hn2 hs2=>?_;obtain⟨oD,esD,epD,hoD,y3,hcD⟩:=hn2.count (Pr.cons name v hw);refine M5 (wpAny_lookBehind hoD (by rw[y3];exact pastItsLine_dict (Wy hcD (by rw[V5];omega))) ?_);exact MO (h _ ⟨(hs2.2 _ (Ne.symm I.ne)).trans I.obj,hn2,I.ne⟩ hs2)
theorem MY{R:Result->M6->Prop}{vs:List M3}{kw:List (Str×M3)}(X:Z.In s.heap)(hm:R4 Z C=true)
 (hi:Ys Z (.ref C) "__init__"=some (some (.ref f)))(hf:PySem.W.typeIn Z (.ref f)=some (.type "function"))
 (h:NS (MK prog w) (A.under (.builtin "type.__call__" ⟨.ref C::vs,kw⟩)) (.call (.ref f) ⟨.ref (s.heap.objs.size+1)::vs,kw⟩) (PySem.W.InitBack (s.heap.objs.size+1) R)
   {s with heap:=(s.heap.push Yu).push (YS C s.heap.objs.size)}):
 NS (MK prog w) A (.call (.ref C) ⟨vs,kw⟩) R s:=by
 obtain⟨hh,g,d,t,os⟩:=s;exact PySem.W.make_core (PySem.W.makes_of X hm) (PySem.W.looks_findIn X hi) (λself=>PySem.W.bind_fn X self hf) (.inl rfl) h
end
def l7(f:Str)(v:V):List (Str×V)->List (Str×V)
 | []=>[(f,v)]
 | (g,x)::r=>if g=f then(g,v)::r else(g,x)::l7 f v r
theorem Fl(f g:Str)(v:V):∀fs:List (Str×V),(l7 f v fs).lookup g=if g=f then some v else fs.lookup g
 | []=>by
  show Zp g [(f,v)]=_;by_cases h:g=f
  ·have hb:(g==f)=true:=beq_iff_eq.mpr h;simp only[Zp,hb,M8 h]
  ·have hb:(g==f)=false:=beq_eq_false_iff_ne.mpr h;simp only[Zp,hb,M4 h]
 | (k,x)::r=>by
  have ih:=Fl f g v r;rw[show l7 f v ((k,x)::r)=(if k=f then(k,v)::r else(k,x)::l7 f v r) from rfl];by_cases hk:k=f
  ·rw[M8 hk];by_cases h:g=k
   ·have hb:(g==k)=true:=beq_iff_eq.mpr h;simp only[Zp,hb,M8 (h.trans hk)]
   ·have hb:(g==k)=false:=beq_eq_false_iff_ne.mpr h;simp only[Zp,hb,M4 (λe:g=f=>h (e.trans hk.symm))]
  ·rw[M4 hk];by_cases h:g=k
   ·have hb:(g==k)=true:=beq_iff_eq.mpr h;simp only[Zp,hb,M4 (λe:g=f=>hk (h.symm.trans e))]
   ·have hb:(g==k)=false:=beq_eq_false_iff_ne.mpr h;simp only[Zp,hb];exact ih
theorem Bh(f:Str)(v:V):∀fs:List (Str×V),f∈(l7 f v fs).map (·.1)/\∀g,g∈fs.map (·.1)->g∈(l7 f v fs).map (·.1)
 | []=>⟨by simp[l7],λg h=>by simp at h⟩
 | (k,x)::r=>by
  obtain⟨i1,i2⟩:=Bh f v r;rw[show l7 f v ((k,x)::r)=(if k=f then(k,v)::r else(k,x)::l7 f v r) from rfl];by_cases hk:k=f
  ·rw[M8 hk];subst hk;exact⟨MC,λg h=>by simpa using h⟩
  ·rw[M4 hk];refine⟨?_,λg h=>?_⟩
   ·rw[V2];exact Wu _ i1
   ·rw[V2]at h⊢;rcases Wc.mp h with e|e
    ·exact Wc.mpr (.inl e)
    ·exact Wu _ (i2 g e)
theorem Fm(f:Str)(v:V):∀fs:List (Str×V),(l7 f v fs).length<=fs.length+1
 | []=>by simp[l7]
 | (k,x)::r=>by
  have ih:=Fm f v r;rw[show l7 f v ((k,x)::r)=(if k=f then(k,v)::r else(k,x)::l7 f v r) from rfl];by_cases hk:k=f
  ·rw[M8 hk,V5,V5];omega
  ·rw[M4 hk,V5,V5];omega
theorem mF.some_of(r:mF (some v) o):∃u,o=some u/\aG v u:=by
 cases o with
 |none=>exact(show False from r).elim
 |some u=>exact⟨u,rfl,r⟩
theorem mF.none_of(r:mF none o):o=none:=by
 cases o with
 |none=>rfl
 |some u=>exact(show False from r).elim
theorem ac7(r:aG v u):S8 u=true:=by
 cases v with
 |non=>cases (show u=Yn from r);rfl
 |bl b=>cases (show u=Y3 b from r);rfl
 |int i=>obtain⟨t,e⟩:=(show ∃t,u=YJ i t from r);cases e;rfl
 |str x=>obtain⟨t,e⟩:=(show ∃t,u=Zd x t from r);cases e;rfl
 |byt b=>obtain⟨t,e⟩:=(show ∃t,u=VL b t from r);cases e;rfl
 |flt b=>obtain⟨t,e⟩:=(show ∃t,u=Sv b t from r);cases e;rfl
 |ref a=>cases (show u=W5 a from r);rfl
 |ty n=>cases (show u=Zk n from r);rfl
theorem Bi(hok:bQ P w H h)(e:H a=some (.ins C dx fs)):∃mA,sR h a dx C mA/\(∀f,mF (fs.lookup f) (mA f))/\Pr mA (fs.map (·.1))/\fs.length<=1000/\H dx=some (.own a):=by
 obtain⟨d,z,ne,ob,mA,n,r,q⟩:=(show cA P w H h a (.ins C dx fs) from hok a _ e);exact⟨mA,⟨ob,n,ne⟩,r,q,z,d⟩
structure lX (Z:VZ) (C:L9):Prop where
 pg:Z8 Z C Str.empty=true
 hd:R7 Z C=true
 po:Vb Z C=true
 sa:Ys Z (.ref C) "__setattr__"=some (some (.builtin "object.__setattr__"))
theorem lX.get(c:lX Z C)(f:Str):Z8 Z C f=true:=c.pg
def NoAttr(Z:VZ)(C:L9)(f:Str):Prop:=Ys Z (.ref C) f=some none
theorem NoAttr.taker(n:NoAttr Z C f):RY Z C f=some none:=by
 unfold RY;rw[show Ys Z (.ref C) f=some none from n];rfl
structure oT (Z:VZ) (C:L9) (m:Str) (f:L9):Prop where
 at_:Ys Z (.ref C) m=some (some (.ref f))
 fn:PB Z (.ref f)=true
 kp:YF Z (.ref f)=true
section
variable{X:Cx}{aeK:List (L9×Obj)}{U:St}{H:Hp}{s:M6}{a C dx:L9}{fs:List (Str×V)}{f:Str}{v:V}{A:N0}{E:M3->M6->Prop}
theorem acZ{b:Bool}{Q:M3->M6->Prop}(I:af X aeK U H s)(e:H a=some (.ins C dx fs))(c:lX X.K C)(n:NoAttr X.K C f)(l:fs.lookup f=some v)
 (h:∀u s',af X aeK U H s'->aG v u->Q u s'):MD (MK X.prog X.w) A (getAttr (.ref a) f b) Q E s:=by
 obtain⟨mA,O,r,_,_,_⟩:=Bi I.hok e;obtain⟨u,hu,ru⟩:=mF.some_of (v:=v) (o:=mA f) (by rw[<-l];exact r f);exact MV I.kIn O (c.get f) c.hd n hu (ac7 ru) (h u _ (I.tok _) ru)
theorem wB{m:Str}{g:L9}{pl:Sem Bool}{Q:M3×List M3->M6->Prop}(I:af X aeK U H s)(e:H a=some (.ins C dx fs))(c:lX X.K C)(k:oT X.K C m g)(l:fs.lookup m=none)
 (h:Q (.ref g,[.ref a]) s):MD (MK X.prog X.w) A (OW (.ref a) m pl) Q E s:=by
 obtain⟨mA,O,r,_,_,_⟩:=Bi I.hok e;have hn:mA m=none:=mF.none_of (by rw[<-l];exact r m);exact MW I.kIn O (c.get m) k.at_ k.fn hn h
theorem acT{u:M3}{Q:Unit->M6->Prop}(I:af X aeK U H s)(e:H a=some (.ins C dx fs))(c:lX X.K C)(n:NoAttr X.K C f)(hl:fs.length < 1000)(ry:aG y u)
 (h:∀s',af X aeK U (ai H a (.ins C dx (l7 f y fs))) s'->Q () s'):MD (MK X.prog X.w) A (setAttr (.ref a) f u) Q E s:=by
 obtain⟨mA,O,r,wi,_,ho⟩:=Bi I.hok e;have hz:(fs.map (·.1)).length<=MT:=by rw[V0,My];omega
 refine CX0 I.kIn O c.sa c.po n.taker c.hd wi hz λh' O' sb=>h _ ?_;have hd:∃o,h'.get? dx=some o:=let ⟨o,_,_,e',_⟩:=O'.ns;⟨o,e'⟩
 refine I.write (x:=a) (e:=dx) (by rw[e];exact X8) (.inr ho) (λb q hb z=>(sb.2 b hb).trans z) hd ?_;refine⟨by rw[ar O.ne];exact ho,?_,O.ne,O'.obj,_,O'.ns,λg=>?_,λg hg=>?_⟩
 ·have:=Fm f y fs;omega
 ·show mF ((l7 f y fs).lookup g) (if g=f then some u else mA g);rw[Fl];by_cases q:g=f
  ·rw[M8 q,M8 q];exact ry
  ·rw[M4 q,M4 q];exact r g
 ·by_cases q:g=f
  ·rw[q];exact(Bh f y fs).1
  ·refine(Bh f y fs).2 g (wi g λz=>hg ?_);show(if g=f then some u else mA g)=none;rw[M4 q];exact z
theorem af.made(I:af X aeK U H s):af X aeK U (ai (ai H s.heap.objs.size (.own (s.heap.objs.size+1))) (s.heap.objs.size+1) (.ins C s.heap.objs.size []))
 {s with heap:=(s.heap.push Yu).push (YS C s.heap.objs.size)}:=by
 have e1:(s.heap.push Yu).get? s.heap.objs.size=some Yu:=Wv s.heap rfl;have e2:((s.heap.push Yu).push (YS C s.heap.objs.size)).get? (s.heap.objs.size+1)=some (YS C s.heap.objs.size):=by
  have:=Wv (s.heap.push Yu) (o:=YS C s.heap.objs.size) rfl
  rwa [Zf]at this
 have e3:(s.heap.push Yu).Ns s.heap.objs.size (λ_=>none):=⟨Yu,#[],_,e1,rfl,(λe he=>absurd he MC),λ_=>rfl⟩;have I1:=I.laid (a:=s.heap.objs.size) (o:= .own (s.heap.objs.size+1)) (h':=s.heap.push Yu) (t':=s.toks) (λb u q=>V3 _ q) (V4 _) ⟨_,e1⟩;refine I1.laid (a:=s.heap.objs.size+1) (o:= .ins C s.heap.objs.size []) (t':=s.toks) (λb u q=>V3 _ q) (Qz (Zf _ _)) ?_;have ne:s.heap.objs.size≠s.heap.objs.size+1:=WI (YN _);refine⟨by rw[ar ne,aV],Xe _,ne,e2,λ_=>none,(Heap.Ns1.of_empty e3).at λo q=>V3 _ q,λ_=>X8,λy hy=>absurd rfl hy⟩
theorem acY{f:Str}{s:M6}(hb:Ny e f env (eval e env)=eval e env)
 (h:MD (MK prog w) A (eval e env) (λo s₁=>MD (MK prog w) A (getAttr o f true) Q E s₁) E s):MD (MK prog w) A (eval (.Attribute e f pos) env) Q E s:=
 Attribute_any_ h (by rw[arm_eval_Attribute,hb])
end
def ac1(Z:VZ)(ta:TE)(f:Str):TE:=λU H Q=>ta U H λx H1=>∃a C dx fs v,x= .ref a/\H1 a=some (.ins C dx fs)/\lX Z C/\NoAttr Z C f/\fs.lookup f=some v/\Q v H1
def M7(Z:VZ)(ta tv:TE)(f:Str):TS:=λD U H=>tv U H λy H1=>ta U H1 λx H2=>∃a C dx fs,x= .ref a/\H2 a=some (.ins C dx fs)/\lX Z C/\NoAttr Z C f/\fs.length < 1000/\
 D.nx U (ai H2 a (.ins C dx (l7 f y fs)))
theorem wC(he:PE X e ta)(hb:Ny e f X.env (eval e X.env)=eval e X.env):PE X (.Attribute e f pos) (ac1 X.K ta f):=by
 intro aeK s U H Q I h;refine acY hb (aA (he aeK s U H _ I h) λu s1 ⟨x,H1,I1,rx,a,C,dx,fs,v,ex,ea,c,n,l,q⟩=>?_);subst ex;obtain rfl:u=W5 a:=rx;exact acZ I1 ea c n l λu' s2 I2 ru=>⟨v,H1,I2,ru,q⟩
theorem Bj(ha:PE X o ta)(hv:PE X value tv)(hs:N3 value (some (.Attribute o f pos')) pos.line X.env=pure false):PS X (.Assign [.Attribute o f pos'] value pos) (M7 X.K ta tv f):=by
 intro aeK s U H D I h;refine plainObj_wpAny_Assign_Attribute (aA (hv aeK s U H _ I h) λu s1 ⟨y,H1,I1,ry,q⟩=>aA (ha aeK s1 U H1 _ I1 q) λov s2 ⟨x,H2,I2,rx,a,C,dx,fs,ex,ea,c,n,l,q2⟩=>?_) hs;subst ex;obtain rfl:ov=W5 a:=rx;exact acT I2 ea c n l ry λs3 I3=>⟨U,_,I3,q2⟩
theorem aa8{pl:Sem Bool}{m:Str}{args:List Mb}{aeK:List (L9×Obj)}{s:M6}{U:St}{Q:M3->M6->Prop}{te:TE}(he:PE X e te)(I:af X aeK U H s)
 (h:te U H λx H1=>∃a C dx fs g,x= .ref a/\H1 a=some (.ins C dx fs)/\lX X.K C/\oT X.K C m g/\fs.lookup m=none/\
   ∀s1,af X aeK U H1 s1->MD (MK X.prog X.w) X.A (callWith pos (.ref g) [.ref a] (Mj pos (MQ args X.env)) (Nl pos (Np [] X.env))) Q X.xe s1)
 (ht:eval (.Call (.Attribute e m apos) args [] pos) X.env=(do
   let ov<-eval e X.env
   Nz apos.atName
   let (f,first)<-NL [ov] (OW ov m pl)
   callWith pos f first (Mj pos (MQ args X.env)) (Nl pos (Np [] X.env)))):
 MD (MK X.prog X.w) X.A (eval (.Call (.Attribute e m apos) args [] pos) X.env) Q X.xe s:=by
 refine Zt (pl:=pl) (aA (he aeK s U H _ I h) λu s1 ⟨x,H1,I1,rx,a,C,dx,fs,g,ex,ea,c,k,l,q⟩=>?_) ht;subst ex;obtain rfl:u=W5 a:=rx;exact wB I1 ea c k l (q s1 I1)
structure bf (k:Nat) (A:N0):Prop where
 hd:A.handled=none
 dp:A.depth+3*k+5 < recursionLimit
 un:A.units+16*k+200 < Mq
theorem bf.mono(r:bf k A)(h:j<=k):bf j A:=⟨r.hd,by have:=r.dp;omega,by have:=r.un;omega⟩
theorem bf.deeper(r:bf (k+1) A)(env:Env):bf k (A.deeper env):=
 ⟨r.hd,by have:=r.dp;show A.depth+1+3*k+5 < _;omega,by have:=r.un;show A.units+3+16*k+200 < _;omega⟩
theorem bf.in1(r:bf (k+1) A):bf k A.in1:=
 ⟨r.hd,by have:=r.dp;show A.depth+3*k+5 < _;omega,by have:=r.un;show A.units+1+16*k+200 < _;omega⟩
theorem acU{A:N0}:(A.under (.builtin "type.__call__" ⟨.ref C::us,kw⟩)).depth=A.depth+1:=by
 first|rfl|simp[Qj,Code.weight,Code.isCreation,Code.isGuard,Code.isCaller,SY,RU,guardIds]
theorem M9{A:N0}:(A.under (.builtin "type.__call__" ⟨.ref C::us,kw⟩)).units=A.units+1:=by
 first|rfl|simp[Qj,Code.cUnits,SY,RU]
theorem bf.make(r:bf (k+1) A)(C:L9)(us:List M3)(kw:List (Str×M3)):bf k (A.under (.builtin "type.__call__" ⟨.ref C::us,kw⟩)):=
 ⟨r.hd,by have:=r.dp;rw[acU];omega,by have:=r.un;rw[M9];omega⟩
theorem bf.depth(r:bf k A):A.depth < recursionLimit:=by have:=r.dp;omega
theorem bf.units(r:bf k A):A.units+64 < Mq:=by have:=r.un;omega
theorem bf.units0(r:bf k A):A.units < Mq:=by have:=r.un;omega
def wD:TA:=λ_ H Q=>Q [] H
def Fo(ta:TE)(tr:TA):TA:=λU H Q=>ta U H λx H1=>tr U H1 λxs H2=>Q (x::xs) H2
theorem cm:PA X [] wD:=λ_ _ _ _ H Q I h=>Qo ⟨[],H,I,.nil,h⟩
theorem bj(ha:PE X e te)(hr:PA X es t)(hs:MQ (e::es) X.env=(false,eval e X.env)::MQ es X.env:=by rfl):PA X (e::es) (Fo te t):=by
 intro pos aeK s U H Q I h;rw[hs];show MD _ _ (spliced ((false,eval e X.env)::Mj pos (MQ es X.env))) _ _ s;refine ZN (aA (ha aeK s U H _ I h) λu s1 ⟨x,H1,I1,r1,q1⟩=>?_);exact aA (hr pos aeK s1 U H1 _ I1 q1) λus s2 uu=>by obtain⟨xs,H2,I2,r2,q2⟩:=uu;exact⟨x::xs,H2,I2,.cons r1 r2,q2⟩
def Fp(t:TA):TE:=λU H Q=>t U H λxs H1=>xs.length<=MT/\∀p,H1 p=none->Q (.ref p) (ai H1 p (.tup xs))
def Fq(t:TA):TE:=λU H Q=>t U H λxs H1=>xs.length<=MT/\∀p,H1 p=none->Q (.ref p) (ai H1 p (.lst xs))
theorem Fs(h:PA X es t):PE X (.Tuple es x1 pos) (Fp t):=by
 intro aeK s U H Q I hq;refine wpAny_Tuple_spliced (aA (h pos aeK s U H _ I hq) λus s1 ⟨xs,H1,I1,r,z,q⟩=>⟨by rw[<-r.length];exact z,?_⟩);have hf:H1 s1.heap.objs.size=none:=I1.hok.fresh (V4 _);refine⟨.ref s1.heap.objs.size,ai H1 s1.heap.objs.size (.tup xs),I1.laid (t':=s1.toks) (λb u e=>V3 _ e) (V4 _) ?_,rfl,q _ hf⟩;exact⟨z,us,r,⟨_,Wv _ rfl,rfl,_,rfl⟩⟩
theorem Bk(h:PA X es t):PE X (.List es pos) (Fq t):=by
 intro aeK s U H Q I hq;refine wpAny_List_spliced (aA (h pos aeK s U H _ I hq) λus s1 ⟨xs,H1,I1,r,z,q⟩=>⟨by rw[<-r.length];exact z,?_⟩);have hf:H1 s1.heap.objs.size=none:=I1.hok.fresh (V4 _);refine⟨.ref s1.heap.objs.size,ai H1 s1.heap.objs.size (.lst xs),I1.laid (t':=s1.toks) (λb u e=>V3 _ e) (V4 _) ?_,rfl,q _ hf⟩;exact⟨z,us,0,r,Wv _ rfl⟩
abbrev Sp:=List V->Hp->VK->XK->Prop
abbrev nk:=List Env->Hp->M6->XK->M3->M6->Prop
structure qx (P:N4) (w:Mp) (Z:VZ) (mg:Str->Option M3) (base:Md) (A:N0) (outer:List Env) (s:M6) (H:Hp):Prop where
 frames:A.frames=some outer
 mod:Mod Z mg base
 bs:∀b o,base.get? b=some o->s.heap.get? b=some o/\H b=none
 bsz:base.objs.size<=s.heap.objs.size
 funs:s.heap.FunFrames base outer
 frf:∀b∈oE outer,H b=none
 hok:bQ P w H s.heap
 bare:OH s.gens
def CE(outer:List Env)(P:N4)(w:Mp)(H:Hp)(s:M6)(Q:VK)(u:M3)(s':M6):Prop:=
 ∃v H',s'.os=s.os/\OH s'.gens/\Un (oE outer) [] H H' s.heap s'.heap/\bQ P w H' s'.heap/\aG v u/\Q v H'
def CR(CX:nk)(outer:List Env)(P:N4)(w:Mp)(H:Hp)(s:M6)(Q:VK)(E:XK)(r:Result)(s':M6):Prop:=
 match r with
 | .ok (.ret u)=>CE outer P w H s Q u s'
 | .ok _=>False
 | .error e=>CX outer H s E e s'
structure aB (P:N4) (w:Mp) (Z:VZ) (mg:Str->Option M3) (base:Md) (CX:nk) (k:Nat) (f:L9) (fd:MZ) (ps:List Str) (sp:Sp):Prop where
 len:∀vs H Q E,sp vs H Q E->vs.length=ps.length
 run:∀(A:N0)(outer:List Env)(s:M6)(H:Hp)(args:Args)(us:List M3)(vs:List V)(Q:VK)(E:XK),bf k A->qx P w Z mg base A outer s H->BindsTo s fd args (ps.zip us)->aF vs us->sp vs H Q E->
  NS (MK P w) A (.call (.ref f) args) (CR CX outer P w H s Q E) s
theorem aB.imp{sp sp':Sp}(F:aB P w Z mg base CX k f fd ps sp)
 (h:∀vs H Q E,sp' vs H Q E->sp vs H Q E):aB P w Z mg base CX k f fd ps sp':=
 ⟨λvs H Q E q=>F.len vs H Q E (h _ _ _ _ q),λA outer s H args us vs Q E hr he hb hv hs=>F.run A outer s H args us vs Q E hr he hb hv (h _ _ _ _ hs)⟩
theorem qx.make(e:qx P w Z mg base A outer s H)(C:L9)(us:List M3)(kw:List (Str×M3)):
 qx P w Z mg base (A.under (.builtin "type.__call__" ⟨.ref C::us,kw⟩)) outer s H:=⟨by first|exact e.frames | (simpa [Qj,Code.envs,RU,pushEnvs]using e.frames),e.mod,e.bs,e.bsz,e.funs,e.frf,e.hok,e.bare⟩
theorem qx.in1(e:qx P w Z mg base A outer s H):
 qx P w Z mg base A.in1 outer s H:=⟨e.frames,e.mod,e.bs,e.bsz,e.funs,e.frf,e.hok,e.bare⟩
section
variable{X:Cx}{aeK:List (L9×Obj)}{U:St}{H:Hp}{s s':M6}
theorem af.env0(I:af X aeK U H s):qx X.prog X.w X.K X.mg X.base X.A X.stack s H:=
 ⟨I.ok.frames,I.ok.mod,I.bs,Wy I.ok.bsz I.sz,I.stack,I.stkFree,I.hok,I.bare⟩
theorem af.after{Q:VK}{u:M3}(I:af X aeK U H s)(h:CE X.stack X.prog X.w H s Q u s'):EP X aeK U Q u s':=by
 obtain⟨v,H',os,bare,un,hok,r,q⟩:=h;obtain⟨hh,g,d,t,os'⟩:=s';obtain rfl:os'=s.os:=os;exact⟨v,H',I.call (h':=hh) (g':=g) (d':=d) (t':=t) (ch:=[]) un hok bare (λb z=>absurd z MC),r,q⟩
end
def wF(sp:Sp)(dvs:List V)(E:XK)(t:TA):TE:=λU H Q=>t U H λvs H1=>sp (vs++dvs) H1 Q E
def vp(C:L9)(m:Str)(sp:Sp)(dvs:List V)(E:XK)(ta:TE)(t:TA):TE:=λU H Q=>ta U H λx H1=>∃a dx fs,x= .ref a/\H1 a=some (.ins C dx fs)/\fs.lookup m=none/\
 t U H1 λvs H2=>sp (x::(vs++dvs)) H2 Q E
def Ft(C:L9)(sp:Sp)(dvs:List V)(E:XK)(t:TA):TE:=λU H Q=>t U H λvs H1=>∀x dx,H1 x=none->H1 dx=none->dx≠x->
 sp (.ref x::(vs++dvs)) (ai (ai H1 dx (.own x)) x (.ins C dx [])) (λv H2=>v= .non/\Q (.ref x) H2) E
def l8(Z:VZ)(fd:MZ)(ps:List Str)(ds:List M3):Prop:=
 ∀(s:M6)(us:List M3),Z.In s.heap->(us++ds).length=ps.length->BindsTo s fd ⟨us,[]⟩ (ps.zip (us++ds))
theorem l8.all{ps:List Str}(h:∀us:List M3,us.length=ps.length->bindArgs fd ⟨us,[]⟩=pure (ps.zip us)):l8 Z fd ps []:=λs us _ hl=>by
 rw[Wn]at hl⊢;exact .of_eq (h us hl)
def pQ(CX:nk)(X:Cx)(E:XK):Prop:=∀(aeK:List (L9×Obj))(U:St)(H:Hp)(s:M6)(e:M3)(s':M6),af X aeK U H s->CX X.stack H s E e s'->X.xe e s'
section
variable{X:Cx}{CX:nk}{k:Nat}{f C:L9}{fd:MZ}{ps:List Str}{sp:Sp}{dvs:List V}{ds:List M3}{E:XK}{x m:Str}{p pos apos:Pos}{e o:Mb}{es:List Mb}{ta:TE}{t:TA}
theorem wG{aeK:List (L9×Obj)}{U:St}{s:M6}{Q:VK}{us:List M3}{vs:List V}(F:aB X.prog X.w X.K X.mg X.base CX k f fd ps sp)(hr:bf k X.A)(hb:l8 X.K fd ps ds)(hd:aF dvs ds)(hx:pQ CX X E)
 (I:af X aeK U H s)(r:aF vs us)(h:sp (vs++dvs) H Q E):MD (MK X.prog X.w) X.A (NC (.ref f) us) (EP X aeK U Q) X.xe s:=by
 have r2:aF (vs++dvs) (us++ds):=r.append hd;have hl:(us++ds).length=ps.length:=by rw[<-r2.length];exact F.len _ _ _ _ h
 refine wpAny_call (OS (F.run X.A X.stack s H ⟨us,[]⟩ (us++ds) (vs++dvs) Q E hr I.env0 (hb s us I.kIn hl) r2 h) λr s' hq=>?_);cases r with
 |error e=>exact hx aeK U H s e s' I hq
 |ok fl=>
  cases fl with
  |ret u=>exact I.after hq
  |next=>exact Yo hq
  |brk=>exact Yo hq
  |cont=>exact Yo hq
theorem Fv(F:aB X.prog X.w X.K X.mg X.base CX k f fd ps sp)(hr:bf k X.A)(hg:Gl X x)(hm:X.mg x=some (.ref f))(hk:YF X.K (.ref f)=true)(hb:l8 X.K fd ps ds)(hd:aF dvs ds)(hx:pQ CX X E)
 (ha:PA X (e::es) t)(hdb:(x==("__debug__":Str))=false:=by decide)(he:MQ (e::es) X.env=(false,eval e X.env)::MQ es X.env:=by rfl)(hpl:(Mj pos (MQ es X.env)).any (·.1)=false:=by rfl):
 PE X (.Call (.Name x p) (e::es) [] pos) (wF sp dvs E t):=by
 intro aeK s U H Q I h;refine Oi (wc I hg hm ?_ hdb);refine ZO (h₀:=X.base) I.ok.mod.kin hk (aA (ha pos aeK s U H _ I h) λus s1 ⟨vs,H1,I1,r,q⟩=>⟨I1.kIn,?_⟩) he hpl;exact wG F hr hb hd hx I1 r q
theorem Fw{pl:Sem Bool}(he:PE X o ta)(c:lX X.K C)(hm:oT X.K C m f)(F:aB X.prog X.w X.K X.mg X.base CX k f fd ps sp)(hr:bf k X.A)(hb:l8 X.K fd ps ds)(hd:aF dvs ds)(hx:pQ CX X E)(ha:PA X (e::es) t)
 (hst:MQ (e::es) X.env=(false,eval e X.env)::MQ es X.env:=by rfl)(hpl:(Mj pos (MQ es X.env)).any (·.1)=false:=by rfl)
 (ht:eval (.Call (.Attribute o m apos) (e::es) [] pos) X.env=(do
   let ov<-eval o X.env
   Nz apos.atName
   let (f,first)<-NL [ov] (OW ov m pl)
   callWith pos f first (Mj pos (MQ (e::es) X.env)) (Nl pos (Np [] X.env))):=by rfl):
 PE X (.Call (.Attribute o m apos) (e::es) [] pos) (vp C m sp dvs E ta t):=by
 intro aeK s U H Q I h;refine Zt (pl:=pl) (aA (he aeK s U H _ I h) λu s1 ⟨x,H1,I1,rx,a,dx,fs,ex,ea,l,q⟩=>?_) ht;subst ex;obtain rfl:u=W5 a:=rx;refine wB I1 ea c hm l ?_;refine ZO (first:=[.ref a]) (h₀:=X.base) I.ok.mod.kin hm.kp (aA (ha pos aeK s1 U H1 _ I1 q) λus s2 ⟨vs,H2,I2,r,q2⟩=>⟨I2.kIn,?_⟩) hst hpl;exact wG (us:= .ref a::us) (vs:= .ref a::vs) F hr hb hd hx I2 (.cons rfl r) q2
theorem wH(he:PE X o ta)(c:lX X.K C)(hm:oT X.K C m f)(F:aB X.prog X.w X.K X.mg X.base CX k f fd ps sp)(hr:bf k X.A)(hb:l8 X.K fd ps ds)(hd:aF dvs ds)(hx:pQ CX X E)
 (ht:eval (.Call (.Attribute o m apos) [] [] pos) X.env=(do
   let ov<-eval o X.env
   Nz apos.atName
   let (f,first)<-NL [ov] (OW ov m pl)
   callWith pos f first (Mj pos (MQ [] X.env)) (Nl pos (Np [] X.env))):=by rfl):
 PE X (.Call (.Attribute o m apos) [] [] pos) (vp C m sp dvs E ta wD):=by
 intro aeK s U H Q I h;refine Zt (pl:=pl) (aA (he aeK s U H _ I h) λu s1 ⟨x,H1,I1,rx,a,dx,fs,ex,ea,l,q⟩=>?_) ht;subst ex;obtain rfl:u=W5 a:=rx;refine wB I1 ea c hm l ?_;exact PySem.W.callWith_K0 (first:=[.ref a]) I1.kIn hm.kp (wG (us:=[.ref a]) (vs:=[.ref a]) F hr hb hd hx I1 (.cons rfl .nil) q)
structure Mk (Z:VZ) (C f:L9):Prop where
 makes:R4 Z C=true
 init:Ys Z (.ref C) "__init__"=some (some (.ref f))
 fn:PB Z (.ref f)=true
 kp:YF Z (.ref C)=true
theorem adR{aeK:List (L9×Obj)}{U:St}{s:M6}{Q:VK}{us:List M3}{vs:List V}(M:Mk X.K C f)(F:aB X.prog X.w X.K X.mg X.base CX k f fd ps sp)(hr:bf (k+1) X.A)(hb:l8 X.K fd ps ds)(hd:aF dvs ds)
 (hx:pQ CX X E)(I:af X aeK U H s)(r:aF vs us)
 (h:∀x dx,H x=none->H dx=none->dx≠x->sp (.ref x::(vs++dvs)) (ai (ai H dx (.own x)) x (.ins C dx [])) (λv H2=>v= .non/\Q (.ref x) H2) E):
 MD (MK X.prog X.w) X.A (NC (.ref C) us) (EP X aeK U Q) X.xe s:=by
 have hq:=h (s.heap.objs.size+1) s.heap.objs.size (I.hok.fresh (Yj _)) (I.hok.fresh (V4 _)) (WI (YN _));have I2:=af.made (C:=C) I;have r2:aF (V.ref (s.heap.objs.size+1)::(vs++dvs)) (W5 (s.heap.objs.size+1)::(us++ds)):= .cons rfl (r.append hd);have hl:(W5 (s.heap.objs.size+1)::us++ds).length=ps.length:=by
  have e:=r2.length;rw[F.len _ _ _ _ hq]at e;exact e.symm
 refine wpAny_call (MY (f:=f) I.kIn M.makes M.init (beq_iff_eq.mp M.fn) (OS (F.run _ X.stack _ _ ⟨W5 (s.heap.objs.size+1)::us,[]⟩ (W5 (s.heap.objs.size+1)::(us++ds)) _ _ E (hr.make C us [])
  (I2.env0.make C us []) (hb _ (W5 (s.heap.objs.size+1)::us) I2.kIn hl) r2 hq) λr s' hq'=>?_))
 cases r with
 |error e=>exact hx aeK U _ _ e s' I2 hq'
 |ok fl=>
  cases fl with
  |ret u=>
   obtain⟨v,H',I3,rv,ev,q3⟩:=I2.after hq';subst ev;exact⟨rv,⟨V.ref (s.heap.objs.size+1),H',I3,rfl,q3⟩⟩
  |next=>exact Yo hq'
  |brk=>exact Yo hq'
  |cont=>exact Yo hq'
theorem t6(M:Mk X.K C f)(F:aB X.prog X.w X.K X.mg X.base CX k f fd ps sp)(hr:bf (k+1) X.A)(hg:Gl X x)(hm:X.mg x=some (.ref C))(hb:l8 X.K fd ps ds)(hd:aF dvs ds)(hx:pQ CX X E)
 (ha:PA X (e::es) t)(hdb:(x==("__debug__":Str))=false:=by decide)(he:MQ (e::es) X.env=(false,eval e X.env)::MQ es X.env:=by rfl)(hpl:(Mj pos (MQ es X.env)).any (·.1)=false:=by rfl):
 PE X (.Call (.Name x p) (e::es) [] pos) (Ft C sp dvs E t):=by
 intro aeK s U H Q I h;refine Oi (wc I hg hm ?_ hdb);refine ZO (h₀:=X.base) I.ok.mod.kin M.kp (aA (ha pos aeK s U H _ I h) λus s1 ⟨vs,H1,I1,r,q⟩=>⟨I1.kIn,?_⟩) he hpl;exact adR M F hr hb hd hx I1 r q
end
structure aL (N P:List Str) (sc:ND):Prop where
 kind:sc.kind= .function
 co:sc.isCoroutine=false
 gen:sc.isGenerator=false
 nd:N.Nodup
 pre:N.take P.length=P
 par:∀x∈P,sc.names.lookup x=some .local\/sc.names.lookup x=some .cell
 nofree:∀y∈sc.names,y.2≠ .free
theorem Fx{kindOf:Str->Option NK}{x:Str}:∀{binds:List (Str×M3)}{m:Str->Option M3},(∀v,(x,v)∉ binds)->bindL kindOf binds m x=m x
 | [],_,_=>rfl
 | (n,v)::r,m,h=>by
  unfold bindL;rw[Fx λw hw=>h w (Wu _ hw)];split
  ·have:x≠n:=by rintro rfl;exact h v WR
   simp[this]
  ·rfl
theorem Fy{kindOf:Str->Option NK}{x:Str}:∀{binds:List (Str×M3)}{m:Str->Option M3},(∀v,(x,v)∉ binds)->bindC kindOf binds m x=m x
 | [],_,_=>rfl
 | (n,v)::r,m,h=>by
  unfold bindC;rw[Fy λw hw=>h w (Wu _ hw)];split
  ·rfl
  ·have:x≠n:=by rintro rfl;exact h v WR
   simp[this]
theorem Fz{kindOf:Str->Option NK}:∀{P:List Str}{vs:List M3}{i:Nat}{m:Str->Option M3},P.Nodup->P[i]?=some x->vs[i]?=some v->kindOf x=some .local->
 bindL kindOf (P.zip vs) m x=some v
 | [],_,_,_,_,h,_,_=>by simp at h
 |_::_,[],_,_,_,_,h,_=>by simp at h
 |p::P,w::vs,0,m,nd,h1,h2,hk=>by
  simp at h1 h2;subst h1;subst h2;show bindL kindOf ((p,w)::P.zip vs) m p=_;unfold bindL;rw[Fx λv hv=>(XW.mp nd).1 (Ql hv).1,M8 hk];simp
 |p::P,w::vs,i+1,m,nd,h1,h2,hk=>by
  show bindL kindOf ((p,w)::P.zip vs) m x=_;unfold bindL;exact Fz (i:=i) (XW.mp nd).2 (by simpa using h1) (by simpa using h2) hk
theorem FA{kindOf:Str->Option NK}:∀{P:List Str}{vs:List M3}{i:Nat}{m:Str->Option M3},P.Nodup->P[i]?=some x->vs[i]?=some v->kindOf x≠some .local->
 bindC kindOf (P.zip vs) m x=some v
 | [],_,_,_,_,h,_,_=>by simp at h
 |_::_,[],_,_,_,_,h,_=>by simp at h
 |p::P,w::vs,0,m,nd,h1,h2,hk=>by
  simp at h1 h2;subst h1;subst h2;show bindC kindOf ((p,w)::P.zip vs) m p=_;unfold bindC;rw[Fy λv hv=>(XW.mp nd).1 (Ql hv).1,M4 hk];simp
 |p::P,w::vs,i+1,m,nd,h1,h2,hk=>by
  show bindC kindOf ((p,w)::P.zip vs) m x=_;unfold bindC;exact FA (i:=i) (XW.mp nd).2 (by simpa using h1) (by simpa using h2) hk
def start(N:List Str)(vs:List V):St:=vs.map some++Wj (N.length - vs.length) none
def pR(CX:nk)(P:N4)(w:Mp)(Z:VZ)(mg:Str->Option M3)(base:Md)(N:List Str)(qual:Str)(scope:ND)(f:L9)(cd:M3)(A:N0)(outer:List Env)(s:M6)(H:Hp)(E:XK):Cx where
 prog:=P
 w:=w
 K:=Z
 mg:=mg
 base:=base
 A:=A.deeper (Nf qual scope s.heap.objs.size f cd)
 N:=N
 s₀:=s
 H₀:=H
 env:=Nf qual scope s.heap.objs.size f cd
 outer:=outer
 stack:=Nf qual scope s.heap.objs.size f cd::outer
 ex:=[]
 calm:=true
 fn:=λ_=>true
 pn:=[]
 xe:=λe s'=>MD (MK P w) (A.deeper (Nf qual scope s.heap.objs.size f cd)) (leaving (Nf qual scope s.heap.objs.size f cd) e) (λ_ s''=>CX outer H s E e s'') (λe' s''=>CX outer H s E e' s'') s'
theorem FC{sc:ND}(h:sc.names.lookup x=some .cell):∃c,(NJ n sc.names []).lookup x=some c:=by
 have q:=Z3 sc.names n [] (.inl h);exact ZP.mp q
theorem adx{A:N0}{vs:List V}
 (S:aL N ps scope)(hd:A.handled=none)(e0:qx P w Z mg base A outer s H)(hl:vs.length=ps.length)(r:aF vs us)
 (x:InCallC s s.heap.objs.size (bindL (Nf qual scope s.heap.objs.size f cd).kindOf (ps.zip us) λ_=>none) (NJ (s.heap.objs.size+1) scope.names []) (bindC (Nf qual scope s.heap.objs.size f cd).kindOf (ps.zip us) λ_=>none) s1):
 af (pR CX P w Z mg base N qual scope f cd A outer s H E) [] (start N vs) H s1:=by
 have hpl:ps.length<=N.length:=by have:=congrArg ZD S.pre;rw[Xr]at this;omega
 obtain⟨h1,tk,rfl,hk⟩:=x.done;have noA:∀b:L9,b∉(pR CX P w Z mg base N qual scope f cd A outer s H E).ex:=λb z=>absurd (show b∈([]:List L9) from z) MC;refine⟨⟨e0.mod,S.kind,rfl,rfl,V4 _,λy z c h1 h2=>?_,λy hy=>?_,λy c _ h=>?_,λ_=>hd,Around.frames_deeper e0.frames,.inr ⟨rfl,rfl⟩,λb z=>absurd z (noA b),e0.bs,e0.bsz,λb _ _=>noA b,λb z=>absurd z (noA b),e0.funs,e0.frf⟩,
  rfl,e0.bare,Un.kept hk,⟨_,x.toInCall.ns,λi y v h1 h2 h3=>?_⟩,λy c h=>⟨_,x.cell y c h⟩,e0.hok.fresh (V4 _),λy c h=>?_,λp hp=>absurd (show p∈([]:List (L9×Obj)) from hp) MC,e0.hok.kept hk,?_⟩
 ·exact name_of_addr x.apart (YK h1) (YK h2)
 ·have hy:scope.names.lookup y=some .cell\/scope.names.lookup y=some .free:=hy;rcases hy with hy|hy
  ·exact FC hy
  ·exact absurd rfl (S.nofree _ (YK hy))
 ·exact YT (x.above y c (YK h))
 ·have hi:i < vs.length:=by
   unfold start at h2;by_cases hi:i < vs.length
   ·exact hi
   ·rw[Yg (by simpa using hi)]at h2;rw[YH]at h2;split at h2<;>cases h2
  have ha:vs[i]?=some v:=by
   unfold start at h2;rw[XI (by simpa using hi),Wm]at h2;cases e:vs[i]? with
   |none=>rw[e]at h2;cases h2
   |some a=>rw[e]at h2;cases h2;rfl
  obtain⟨u,hu,rv⟩:=r.get ha;have hp:ps[i]?=some y:=by
   rw[<-S.pre,List.getElem?_take_of_lt L8];exact h1
  have ndP:ps.Nodup:=by rw[<-S.pre];exact S.nd.sublist (List.take_sublist _ _)
  refine⟨u,rv,?_⟩;rcases S.par y (W0 hp) with k|k
  ·exact .inl ⟨k,Fz ndP hp hu k⟩
  ·obtain⟨c,e⟩:=FC (n:=s.heap.objs.size+1) k;refine .inr ⟨.inl k,c,e,?_⟩;have q:=x.cell y c e;rw[FA ndP hp hu (by show scope.names.lookup y≠_;rw[k];decide)]at q;exact q
 ·exact e0.hok.fresh (YT (x.above y c (YK h)))
 ·unfold start;show _=N.length;rw[Wt,V0,RC];omega
theorem Nc{Z:VZ}{dV kV doc pm cdv ct oc:M3}
 {sp:Sp}(lk:Z.lookup f=some ⟨oc,od,.func (Yz name qual params body scope dV kV doc pm an cdv ct),osl⟩)(hcd:ZY Z cdv qual=true)(S:aL N ps scope)
 (len:∀vs H Q E,sp vs H Q E->vs.length=ps.length)
 (hbody:∀(A:N0) (outer:List Env) (s:M6) (H:Hp) (vs:List V) (Q:VK) (E:XK),bf k (A.deeper (Nf qual scope s.heap.objs.size f cdv))->sp vs H Q E->
   ∃t,bE (pR CX P w Z mg base N qual scope f cdv A outer s H E) body t/\t {nx:=λ_ H'=>Q .non H',rt:=Q} (start N vs) H):
 aB P w Z mg base CX (k+1) f (Yz name qual params body scope dV kV doc pm an cdv ct) ps sp:=by
 refine⟨len,λA outer s H args us vs Q E hr e0 hb r hsp=>?_⟩;have hl:=len _ _ _ _ hsp;have KX:Z.In s.heap:=e0.mod.kin.keeps λb o e=>(e0.bs b o e).1;have lim:s.heap.NoLimit:=e0.mod.nolimit.keeps λb o e=>(e0.bs b o e).1;have hkind:∀y∈ps.zip us,scope.names.lookup y.1=some .local\/(scope.names.lookup y.1=some .cell/\((NJ (s.heap.objs.size+1) scope.names []).lookup y.1).isSome=true):=λuu hy=>by
  obtain⟨n,v⟩:=uu;rcases S.par n (Ql hy).1 with q|q
  ·exact .inl q
  ·exact .inr ⟨q,Z3 _ _ _ (.inl q)⟩
 refine codeAny_call_function hr.depth (KX _ _ lk) rfl S.co S.gen rfl (PySem.W.codeRec_of KX hcd) (hb _ _ _ _ ?_);refine wpAny_newFunctionEnv_cells S.kind hkind λenv he s1 x=>?_;subst he;refine⟨lim.keeps x.toInCall.keep,codeAny_func ?_⟩;obtain⟨t,ht,hq⟩:=hbody A outer s H vs Q E (hr.deeper _) hsp;have I:af (pR CX P w Z mg base N qual scope f cdv A outer s H E) [] (start N vs) H s1:=adx S hr.hd e0 hl r x;refine NB (ht [] s1 (start N vs) H _ I hq) (λfl s' hs=>?_) λe s' hs=>hs;have fin:∀{U':St}{H':Hp}{v:V}{u:M3},af (pR CX P w Z mg base N qual scope f cdv A outer s H E) [] U' H' s'->aG v u->Q v H'->CE outer P w H s Q u s':=
  λ{U' H' v u} J rv q=>⟨v,H',J.os,J.bare,J.base,J.hok,rv,q⟩
 cases fl with
 |ret u=>
  obtain⟨v,U',H',J,rv,q⟩:=hs;exact fin J rv q
 |next=>
  obtain⟨U',H',J,q⟩:=hs;exact fin (v:=V.non) (u:=Yn) J rfl q
 |brk=>
  obtain⟨_,_,_,q⟩:=hs;exact Yo q
 |cont=>
  obtain⟨_,_,_,q⟩:=hs;exact Yo q
section
variable{X:Cx}{x:Str}{p pos:Pos}{e:Mb}{es:List Mb}{t:TA}{id T:String}{r:List V->Hp->VK->Prop}
def wI(r:List V->Hp->VK->Prop)(t:TA):TE:=λU H Q=>t U H λvs H1=>r vs H1 Q
theorem dA(hc:l6 X (.builtin id) r)(hg:Gl X x)(hm:X.mg x=none)(hv:N6 x=some (.builtin id))(ha:PA X (e::es) t)(hn:x≠"__name__":=by decide)(hdb:(x==("__debug__":Str))=false:=by decide)
 (he:MQ (e::es) X.env=(false,eval e X.env)::MQ es X.env:=by rfl)(hpl:(Mj pos (MQ es X.env)).any (·.1)=false:=by rfl):PE X (.Call (.Name x p) (e::es) [] pos) (wI r t):=by
 intro aeK s U H Q I h;refine Oi (sJ I hg hm hv ?_ hn hdb);exact PyProof.Rows.callWith_builtin1 (aA (ha pos aeK s U H _ I h) λus s1 uu=>by obtain⟨vs,H1,I1,r1,q1⟩:=uu;exact hc aeK s1 U H1 vs us Q I1 r1 q1) he hpl
theorem lY(hc:l6 X (.type T) r)(hg:Gl X x)(hm:X.mg x=none)(hv:N6 x=some (.type T))(ha:PA X (e::es) t)(hn:x≠"__name__":=by decide)(hdb:(x==("__debug__":Str))=false:=by decide)
 (he:MQ (e::es) X.env=(false,eval e X.env)::MQ es X.env:=by rfl)(hpl:(Mj pos (MQ es X.env)).any (·.1)=false:=by rfl):PE X (.Call (.Name x p) (e::es) [] pos) (wI r t):=by
 intro aeK s U H Q I h;refine Oi (sJ I hg hm hv ?_ hn hdb);exact Zx (aA (ha pos aeK s U H _ I h) λus s1 uu=>by obtain⟨vs,H1,I1,r1,q1⟩:=uu;exact hc aeK s1 U H1 vs us Q I1 r1 q1) he hpl
end
end L2
namespace HT
open PySem PyProof.Rows
def lexLt:List Int->List Int->Bool
 | [],[]=>false
 | [],_::_=>true
 |_::_,[]=>false
 |x::xs,y::ys=>if x=y then lexLt xs ys else decide (x < y)
theorem eqAt_int(A:N0)(s:M6)(a:Int)(t:Tok)(c:Int)(u:Tok):∃e,SeqAt.EqAt A s (.int a t) (.int c u) e/\(e=true↔a=c):=
 ⟨(a==c),SeqAt.EqAt.int_int a t c u,MC⟩
theorem rcLt_int(A:N0)(s:M6)(a:Int)(t:Tok)(c:Int)(u:Tok)(prog:N4)(w:Mp)(E:M3->M6->Prop)(Q:M3->M6->Prop)(h:Q (.bool (decide (a < c))) s):
 MD (MK prog w) A (richCompare .Lt (.int a t) (.int c u)) Q E s:=
 (PyProof.Rows.lt_int h:MD (MK prog w) A (Mz .Lt (.int a t) (.int c u)) Q E s)
section
open PySem.SeqAt
open PySem.AutoSeq1 (wpAny_loadPart')
open PySem.MeetsSeq PySem.MeetsSeq2 PySem.MeetsSeq3
end
def sIx(n d:Nat):Option Int->Nat
 |none=>d
 |some v=>if v < 0 then(v+(n:Int)).toNat else min v.toNat n
theorem t7(n d:Nat):sIx n d none=d:=rfl
theorem sIx_nat(n d k:Nat):sIx n d (some (k:Int))=min k n:=by
 show(if (k:Int) < 0 then((k:Int)+(n:Int)).toNat else min (k:Int).toNat n)=min k n;rw[M4 L8,YW]
theorem sIx_le(n d:Nat)(hd:d<=n)(o:Option Int):sIx n d o<=n:=by
 cases o with
 |none=>exact hd
 |some v=>
  show(if v < 0 then(v+(n:Int)).toNat else min v.toNat n)<=n;by_cases hv:v < 0
  ·rw[M8 hv];omega
  ·rw[M4 hv];exact Sz _ _
theorem FD(v:Int)(n d:Nat):(if v < 0 then max (v+(n:Int)) 0 else min v (n:Int))=((sIx n d (some v):Nat):Int):=by
 show(if v < 0 then max (v+(n:Int)) 0 else min v (n:Int))=(((if v < 0 then(v+(n:Int)).toNat else min v.toNat n):Nat):Int);by_cases hv:v < 0
 ·simp only[M8 hv];omega
 ·simp only[M4 hv];omega
theorem adH(lo hi:Option Int)(n:Nat):Yx lo hi 1 (n:Int)=(((sIx n 0 lo:Nat):Int),((sIx n n hi:Nat):Int)):=by
 have h1:¬((1:Int) < 0):=L8
 unfold Yx;simp only[h1,if_false];refine Prod.ext ?_ ?_
 ·cases lo with
  |none=>rfl
  |some v=>exact FD v n 0
 ·cases hi with
  |none=>rfl
  |some v=>exact FD v n n
theorem ad6(i j:Nat):Yk (i:Int) (j:Int) 1=j - i:=by
 unfold Yk;have h1:(1:Int) > 0:=L8
 simp only[h1,if_true,Ul];split<;>omega
theorem FG{Q:Option Int->M6->Prop}(p:IsPart v o)(h:Q o s):MD (MK prog w) A (Builtin.Slice.slicePartIndex v) Q E s:=by
 cases p with
 |none=>exact QL h
 |int i t=>exact slicePart_int h
theorem sliceApplied_gen{sl:L9}{vl vu:M3}{lo hi:Option Int}{n:Nat}{Q:Int×Int×Nat->M6->Prop}(hs:s.heap.IsSliceOf sl vl vu .none)(pl:IsPart vl lo)(pu:IsPart vu hi)
 (h:Q (((sIx n 0 lo:Nat):Int),1,sIx n n hi - sIx n 0 lo) s):MD (MK prog w) A (Y8 (.ref sl) (pure (n:Int))) Q E s:=by
 obtain⟨os,hos,hcs,hds⟩:=id hs;unfold Y8 SD;refine M5 (M5 (Oh hos hds (x:=vl) rfl (M5 (Oh hos hds (x:=vu) rfl (M5 (Oh hos hds (x:= .none) rfl (MO ?_)))))));refine M5 (QL ?_);show MD _ _ (if ((1:Int)==0)=true then _ else _) _ _ s;rw[M4 MA];refine M5 (FG pl (M5 (FG pu (M5 (MO ?_)))));show MD _ _ (match Yx lo hi 1 (n:Int) with | (lo,hi)=>pure (lo,(1:Int),Yk lo hi 1)) _ _ s;rw[adH lo hi n];show MD _ _ (pure (((sIx n 0 lo:Nat):Int),(1:Int),Yk ((sIx n 0 lo:Nat):Int) ((sIx n n hi:Nat):Int) 1)) _ _ s;rw[ad6];exact MO h
theorem adW(xs:Array M3)(i k:Nat):((XB k).filterMap λ(m:Nat)=>xs[((i:Int)+(m:Int)*1).toNat]?).toArray=((xs.toList.drop i).take k).toArray:=by
 have e:(λ(m:Nat)=>xs[((i:Int)+(m:Int)*1).toNat]?)=λm=>xs[i+m]?:=by
  funext m;have:((i:Int)+(m:Int)*1).toNat=i+m:=L8
  rw[this]
 rw[e];have:=pick_run xs i k;rw[Y4]at this;have e2:((λx=>xs[x]?)∘ λx=>i+x)=λm=>xs[i+m]?:=rfl;rw[e2]at this;rw[this]
theorem getItem_tuple_cut{t sl:L9}{items:Array M3}{vl vu:M3}{lo hi:Option Int}{Q:M3->M6->Prop}(ht:IsTup s.heap t items)(hs:s.heap.IsSliceOf sl vl vu .none)(pl:IsPart vl lo)(pu:IsPart vu hi)
 (hw:¬(sIx items.size 0 lo=0/\sIx items.size items.size hi=items.size))
 (h:Q (.ref s.heap.objs.size) {s with heap:=s.heap.push {cls:= .type "tuple",data:= .seq ((items.toList.drop (sIx items.size 0 lo)).take (sIx items.size items.size hi - sIx items.size 0 lo)).toArray}})
 (hsz:items.size<=MT):MD (MK prog w) A (Na (.ref t) (.ref sl)) Q E s:=by
 have htake:sizeOk (.seq ((items.toList.drop (sIx items.size 0 lo)).take (sIx items.size items.size hi - sIx items.size 0 lo)).toArray):=by
  show((items.toList.drop (sIx items.size 0 lo)).take (sIx items.size items.size hi - sIx items.size 0 lo)).toArray.size<=MT;rw[Wh,Xr,YO,WA];omega
 have hj:sIx items.size items.size hi<=items.size:=sIx_le _ _ (V4 _) hi;obtain⟨os,hos,hcs,hds⟩:=id hs;have hTs:s.TypeIs (.ref sl) "slice":=⟨os,hos,hcs⟩;unfold Na
 try with_reducible refine N9 ?_
 first|refine M5 (MO ?_)|skip
 refine M5 (R6 ht.typeIs MA ?_);refine M5 (Of (name:=VY "__getitem__") ht.typeIs Yf
  (Nk Yf ht.typeIs entry_tuple_getitem ?_ (args_tuple_getitem _ _)))
 show MD _ _ (ZA (.ref t) >>=_) _ _ s;refine M5 (tupleItemsOf_ ht ?_);refine M5 (OG hTs ?_);rw[M8 MA];refine M5 (sliceApplied_gen hs pl pu ?_);have hno:¬((((sIx items.size 0 lo:Nat):Int)==0 && (1:Int)==1 && (sIx items.size items.size hi - sIx items.size 0 lo)==items.size)=true):=by
  intro q;rw[Xs,Xs]at q;have q1:((sIx items.size 0 lo:Nat):Int)=0:=eq_of_beq q.1.1;have q2:sIx items.size items.size hi - sIx items.size 0 lo=items.size:=eq_of_beq q.2;exact hw ⟨L8,L8⟩
 show MD _ _ (if (((sIx items.size 0 lo:Nat):Int)==0 && (1:Int)==1 && (sIx items.size items.size hi - sIx items.size 0 lo)==items.size)=true then _ else _) _ _ s;rw[M4 hno,adW]
 first
  |exact M5 (m:=Yb _) (NM (MO ⟨_,rfl,MO h⟩) htake)
  |exact M5 (m:=Yb _) (NM (M5 (MO (MO ⟨_,rfl,MO h⟩))) htake)
  |exact M5 (M5 (m:=Yb _) (NM (MO (MO ⟨_,rfl,MO h⟩)) htake))
  |exact M5 (M5 (m:=Yb _) (NM (MO ⟨_,rfl,MO h⟩) htake))
end HT
namespace L2
open PySem PySem.Spec PyProof.Rows
abbrev TO:=St->Hp->(Option Int->Hp->Prop)->Prop
def PO(X:Cx)(e:Option Mb)(t:TO):Prop:=
 ∀(aeK:List (L9×Obj))(s:M6)(U:St)(H:Hp)(Q:Option Int->Hp->Prop),af X aeK U H s->t U H Q->
  MD (MK X.prog X.w) X.A (evalPart e X.env) (λu s'=>∃o H',af X aeK U H' s'/\IsPart u o/\Q o H') X.xe s
def Nh:TO:=λ_ H Q=>Q none H
def Ni(t:TE):TO:=λU H Q=>t U H λx H1=>∃i,x= .int i/\Q (some i) H1
theorem Nj{ns:List Int}:∀{us:List M3},aF (ns.map V.int) us->N2 us ns:=by
 induction ns with
 |nil=>intro us r;rw[WD]at r;cases r;exact .nil
 |cons n ns ih=>
  intro us r;rw[V2]at r;cases r with
  |cons r1 r2=>
   obtain⟨t,e⟩:=r1;subst e;exact .cons n t (ih r2)
section
variable{X:Cx}{e:Mb}{te:TE}{lo hi:Option Mb}{tl th:TO}{pos p2:Pos}
theorem adt:PO X none Nh:=by
 intro aeK s U H Q I h;rw[evalPart_none];exact MO ⟨none,H,I,.none,h⟩
theorem adS(h:PE X e te):PO X (some e) (Ni te):=by
 intro aeK s U H Q I hw;rw[evalPart_some];refine aA (h aeK s U H _ I hw) λu s1 ⟨x,H1,I1,r1,q1⟩=>?_;obtain⟨i,rfl,q⟩:=q1;obtain⟨t,rfl⟩:=r1;exact⟨some i,H1,I1,.int i t,q⟩
def vq(X:Cx)(r:V->Option Int->Option Int->Hp->VK->Prop):Prop:=
 ∀(aeK:List (L9×Obj))(s:M6)(U:St)(H:Hp)(x:V)(v vl vu:M3)(lo hi:Option Int)(sl:L9)(Q:VK),af X aeK U H s->aG x v->s.heap.IsSliceOf sl vl vu .none->IsPart vl lo->IsPart vu hi->r x lo hi H Q->
  ∃T id,typeLookup (.type T) "__getitem__"=pure (some (.builtin id))/\s.TypeIs v T/\MD (MK X.prog X.w) X.A (Na v (.ref sl)) (EP X aeK U Q) X.xe s
def Nm(r:V->Option Int->Option Int->Hp->VK->Prop)(te:TE)(tl th:TO):TE:=λU H Q=>te U H λx H1=>tl U H1 λl H2=>th U H2 λu H3=>r x l u H3 Q
theorem Bl{r:V->Option Int->Option Int->Hp->VK->Prop}(hr:vq X r)(he:PE X e te)(hl:PO X lo tl)(hu:PO X hi th):PE X (.Subscript e (.Slice lo hi none p2) pos) (Nm r te tl th):=by
 intro aeK s U H Q I h;refine Subscript_ (aA (he aeK s U H _ I h) λv s1 ⟨x,H1,I1,r1,q1⟩=>?_);refine wpAny_Slice (aA (hl aeK s1 U H1 _ I1 q1) λvl s2 ⟨l,H2,I2,pl,q2⟩=>aA (hu aeK s2 U H2 _ I2 q2) λvu s3 ⟨u,H3,I3,pu,q3⟩=>?_);rw[evalPart_none];refine MO ?_;have I4:af X aeK U H3 {s3 with heap:=s3.heap.push {cls:= .type "slice",data:= .fields #[vl,vu,.none]}}:=I3.kept (t':=s3.toks) λb ob q=>V3 _ q;obtain⟨T,id,hT,ht,hg⟩:=hr aeK {s3 with heap:=s3.heap.push {cls:= .type "slice",data:= .fields #[vl,vu,.none]}} U H3 x v vl vu l u s3.heap.objs.size Q I4 r1 (SI ..) pl pu q3;show MD (MK X.prog X.w) X.A (QO e (.Slice lo hi none p2) v (.ref s3.heap.objs.size)) (EP X aeK U Q) X.xe {s3 with heap:=s3.heap.push {cls:= .type "slice",data:= .fields #[vl,vu,.none]}};exact tail_any (ops:=[.ref s3.heap.objs.size,v]) ht hT hg (by with_unfolding_all rfl)
def rA(xs:List V)(lo hi:Option Int):List V:=(xs.drop (HT.sIx xs.length 0 lo)).take (HT.sIx xs.length xs.length hi - HT.sIx xs.length 0 lo)
theorem FH(xs:List V)(lo hi:Option Int):(rA xs lo hi).length<=xs.length:=by
 unfold rA;rw[Xr,YO];omega
def Nn(Z:VZ):V->Option Int->Option Int->Hp->VK->Prop:=λx lo hi H Q=>∃a xs,x= .ref a/\bo Z H a xs/\
 ¬(HT.sIx xs.length 0 lo=0/\HT.sIx xs.length xs.length hi=xs.length)/\∀p,H p=none->Q (.ref p) (ai H p (.tup (rA xs lo hi)))
theorem adG:vq X (Nn X.K):=by
 intro aeK s U H x v vl vu lo hi sl Q I rx hs pl pu h;obtain⟨a,xs,rfl,hx,hw,q⟩:=h;cases rx;obtain⟨its,r,ht,hz⟩:=I.tuple hx;have hlen:its.toArray.size=xs.length:=by rw[Wh];exact r.length.symm
 refine⟨"tuple",_,Yf.lookup,ht.typeIs,?_⟩;refine HT.getItem_tuple_cut ht hs pl pu (by rw[hlen];exact hw) ?_ (by rw[hlen];exact hz);rw[hlen];refine⟨.ref s.heap.objs.size,_,I.laid (t':=s.toks) (o:= .tup (rA xs lo hi)) (λb ob q=>V3 _ q) (V4 _) ?_,rfl,q _ (I.hok.fresh (V4 _))⟩;exact⟨Wy (FH xs lo hi) hz,_,(r.drop (HT.sIx xs.length 0 lo)).take (HT.sIx xs.length xs.length hi - HT.sIx xs.length 0 lo),QV _ _⟩
end
def pT(n:Nat)(i:Int):Option Nat:=if 0<=i then(if i < n then some i.toNat else none) else if -(n:Int)<=i then some (i+n).toNat else none
def atI{α:Type}(xs:List α)(i:Int):Option α:=(pT xs.length i).bind λj=>xs[j]?
theorem FI(h:pT n i=some j):seqIndex? i n=some j/\j < n/\-(n:Int)<=i/\i < n:=by
 unfold pT at h;by_cases h0:0<=i
 ·rw[M8 h0]at h;by_cases h1:i < n
  ·rw[M8 h1]at h;have e:i.toNat=j:=Xt h;exact⟨by rw[seqIndex_of h0 h1,e],L8,L8,h1⟩
  ·rw[M4 h1]at h;cases h
 ·rw[M4 h0]at h;by_cases h1:-(n:Int)<=i
  ·rw[M8 h1]at h;have e:(i+n).toNat=j:=Xt h;exact⟨by rw[seqIndex_neg L8 h1,e],L8,h1,L8⟩
  ·rw[M4 h1]at h;cases h
theorem Bm{α:Type}{xs:List α}{i:Int}{v:α}(h:atI xs i=some v):∃j,seqIndex? i xs.length=some j/\xs[j]?=some v/\j < xs.length/\-(xs.length:Int)<=i/\i < xs.length:=by
 unfold atI at h;cases e:pT xs.length i with
 |none=>rw[e]at h;cases h
 |some j=>
  rw[e]at h;obtain⟨h1,h2,h3,h4⟩:=FI e;exact⟨j,h1,h,h2,h3,h4⟩
theorem rS{α:Type}{xs:List α}{j:Nat}{v:α}(h:xs[j]?=some v):atI xs (j:Int)=some v:=by
 have hj:j < xs.length:=(Wf.mp h).1;have e:pT xs.length (j:Int)=some j:=by
  unfold pT;rw[M8 L8,M8 L8];simp
 unfold atI;rw[e];exact h
theorem Bn{α:Type}(xs:List α)(v:α):atI (xs++[v]) (-1)=some v:=by
 have hl:(xs++[v]).length=xs.length+1:=MC
 have e:pT (xs++[v]).length (-1)=some xs.length:=by
  unfold pT;rw[hl,M4 MA,M8 L8];congr 1;omega
 unfold atI;rw[e];show(xs++[v])[xs.length]?=some v;simp
def Nq(b:Mb):Prop:=∀o i,Og b false o i=operate [o,i] (Na o i)
def t8(X:Cx)(r:R2):Prop:=
 ∀(value slice:Mb)(aeK:List (L9×Obj))(s:M6)(U:St)(H:Hp)(x y:V)(v u:M3)(Q:VK),af X aeK U H s->aG x v->aG y u->r x y H Q->
  Og slice false v u=operate [v,u] (Na v u)->MD (MK X.prog X.w) X.A (QO value slice v u) (EP X aeK U Q) X.xe s
def Nr(X:Cx)(id:String)(r:V->List V->Hp->VK->Prop):Prop:=
 ∀(aeK:List (L9×Obj))(s:M6)(U:St)(H:Hp)(x:V)(xs:List V)(v:M3)(us:List M3)(Q:VK),af X aeK U H s->aG x v->aF xs us->r x xs H Q->
  MD (MK X.prog X.w) X.A (NC (.builtin id) (v::us)) (EP X aeK U Q) X.xe s
section
variable{X:Cx}{a b:Mb}{ta tb:TE}{pos:Pos}
theorem pU(hr:t8 X r)(ha:PE X a ta)(hb:PE X b tb)(hs:Nq b):PE X (.Subscript a b pos) (t5 r ta tb):=by
 intro aeK s U H Q I h;exact Subscript_ (Bd ha hb I h λv u s2 x y H2 I2 rx ry q=>hr a b aeK s2 U H2 x y v u Q I2 rx ry q (hs _ _))
def Bo(Z:VZ):R2:=λx y H Q=>∃p xs i v,x= .ref p/\y= .int i/\bb Z H p xs/\atI xs i=some v/\Q v H
def wJ(Z:VZ):R2:=λx y H Q=>∃p xs i v,x= .ref p/\y= .int i/\bo Z H p xs/\atI xs i=some v/\Q v H
def FJ:R2:=λx y H Q=>∃z i c,x= .str z/\y= .int i/\z.length<=MT/\atI z.cps.toList i=some c/\Q (.str ⟨#[c]⟩) H
theorem dB:t8 X (Bo X.K):=by
 intro value slice aeK s U H x y v u Q I rx ry h hs;obtain⟨p,xs,i,z,rfl,rfl,hq,he,q⟩:=h;cases rx;obtain⟨t,rfl⟩:=ry;obtain⟨its,r,pl,hz⟩:=I.list hq;obtain⟨j,h1,h2,h3,h4,h5⟩:=Bm he;obtain⟨w,ew,rw'⟩:=r.get h2;have hl:=r.length;have hn:=sQ;have fin:EP X aeK U Q w s:=⟨z,H,I,rw',q⟩;by_cases h0:0<=i
 ·have hj:i.toNat=j:=by
   rw[seqIndex_of h0 h5]at h1;exact Xt h1
  exact item_listR pl.isList h0 L8 (by rw[hj];simpa using ew) fin hs
 ·have hj:(i+(its.toArray.size:Int)).toNat=j:=by
   rw[seqIndex_neg L8 h4]at h1;rw[Wh,<-hl];exact Xt h1
  exact subscriptTail_builtinR (x:=w) pl.isList.typeIs slot_list_getitem.lookup
   (wpAny_getItem_list_neg (Q:=λr s'=>r=w/\EP X aeK U Q r s') pl.isList L8 (by rw[Wh]<;>omega) L8 (by rw[hj];simpa using ew) ⟨rfl,fin⟩) hs
theorem aE:t8 X (wJ X.K):=by
 intro value slice aeK s U H x y v u Q I rx ry h hs;obtain⟨p,xs,i,z,rfl,rfl,hq,he,q⟩:=h;cases rx;obtain⟨t,rfl⟩:=ry;obtain⟨its,r,pl,hz⟩:=I.tuple hq;obtain⟨j,h1,h2,h3,h4,h5⟩:=Bm he;obtain⟨w,ew,rw'⟩:=r.get h2;have hl:=r.length;have hn:=sQ;have fin:EP X aeK U Q w s:=⟨z,H,I,rw',q⟩;exact subscriptTail_builtinR (x:=w) pl.typeIs slot_tuple_getitem.lookup
  (getItem_tuple (j:=j) (Q:=λr s'=>r=w/\EP X aeK U Q r s') pl L8 L8 (by rw[Wh,<-hl];exact h1) (by simpa using ew) ⟨rfl,fin⟩) hs
theorem Nt:t8 X FJ:=by
 intro value slice aeK s U H x y v u Q I rx ry h hs;obtain⟨z,i,c,rfl,rfl,hz,he,q⟩:=h;obtain⟨t,rfl⟩:=rx;obtain⟨t',rfl⟩:=ry;obtain⟨j,h1,h2,h3,h4,h5⟩:=Bm he;have hl:z.cps.toList.length=z.length:=by simp[Str.length]
 rw[hl]at h1 h4 h5;have hn:=sQ;exact tail_any (Oa s z t) slot_str_getitem.lookup (getItem_str (c:=c) (by
  have e1:decide (i < -(2 ^ 63:Int))=false:=decide_eq_false L8;have e2:decide (i >= 2 ^ 63)=false:=decide_eq_false L8;rw[e1,e2,Xj]) (by rw[h1];simpa using h2) ⟨.str ⟨#[c]⟩,H,I.tok _,⟨_,rfl⟩,q⟩) hs
theorem adq(its:List M3)(n j:Nat)(u:M3):XY (·.setIfInBounds j u) {cls:= .type "list",data:= .seq its.toArray n}={cls:= .type "list",data:= .seq (its.set j u).toArray n}:=by
 simp[XY]
theorem af.lst{aeK:List (L9×Obj)}{U:St}{H:Hp}{s:M6}{p:L9}{xs:List V}(I:af X aeK U H s)(h:H p=some (.lst xs)):
 ∃(its:List M3)(n:Nat),aF xs its/\s.heap.get? p=some {cls:= .type "list",data:= .seq its.toArray n}/\xs.length<=MT:=by
 obtain⟨z,its,n,r,e⟩:=I.hok p _ h;exact⟨its,n,r,e,z⟩
theorem af.lstUpd{aeK:List (L9×Obj)}{U:St}{s:M6}{p:L9}{xs ys:List V}{its its':List M3}{n n':Nat}{f:Obj->Obj}(I:af X aeK U H s)(h:H p=some (.lst xs))
 (ho:s.heap.get? p=some {cls:= .type "list",data:= .seq its.toArray n})(hf:f {cls:= .type "list",data:= .seq its.toArray n}={cls:= .type "list",data:= .seq its'.toArray n'})(r:aF ys its')(hz:ys.length<=MT)(t:Nat):
 af X aeK U (ai H p (.lst ys)) {s with heap:=s.heap.update p f,toks:=t}:=by
 have e:(s.heap.update p f).get? p=some {cls:= .type "list",data:= .seq its'.toArray n'}:=by
  rw[X7 f ho (by rw[hf]<;>rfl),hf]
 refine I.write (x:=p) (e:=p) (by rw[h];trivial) (.inl rfl) (λb u hb q=>(XZ _ _ (Ne.symm hb)).trans q) ⟨_,e⟩ ?_;exact⟨hz,its',n',r,e⟩
def Nv:V->V->V->Hp->(Hp->Prop)->Prop:=λo i v H Q=>∃p xs k j,o= .ref p/\i= .int k/\H p=some (.lst xs)/\pT xs.length k=some j/\Q (ai H p (.lst (xs.set j v)))
theorem adD:EX X Nv:=by
 intro aeK s U H o i v ov iv u Q I ro ri rv h;obtain⟨p,xs,k,j,rfl,rfl,hp,hj,q⟩:=h;cases ro;obtain⟨t,rfl⟩:=ri;obtain⟨its,n,r,ho,hz⟩:=I.lst hp;obtain⟨h1,h2,h3,h4⟩:=FI hj;have hl:=r.length;have hn:=sQ;have I':af X aeK U (ai H p (.lst (xs.set j v))) {s with heap:=s.heap.update p (XY (·.setIfInBounds j u))}:=
  I.lstUpd hp ho (adq its n j u) (r.set rv j) (by rw[List.length_set];exact hz) s.toks
 by_cases h0:0<=k
 ·have hk:k.toNat=j:=by
   rw[seqIndex_of h0 h4]at h1;exact Xt h1
  exact PySem.W.ki_setAt ho h0 L8 (by rw[Wh,<-hl];exact h4) (by rw[hk];exact⟨_,I',q⟩)
 ·have hk:(k+(its.toArray.size:Int)).toNat=j:=by
   rw[seqIndex_neg L8 h3]at h1;rw[Wh,<-hl];exact Xt h1
  exact PySem.W.ki_setBack ho L8 (by rw[Wh,<-hl];exact h3) L8 (by rw[hk];exact⟨_,I',q⟩)
theorem ady(lo hi:Option Int)(n:Nat):(Oe lo hi none n).1=((HT.sIx n 0 lo:Nat):Int)/\(Oe lo hi none n).2.1=((HT.sIx n n hi:Nat):Int)/\(Oe lo hi none n).2.2=1:=by
 refine⟨?_,?_,rfl⟩
 ·cases lo with
  |none=>simp[Oe,HT.sIx]
  |some i=>
   simp only[Oe,HT.sIx,Qm,show(1:Int) > 0 by decide,if_true];by_cases h:i < 0
   ·simp only[h,if_true]<;>omega
   ·simp only[h,if_false]<;>omega
 ·cases hi with
  |none=>simp[Oe,HT.sIx]
  |some i=>
   simp only[Oe,HT.sIx,Qm,show(1:Int) > 0 by decide,if_true];by_cases h:i < 0
   ·simp only[h,if_true]<;>omega
   ·simp only[h,if_false]<;>omega
theorem adC(its:List M3)(lo hi:Option Int):slicePick its.toArray lo hi none=((its.drop (HT.sIx its.length 0 lo)).take (HT.sIx its.length its.length hi - HT.sIx its.length 0 lo)).toArray:=by
 obtain⟨h1,h2,h3⟩:=ady lo hi its.toArray.size;unfold slicePick;rw[h1,h2,h3];simp only[sliceRange_one,pick_run,Wh]<;>rfl
def ad9(Z:VZ):V->Option Int->Option Int->Hp->VK->Prop:=λx lo hi H Q=>∃a xs,x= .ref a/\bb Z H a xs/\∀p,H p=none->Q (.ref p) (ai H p (.lst (rA xs lo hi)))
theorem NA:vq X (ad9 X.K):=by
 intro aeK s U H x v vl vu lo hi sl Q I rx hs pl pu h;obtain⟨a,xs,rfl,hx,q⟩:=h;cases rx;obtain⟨its,r,ht,hz⟩:=I.list hx;have hlen:=r.length;refine⟨"list",_,slot_list_getitem.lookup,ht.isList.typeIs,?_⟩;refine wpAny_getItem_list_slice ht.isList hs pl pu .none MC ?_ (by rw[Wh]<;>omega);rw[adC,<-hlen];refine⟨.ref s.heap.objs.size,_,I.laid (t':=s.toks) (o:= .lst (rA xs lo hi)) (λb ob q=>V3 _ q) (V4 _) ?_,rfl,q _ (I.hok.fresh (V4 _))⟩;exact⟨Wy (FH xs lo hi) hz,_,0,(r.drop (HT.sIx xs.length 0 lo)).take (HT.sIx xs.length xs.length hi - HT.sIx xs.length 0 lo),Wv _ rfl⟩
theorem qy:l6 X (.builtin "len") (λxs H Q=>∃p ys,xs=[.ref p]/\(bb X.K H p ys\/bo X.K H p ys)/\Q (.int ys.length) H):=by
 intro aeK s U H xs us Q I r h;obtain⟨p,ys,rfl,hq,q⟩:=h;obtain⟨u,rfl,rx⟩:=mH r;cases rx;have hn:=sQ;rcases hq with hq|hq
 ·obtain⟨its,r',pl,hz⟩:=I.list hq;have hlen:=r'.length;exact VX pl.isList (by simp only[Wh]<;>omega) ⟨.int ys.length,H,I.tok _,⟨s.toks+1,by rw[Wh,hlen]⟩,q⟩
 ·obtain⟨its,r',pl,hz⟩:=I.tuple hq;have hlen:=r'.length;exact len_tuple pl (by simp only[Wh]<;>omega) ⟨.int ys.length,H,I.tok _,⟨s.toks+1,by rw[Wh,hlen]⟩,q⟩
theorem ads:l6 X (.type "list") (λxs H Q=>∃p ys,xs=[.ref p]/\(bb X.K H p ys\/bo X.K H p ys)/\∀l,H l=none->Q (.ref l) (ai H l (.lst ys))):=by
 intro aeK s U H xs us Q I r h;obtain⟨p,ys,rfl,hq,q⟩:=h;obtain⟨u,rfl,rx⟩:=mH r;cases rx;have fin:∀(its:List M3),aF ys its->ys.length<=MT->∀(h':Md)(c':Nat),(∀b o',s.heap.get? b=some o'->h'.get? b=some o')->
  h'.get? s.heap.objs.size=some {cls:= .type "list",dict:=none,data:= .seq its.toArray c',slots:=#[]}->EP X aeK U Q (.ref s.heap.objs.size) {s with heap:=h'}:=λits r' hz h' c' kp e=>
  ⟨.ref s.heap.objs.size,_,I.laid (t':=s.toks) kp (V4 _) (show cA X.prog X.w _ h' _ (.lst ys) from⟨hz,its,c',r',e⟩),rfl,q _ (I.hok.fresh (V4 _))⟩
 rcases hq with hq|hq
 ·obtain⟨its,r',pl,hz⟩:=I.list hq;have hlen:=r'.length;obtain⟨o,ho,hc,n,hd⟩:=pl.isList;exact call_list_seq p (.inl rfl) ho hc hd (λh' c' kp e=>fin its r' hz h' c' kp e) (by simp only[Wh]<;>omega)
 ·obtain⟨its,r',pl,hz⟩:=I.tuple hq;have hlen:=r'.length;obtain⟨o,ho,hc,n,hd⟩:=pl;exact call_list_seq p (.inr rfl) ho hc hd (λh' c' kp e=>fin its r' hz h' c' kp e) (by simp only[Wh]<;>omega)
theorem nX:l6 X (.type "tuple") (λxs H Q=>∃p ys,xs=[.ref p]/\((bb X.K H p ys/\∀l,H l=none->Q (.ref l) (ai H l (.tup ys)))\/(bo X.K H p ys/\Q (.ref p) H))):=by
 intro aeK s U H xs us Q I r h;obtain⟨p,ys,rfl,h⟩:=h;obtain⟨u,rfl,rx⟩:=mH r;cases rx;rcases h with⟨hq,q⟩|⟨hq,q⟩
 ·obtain⟨its,r',pl,hz⟩:=I.list hq;have hlen:=r'.length;refine call_tuple_list pl.isList (λh' kp=>?_) (by simp only[Wh]<;>omega);have I1:af X aeK U H {s with heap:=h'}:=I.kept (t':=s.toks) kp;have I2:af X aeK U (ai H h'.objs.size (.tup ys)) {s with heap:=h'.push {cls:= .type "tuple",data:= .seq its.toArray}}:=
   I1.laid (t':=s.toks) (λb o e=>V3 _ e) (V4 _) (show cA X.prog X.w _ _ _ (.tup ys) from⟨hz,its,r',QV _ _⟩)
  exact⟨.ref h'.objs.size,_,I2,rfl,q _ (I1.hok.fresh (V4 _))⟩
 ·obtain⟨its,r',pl,hz⟩:=I.tuple hq;exact call_tuple_same pl ⟨.ref p,H,I,rfl,q⟩
def FK(Z:VZ)(T:String)(x:V)(H:Hp):Prop:=match x with
 | .str _=>T="str"
 | .int _=>T="int"
 | .ref p=>(T="list"/\∃xs,bb Z H p xs)\/(T="tuple"/\∃o,Z.lookup p=some o/\o.cls= .type "tuple"/\o.dict=none)\/
  (T="dict"/\((∃kvs,H p=some (.dK kvs))\/∃kvs,H p=some (.dT kvs)))\/(T="set"/\∃S n,H p=some (.set S n))
 |_=>False
theorem ad3{aeK:List (L9×Obj)}{U:St}{s:M6}{T:String}{v:M3}(I:af X aeK U H s)(r:aG x v)(ty:FK X.K T x H):
 s.TypeIs v T/\∀a,v= .ref a->∃ob,s.heap.get? a=some ob/\ob.dict=none:=by
 cases x with
 |str z=>
  obtain⟨t,rfl⟩:=r;cases (show T="str" from ty);exact⟨Oa s z t,λ_ e=>nomatch e⟩
 |int i=>
  obtain⟨t,rfl⟩:=r;cases (show T="int" from ty);exact⟨typeIs_int s i t,λ_ e=>nomatch e⟩
 |ref p=>
  cases r;rcases ty with⟨rfl,xs,hq⟩|⟨rfl,o,hk,hc,hd⟩|⟨rfl,hk⟩|⟨rfl,S,n,hk⟩
  ·obtain⟨its,_,pl,_⟩:=I.list hq;refine⟨pl.isList.typeIs,λa e=>?_⟩;cases e;obtain⟨o,n,e,c,hd,_⟩:=pl;exact⟨o,e,hd⟩
  ·refine⟨⟨o,I.kIn p o hk,hc⟩,λa e=>?_⟩;cases e;exact⟨o,I.kIn _ o hk,hd⟩
  ·have z:∃o,s.heap.get? p=some o/\o.ExactDict:=by
    rcases hk with⟨kvs,hk⟩|⟨kvs,hk⟩
    ·obtain⟨_,_,_,_,o,_,_,e,ex,_⟩:=I.hok p _ hk;exact⟨o,e,ex⟩
    ·obtain⟨_,_,_,_,o,_,_,e,ex,_⟩:=I.hok p _ hk;exact⟨o,e,ex⟩
   obtain⟨o,e,ex⟩:=z;refine⟨⟨o,e,ex.1⟩,λa e2=>?_⟩;cases e2;exact⟨o,e,ex.2.1⟩
  ·obtain⟨o,_,_,_,e,ex,_⟩:=I.hok p _ hk;refine⟨⟨o,e,ex.1⟩,λa e2=>?_⟩;cases e2;exact⟨o,e,ex.2.1⟩
 |_=>exact Yo ty
def adB(Z:VZ)(T:String)(r:V->List V->Hp->VK->Prop)(to:TE)(t:TA):TE:=λU H Q=>to U H λx H1=>FK Z T x H1/\t U H1 λxs H2=>r x xs H2 Q
variable{o e:Mb}{es:List Mb}{to:TE}{t:TA}{name:Str}{apos cpos:Pos}{T id:String}{r:V->List V->Hp->VK->Prop}
theorem Bp(pa:PlainAttrs T)(slot:Slot T name id)(hty:typeOf (.builtin id)=pure (.type "method_descriptor"))(hm:Nr X id r)(ho:PE X o to)(ha:PA X (e::es) t)
 (hbase:Ny o name X.env (eval o X.env)=eval o X.env:=by rfl)
 (hfew:((Mj cpos (MQ (e::es) X.env)).all (λx=>!x.1) && (Nl cpos (Np [] X.env)).all (λx=>x.1.isSome)
   && decide ((e::es).length+([]:List Ng).length+(if ([]:List Ng).isEmpty then 0 else 1) < 30))=true:=by rfl)
 (hline:(apos.endLine==cpos.line)=true:=by rfl)(hs:MQ (e::es) X.env=(false,eval e X.env)::MQ es X.env:=by rfl)(hplain:(Mj cpos (MQ es X.env)).any (·.1)=false:=by rfl):
 PE X (.Call (.Attribute o name apos) (e::es) [] cpos) (adB X.K T r to t):=by
 intro aeK s U H Q I h;refine wpAny_Call_method_late hbase hfew hline rfl (aA (ho aeK s U H _ I h) λv s1 ⟨x,H1,I1,r1,ty,q1⟩=>?_);obtain⟨h1,h2⟩:=ad3 I1 r1 ty;refine⟨T,id,pa,slot,hty,h1,h2,?_⟩;have hA:=ha cpos aeK s1 U H1 _ I1 q1;rw[hs]at hA⊢;refine Z4 (by show(false || (Mj cpos (MQ es X.env)).any (·.1))=false;rw[hplain]<;>rfl) (RD ?_);exact aA hA λus s2 uu=>by obtain⟨vs,H2,I2,r2,q2⟩:=uu;exact hm aeK s2 U H2 x vs v us Q I2 r1 r2 q2
end
def Bq(X:Cx)(id:String)(r:V->List V->Hp->VK->Prop):Prop:=
 ∀(aeK:List (L9×Obj))(s:M6)(U:St)(H:Hp)(x:V)(xs:List V)(v:M3)(us:List M3)(Q:VK),af X aeK U H s->aG x v->aF xs us->r x xs H Q->
  MD (MK X.prog X.w) X.A (NC (.builtin id) (v::us)) (EP X aeK U Q) X.xe s
theorem aF.one:∀{x:V}{us:List M3},aF [x] us->∃u,us=[u]/\aG x u
 |_,_,.cons r .nil=>⟨_,rfl,r⟩
section
variable{X:Cx}{aeK:List (L9×Obj)}{U:St}{H:Hp}{s:M6}{l b:L9}{xs ys zs:List V}
theorem af.lset{its its':List M3}{n:Nat}{f:Array M3->Array M3}{t':Nat}(I:af X aeK U H s)(hH:H l=some (.lst xs))
 (e:s.heap.get? l=some {cls:= .type "list",data:= .seq its.toArray n})(hf:f its.toArray=its'.toArray)(hv:aF ys its')(hz:ys.length<=MT):
 af X aeK U (ai H l (.lst ys)) {s with heap:=s.heap.update l (XY f),toks:=t'}:=by
 have q:=PySem.IsL.update e f;rw[hf]at q;refine I.write (x:=l) (e:=l) (by rw[hH];exact trivial) (.inl rfl) (λb' u hb hu=>(XZ s.heap (XY f) (Ne.symm hb)).trans hu) ⟨_,q⟩ ?_;exact⟨hz,its',_,hv,q⟩
theorem af.lnew{its:List M3}{t':Nat}(I:af X aeK U H s)(hv:aF ys its)(hz:ys.length<=MT):
 af X aeK U (ai H s.heap.objs.size (.lst ys)) {s with heap:=s.heap.push {cls:= .type "list",data:= .seq its.toArray},toks:=t'}:=
 I.laid (λ_ _ q=>V3 _ q) (V4 _) ⟨hz,its,0,hv,Wv _ rfl⟩
theorem af.lstM(I:af X aeK U H s)(hH:H l=some (.lst xs)):xs.length<=MT/\∃(its:List M3)(n:Nat),aF xs its/\xs.length=its.length/\s.heap.get? l=some {cls:= .type "list",data:= .seq its.toArray n}:=by
 obtain⟨z,its,n,r,e⟩:=I.hok l _ hH;exact⟨z,its,n,r,r.length,e⟩
theorem FL(h:n<=MT):Zg n=false:=by
 unfold Zg;exact decide_eq_false L8
end
def adK:V->List V->Hp->VK->Prop:=λx vs H Q=>∃l xs y,x= .ref l/\vs=[y]/\H l=some (.lst xs)/\xs.length < MT/\Q .non (ai H l (.lst (xs++[y])))
theorem FN:Bq X "list.append" adK:=by
 intro aeK s U H x vs v us Q I rx rv h;obtain⟨l,xs,y,rfl,rfl,hH,hz,q⟩:=h;cases rx;obtain⟨u,rfl,ru⟩:=rv.one;obtain⟨z,its,n,r,hl,e⟩:=I.lstM hH;refine OT F.slot_list_append ⟨_,e,rfl⟩ F.entry_list_append (F.args_list_append_2 _ _) (PySem.list_append l its.toArray n u (by rw[Wh];omega)) ⟨e,?_⟩;refine⟨.non,_,I.lset (its':=its++[u]) hH e MC (r.append (.cons ru .nil)) ?_,rfl,q⟩;rw[Wt,Y7];omega
def NG:V->List V->Hp->VK->Prop:=λx vs H Q=>∃l b xs zs,x= .ref l/\vs=[.ref b]/\H l=some (.lst xs)/\H b=some (.lst zs)/\xs.length+zs.length<=MT/\Q .non (ai H l (.lst (xs++zs)))
theorem NH:Bq X "list.extend" NG:=by
 intro aeK s U H x vs v us Q I rx rv h;obtain⟨l,b,xs,zs,rfl,rfl,hH,hB,hz,q⟩:=h;cases rx;obtain⟨u,rfl,ru⟩:=rv.one;cases ru;obtain⟨z,its,n,r,hl,e⟩:=I.lstM hH;obtain⟨z2,its2,n2,r2,hl2,e2⟩:=I.lstM hB;have hsz:its.toArray.size+its2.toArray.size<=MT:=by rw[Wh,Wh];omega
 have hlong:¬(!its.toArray.isEmpty && Zg (its.toArray.size+its2.toArray.size))=true:=by
  rw[FL hsz,U6];exact We
 refine OT F.slot_list_extend ⟨_,e,rfl⟩ F.entry_list_extend (F.args_list_extend_2 _ _)
  (Z9 l its.toArray n b its2.toArray n2 hlong (by rw[Wh];omega) L8) ⟨e,e2,?_⟩
 refine⟨.non,_,I.lset (its':=its++its2) hH e MC (r.append r2) ?_,rfl,q⟩;rw[Wt];omega
end L2
namespace Att
open PySem PySem.W PySem.Calls PyProof.Rows
theorem NI:∀(ns:List Int)(vs:List M3),WellAll P h vs (ns.map Zl)->N2 vs ns:=by
 intro ns
 induction ns with
 |nil=>
  intro vs w;rw[WD]at w;cases w;exact .nil
 |cons n ns ih=>
  intro vs w;rw[V2]at w;cases w with
  |cons a b=>
   cases a;exact .cons _ _ (ih _ b)
theorem adA{l:OpenLaw}(hn:l.most=some n)
 (hpre:l.row.toRowW.claim.pre args=true)(hwl:WellAll P h vals args):
 ∃a vs ns,vals=[W5 a]/\args=[PV (ns.map Zl)]/\h.get? a=some {cls:= .type "list",data:= .seq vs.toArray}/\N2 vs ns/\ns.length<=n:=by
 have hsh:WShape.hasAll [] args [.list .int]=true:=(pre_splitW hpre).1;have hc:l.pre.holds [] {args:=args}=true:=(pre_splitW hpre).2;obtain⟨d,r,rfl,h1,h2⟩:=hasAllW_cons hsh;obtain rfl:=hasAllW_nil h2;obtain⟨xs,rfl,h3⟩:=hasW_list h1;obtain⟨ns,rfl⟩:=items_int h3;have hlen:ns.length<=n:=by
  unfold OpenLaw.pre at hc;have h4:(WTm.not (.lt (.lit (.int (n:Int))) (.len (.arg 0)))).holds [] {args:=[.list (ns.map .int)]}=true:=by
   have h4:=(holds_andW hc).1;rw[hn]at h4;exact h4
  have h5:=condW_of h4 (w_not (w_lt w_lit (w_len_list (w_arg rfl))));rw[V0]at h5;refine YQ λq=>?_;have q':(n:Int) < ((ns.length:Nat):Int):=L8
  first
   | (rw[decide_eq_true q']at h5;exact absurd h5 MA)
   | (simp at h5;omega)
 cases hwl with
 |cons w1 w2=>
  cases w2;cases w1 with
  |list ho hall=>exact⟨_,_,ns,rfl,rfl,ho,NI ns _ hall,hlen⟩
theorem adE(l:OpenLaw)(args:List WData):l.row.toRowW.claim.post args (.bool true) args=true:=
 postW_of (r:=l.row.toRowW) (X:=(true==true))
  (show WShape.has [] (.bool true) .bool=true by first|rfl|decide|simp[WShape.has,WShape.arms,WShape.armsAll])
  (show(WTm.eq .res (.lit (.bool true))).value [] {args:=args,res:=some (.bool true),after:=args}=some (.bool (true==true)) from w_eq_bool (w_res rfl) w_lit) rfl
end Att
namespace L2
open PySem PySem.Spec PyProof.Rows
theorem FO:∀{vs:List M3}{ns:List Int},N2 vs ns->aF (ns.map V.int) vs
 |_,_,.nil=>.nil
 |_,_,.cons n t h=>.cons ⟨t,rfl⟩ (FO h)
def wK(H:Hp):Prop:=∀b,H b=none\/∃o xs,H b=some (.frz o (.lst xs))
theorem adJ{Z:VZ}{s₁:M6}{vs:List M3}
 (KX:Z.In s₁.heap)(hns:s₁.heap.Ns Mt mg)(hb:s₁.heap.Ns builtinsNs mb)(hbb:∀x:Str,x≠"__name__"->mb x=N6 x)(hlim:s₁.heap.NoLimit)(hg:s₁.gens=#[])
 (ha:s₁.heap.get? a=some {cls:= .type "list",data:= .seq vs.toArray})(hi:N2 vs ns)(hl:ns.length<=MT)(hr:bf k callerA)
 (F:∀base:Md,Z.In base->base.Ns Mt mg->aB P w Z mg base CX k fa fd [x] sp)(hbind:∀(s:M6) (u:M3),BindsTo s fd ⟨[u],[]⟩ [(x,u)])
 (hsp:∀H:Hp,wK H->bb Z H a (ns.map V.int)->sp [.ref a] H (λv _=>v= .bl true) λ_ _ _=>False)
 (hCX:∀H e s',CX [] H s₁ (λ_ _ _=>False) e s'->False):
 NS (MK P w) callerA (.call (.ref fa) ⟨[.ref a],[]⟩) (λr s'=>r= .ok (.ret (.bool true))/\OldK s₁.heap s'.heap/\s'.os=s₁.os/\OH s'.gens) s₁:=by
 have rv:=FO hi;have lenV:=hi.length;have core:∀H:Hp,wK H->bb Z H a (ns.map V.int)->bQ P w H s₁.heap->(∀b,H b≠none->b=a)->(H a≠none->Z.lookup a=none)->
  NS (MK P w) callerA (.call (.ref fa) ⟨[.ref a],[]⟩) (λr s'=>r= .ok (.ret (.bool true))/\OldK s₁.heap s'.heap/\s'.os=s₁.os/\OH s'.gens) s₁:=by
  intro H hO hS hok hA hK;have base_of:∀{b:L9}{o:Obj},s₁.heap.get? b=some o->H b=none->(qY s₁.heap H).get? b=some o:=λe n=>ado e n;have noA:∀{b:L9}{o:Obj}{es:Array Pw}{ep:Nat},s₁.heap.get? b=some o->o.data= .dict es ep->H b=none:=λ{b o es ep} e d=>by
   cases q:H b with
   |none=>rfl
   |some u=>
    have e':b=a:=hA b (by rw[q];simp);subst e';rw[ha]at e;cases e;have d':Data.seq vs.toArray _=Data.dict es ep:=d;cases d'
  have nsK:∀{b:L9}{m:Str->Option M3},s₁.heap.Ns b m->(qY s₁.heap H).Ns b m:=λ{b m} ⟨o,es,ep,e,d,r⟩=>⟨o,es,ep,base_of e (noA e d),d,r⟩;have hKb:Z.In (qY s₁.heap H):=λb o e=>base_of (KX b o e) (by
   cases q:H b with
   |none=>rfl
   |some u=>
    have e':b=a:=hA b (by rw[q];simp);subst e';rw[hK (by rw[q];simp)]at e;cases e)
  have hM:Mod Z mg (qY s₁.heap H):=⟨hKb,nsK hns,⟨mb,nsK hb,hbb⟩,let ⟨mc,h1,h2⟩:=hlim;⟨mc,nsK h1,h2⟩⟩;have e0:qx P w Z mg (qY s₁.heap H) callerA [] s₁ H:=⟨rfl,hM,λb o e=>Mm e,Qz (adk _ _),trivial,λb hb=>absurd (show b∈([]:List L9) from hb) MC,hok,.of_eq hg⟩;refine OS ((F _ hKb (nsK hns)).run callerA [] s₁ H ⟨[.ref a],[]⟩ [.ref a] [.ref a] _ _ hr e0 (hbind s₁ (.ref a)) (.cons rfl .nil) (hsp H hO hS)) λr s' h=>?_;cases r with
  |error e=>exact(hCX H e s' h).elim
  |ok fl=>
   cases fl with
   |next=>exact Yo h
   |brk=>exact Yo h
   |cont=>exact Yo h
   |ret u=>
    obtain⟨v,H',os,bare,un,hok',r',q⟩:=h;have q':v= .bl true:=q;subst q';obtain rfl:u=Y3 true:=r';refine⟨rfl,OldK.of_keep λb o e=>?_,os,bare⟩;cases q:H b with
    |none=>exact un.keep b o e q (by intro z;exact absurd (show b∈([]:List L9) from z) MC) MC
    |some u=>
     rcases hO b with z|⟨ob,xs,z⟩
     ·rw[q]at z;cases z
     ·have z2:=un.frzs b ob _ z;obtain⟨e1,_⟩:=hok b _ z;obtain⟨e2,_⟩:=hok' b _ z2;rw[e]at e1;cases e1;exact e2
 cases hk:Z.lookup a with
 |some o=>
  have e:=KX a o hk;rw[ha]at e;cases e;refine core (λ_=>none) (λ_=>.inl rfl) (.inr ⟨_,vs.toArray,_,hk,rfl,rfl,rfl,by rw[Wh,lenV];exact hl,by simpa using rv⟩) (λb u z=>by have z':(none:Option HO)=some u:=z;cases z') (λb z=>absurd rfl z) λz=>absurd rfl z
 |none=>
  refine core (λb=>if b=a then some (.frz {cls:= .type "list",data:= .seq vs.toArray} (.lst (ns.map V.int))) else none) (λb=>?_) (.inl (.inr ⟨{cls:= .type "list",data:= .seq vs.toArray},M8 rfl⟩)) (λb u z=>?_) (λb z=>?_) λ_=>hk
  ·by_cases hb:b=a
   ·exact .inr ⟨_,_,M8 hb⟩
   ·exact .inl (M4 hb)
  ·by_cases hb:b=a
   ·have z':=(M8 hb).symm.trans z;cases z';subst hb;exact⟨ha,by rw[V0];exact hl,vs,_,rv,ha⟩
   ·have z':=(M4 hb).symm.trans z;cases z'
  ·by_cases hb:b=a
   ·exact hb
   ·exact absurd (M4 hb) z
abbrev Th{Z:VZ}(_:Z.In h):VZ:=Z
def inClass(s:MU)(j:Nat):MU:=match s with
 | .ClassDef _ _ _ body _ _ _ _ _ _ _=>body.getD j (.Pass ⟨0,0,0,0⟩)
 |_=>.Pass ⟨0,0,0,0⟩
def qz(s:MU):Arguments:=match s with
 | .FunctionDef _ a _ _ _ _ _ _ _ _=>a
 |_=>{posonlyargs:=[],args:=[],vararg:=none,kwonlyargs:=[],kw_defaults:=[],kwarg:=none,defaults:=[]}
def nK(s:MU):List MU:=match s with
 | .FunctionDef _ _ b _ _ _ _ _ _ _=>b
 |_=>[]
def aq(s:MU):ND:=match s with
 | .FunctionDef _ _ _ _ _ _ sc _ _ _=>sc
 |_=>{kind:= .function,names:=[],isGenerator:=false,isCoroutine:=false}
abbrev MX:nk:=λ_ _ _ _ _ _=>False
abbrev E0:XK:=λ_ _ _=>False
theorem nq:pQ MX X E0:=λ_ _ _ _ _ _ _ h=>h.elim
structure mT (Z:VZ) (x qual:Str) (st:MU) (f:L9) (fd:MZ):Prop where
 ex:∃(oc:M3)(od:Option L9)(kV doc pm:M3)(an:Option L9)(cdv ct:M3)(osl:Array (Option M3)),
  fd=Yz x qual (qz st) (nK st) (aq st) .none kV doc pm an cdv ct/\Z.lookup f=some ⟨oc,od,.func fd,osl⟩/\ZY Z cdv qual=true
 kp:YF Z (.ref f)=true
theorem mT.ok{x qual:Str}{st:MU}{f:L9}{fd:MZ}{N ps:List Str}{k:Nat}{sp:Sp}(F:mT Z x qual st f fd)(S:aL N ps (aq st))(len:∀vs H Q E,sp vs H Q E->vs.length=ps.length)
 (hbody:∀(cdv:M3) (A:N0) (outer:List Env) (s:M6) (H:Hp) (vs:List V) (Q:VK) (E:XK),bf k (A.deeper (Nf qual (aq st) s.heap.objs.size f cdv))->sp vs H Q E->
   ∃t,bE (pR MX P w Z mg base N qual (aq st) f cdv A outer s H E).nox (nK st) t/\t {nx:=λ_ H'=>Q .non H',rt:=Q} (start N vs) H):aB P w Z mg base MX (k+1) f fd ps sp:=by
 obtain⟨oc,od,kV,doc,pm,an,cdv,ct,osl,rfl,lk,hcd⟩:=F.ex;refine Nc lk hcd S len λA outer s H vs Q E hr hsp=>?_;obtain⟨t,h,q⟩:=hbody cdv A outer s H vs Q E hr hsp;exact⟨t,h.nox,q⟩
theorem mT.binds{x qual:Str}{st:MU}{f:L9}{fd:MZ}{ps:List Str}(F:mT Z x qual st f fd)
 (h:∀(kV doc pm:M3) (an:Option L9) (cdv ct:M3) (us:List M3),us.length=ps.length->bindArgs (Yz x qual (qz st) (nK st) (aq st) .none kV doc pm an cdv ct) ⟨us,[]⟩=pure (ps.zip us)):l8 Z fd ps []:=by
 obtain⟨oc,od,kV,doc,pm,an,cdv,ct,osl,rfl,lk,hcd⟩:=F.ex;exact .all (h kV doc pm an cdv ct)
theorem FP{x qual:Str}{st:MU}{f:L9}{oc:M3}{od an:Option L9}{osl:Array (Option M3)}{kV doc pm cdv ct:M3}(l:Z.lookup f=some ⟨oc,od,.func (Yz x qual (qz st) (nK st) (aq st) .none kV doc pm an cdv ct),osl⟩)
 (c:ZY Z cdv qual=true)(k:YF Z (.ref f)=true):mT Z x qual st f (Yz x qual (qz st) (nK st) (aq st) .none kV doc pm an cdv ct):=⟨⟨oc,od,kV,doc,pm,an,cdv,ct,osl,rfl,l,c⟩,k⟩
section
variable{X:Cx}
theorem pv(i:Nat){x:Str}{pos:Pos}(hN:X.N[i]?=some x:=by rfl)(hv:u7 X.env.scope x:=by first|exact OZ rfl|exact O8 (OZ rfl)|exact O8 (O8 rfl))(hd:(x==("__debug__":Str))=false:=by decide)
 (hcd:(x==("__classdict__":Str))=false:=by decide):PE X (.Name x pos) (lW i):=A2 hN hv hd hcd
end
def av(H H':Hp):Prop:=∀b o,H b=some o->H' b=some o
theorem av.refl(H:Hp):av H H:=λ_ _ h=>h
theorem av.trans(a:av H H1)(b:av H1 H2):av H H2:=λc o h=>b c o (a c o h)
theorem adj(a b:Int):sO (.int a) (.int b)=true:=rfl
theorem NN(a b:Str):sO (.str a) (.str b)=true:=rfl
theorem adi(a b:Bool):sO (.bl a) (.bl b)=true:=rfl
theorem NP(b:Int):sO .non (.int b)=true:=rfl
theorem DmT(b:Int):sO (.int b) .non=true:=rfl
def nY(env:Env)(names:List (Str×NK))(cs:List (Str×L9)):List (Str×L9):=
 names.foldl (λcs p=>if (p.2==Yh)=true then(p.1,(env.cells.lookup p.1).getD 0)::cs else cs) cs
theorem FQ{scope:ND}{env:Env}(h:∀y∈scope.names,y.2= .free->∃c,env.cells.lookup y.1=some c):closureFor scope env=pure (nY env scope.names []):=by
 unfold closureFor;have key:∀(l:List (Str×NK))(cs:List (Str×L9)),(∀y∈l,y.2= .free->∃c,env.cells.lookup y.1=some c)->
  (forIn l cs λ(x:Str×NK) (r:List (Str×L9))=>(if (x.2==Yh)=true then do let a<-cellOf env x.1;pure (Zm ((x.1,a)::r)) else pure (Zm r):Sem (ForInStep (List (Str×L9)))))=pure (nY env l cs):=by
  intro l
  induction l with
  |nil=>intro cs _;rfl
  |cons p r ih=>
   intro cs hl;rw[Rk];by_cases hk:(p.2==Yh)=true
   ·obtain⟨c,hc⟩:=hl p WR (by simpa using hk);rw[M8 hk];have e:cellOf env p.1=pure c:=by unfold cellOf;rw[hc]
    rw[e];simp only[pure_bind];rw[ih _ λy hy=>hl y (Wu _ hy)];unfold nY;rw[W8,M8 hk,hc];rfl
   ·rw[M4 hk];simp only[pure_bind];rw[ih _ λy hy=>hl y (Wu _ hy)];unfold nY;rw[W8,M4 hk]
 have:=key scope.names [] h;simp only[bind_pure];exact this
theorem Br{env:Env}:∀(l:List (Str×NK))(cs:List (Str×L9)){x:Str}{c:L9},(∀y∈l,y.2= .free->∃c,env.cells.lookup y.1=some c)->(∀y d,cs.lookup y=some d->env.cells.lookup y=some d)->
 (nY env l cs).lookup x=some c->env.cells.lookup x=some c
 | [],cs,x,c,_,hc,h=>hc x c h
 |p::r,cs,x,c,hl,hc,h=>by
  unfold nY at h;rw[W8]at h;by_cases hk:(p.2==Yh)=true
  ·rw[M8 hk]at h;refine Br r _ (λy hy=>hl y (Wu _ hy)) (λy d e=>?_) h;obtain⟨a,ha⟩:=hl p WR (by simpa using hk);rw[WV]at e;cases hx:y==p.1 with
   |true=>
    rw[hx]at e;have hy:y=p.1:=by simpa using hx
    rw[ha]at e;cases e;rw[hy];exact ha
   |false=>rw[hx]at e;exact hc y d e
  ·rw[M4 hk]at h;exact Br r cs (λy hy=>hl y (Wu _ hy)) hc h
theorem Bs:∀(l:List (Str×NK))(cs:List (Str×L9)){x:Str},(∃c,cs.lookup x=some c)->∃c,(nY env l cs).lookup x=some c
 | [],cs,x,h=>h
 |p::r,cs,x,⟨c,h⟩=>by
  unfold nY;rw[W8];by_cases hk:(p.2==Yh)=true
  ·rw[M8 hk];refine Bs r _ ?_;rw[WV];cases hx:x==p.1 with
   |true=>exact⟨_,rfl⟩
   |false=>exact⟨c,h⟩
  ·rw[M4 hk];exact Bs r cs ⟨c,h⟩
theorem Bt:∀(l:List (Str×NK))(cs:List (Str×L9)){x:Str},(x,Yh)∈l->∃c,(nY env l cs).lookup x=some c
 | [],_,_,h=>by simp at h
 |p::r,cs,x,h=>by
  unfold nY;rw[W8];rcases Wc.mp h with e|e
  ·subst e;rw[M8 (by rfl)];exact Bs r _ ⟨(env.cells.lookup x).getD 0,by rw[WV];simp⟩
  ·exact Bt r _ e
theorem NR(h:(relabel scope env).names.lookup x=some .cell\/(relabel scope env).names.lookup x=some .free):scope.names.lookup x=some .free\/scope.names.lookup x=some .cell:=by
 have key:∀(l:List (Str×NK)),
  ((l.map λ(n,k)=>if (k==Yh && env.scope.kind== .function && env.kindOf n==some .cell) then(n,Z5) else(n,k)).lookup x=some .cell\/
  (l.map λ(n,k)=>if (k==Yh && env.scope.kind== .function && env.kindOf n==some .cell) then(n,Z5) else(n,k)).lookup x=some .free)->l.lookup x=some .free\/l.lookup x=some .cell:=by
  intro l
  induction l with
  |nil=>intro h;simp at h
  |cons p r ih=>
   obtain⟨n,k⟩:=p;intro h;rw[V2]at h;rw[WV];by_cases hx:x=n
   ·subst hx;rw[beq_self_eq_true];by_cases hq:(k==Yh && env.scope.kind== .function && env.kindOf x==some .cell)=true
    ·have:k= .free:=by simp only[Xs,beq_iff_eq]at hq;exact hq.1.1
     subst this;exact .inl rfl
    ·simp only[M4 hq,WV,beq_self_eq_true]at h;exact h.symm
   ·have hb:(x==n)=false:=by simpa using hx
    rw[hb];refine ih ?_;by_cases hq:(k==Yh && env.scope.kind== .function && env.kindOf n==some .cell)=true
    ·simpa only[M8 hq,WV,hb]using h
    ·simpa only[M4 hq,WV,hb]using h
 exact key scope.names h
theorem adL{scope:ND}(h:scope.names.lookup x=some .cell\/scope.names.lookup x=some .free):(relabel scope env).names.lookup x=some .cell\/(relabel scope env).names.lookup x=some .free:=by
 have key:∀(l:List (Str×NK)),l.lookup x=some .cell\/l.lookup x=some .free->
  ((l.map λ(n,k)=>if (k==Yh && env.scope.kind== .function && env.kindOf n==some .cell) then(n,Z5) else(n,k)).lookup x=some .cell\/
  (l.map λ(n,k)=>if (k==Yh && env.scope.kind== .function && env.kindOf n==some .cell) then(n,Z5) else(n,k)).lookup x=some .free):=by
  intro l
  induction l with
  |nil=>intro h;simp at h
  |cons p r ih=>
   obtain⟨n,k⟩:=p;intro h;rw[V2];by_cases hx:x=n
   ·subst hx;rw[WV,beq_self_eq_true]at h;by_cases hq:(k==Yh && env.scope.kind== .function && env.kindOf x==some .cell)=true
    ·left;simp only[M8 hq,WV,beq_self_eq_true]
    ·simp only[M4 hq,WV,beq_self_eq_true];exact h
   ·have hb:(x==n)=false:=by simpa using hx
    rw[WV,hb]at h;by_cases hq:(k==Yh && env.scope.kind== .function && env.kindOf n==some .cell)=true
    ·simpa only[M8 hq,WV,hb]using ih h
    ·simpa only[M4 hq,WV,hb]using ih h
 exact key scope.names h
structure aU (sc:ND) (N N':List Str) (k:Nat) (fr:List Nat) (scope:ND):Prop where
 kind:scope.kind= .function
 cell:∀y∈scope.names,y.2= .cell->scope.names.lookup y.1=some .cell
 names:∀y∈scope.names,y.2= .local->scope.names.lookup y.1=some .local
 nd:N'.Nodup
 slot:fr.map (λj=>N[j]?)=(N'.drop k).map some
 frees:∀x∈N'.drop k,scope.names.lookup x=some .free
 outer:∀y∈scope.names,y.2= .free->sc.names.lookup y.1=some .cell\/sc.names.lookup y.1=some .free
 outer':∀x∈N'.drop k,sc.names.lookup x=some .cell\/sc.names.lookup x=some .free
 len:N'.length=k+fr.length
theorem wL:∀(l:List (Str×NK)){n:Nat}{a:List (Str×L9)}{x:Str}{c:L9},(NJ n l a).lookup x=some c->n<=c\/a.lookup x=some c
 | [],_,_,_,_,h=>.inr h
 | (y,k)::r,n,a,x,c,h=>by
  unfold NJ at h;split at h
  ·rcases wL r h with z|z
   ·exact .inl L8
   ·rw[WV]at z;split at z
    ·exact .inl (by cases z;exact V4 _)
    ·exact .inr z
  ·exact wL r h
theorem Bu:∀(l:List (Str×NK)){n:Nat}{a:List (Str×L9)}{x:Str}{c:L9},l.lookup x=some .cell->(NJ n l a).lookup x=some c->n<=c
 | [],_,_,_,_,e,_=>nomatch e
 | (y,k)::r,n,a,x,c,e,h=>by
  unfold NJ at h;rw[WV]at e;cases hx:x==y with
  |true=>
   rw[hx]at e;cases e;have h:Zp x (NJ (n+1) r ((y,n)::a))=some c:=h;rcases wL r h with z|z
   ·exact RV z
   ·rw[WV,hx]at z;cases z;exact V4 _
  |false=>
   rw[hx]at e;split at h
   ·exact RV (Bu r e h)
   ·exact Bu r e h
theorem Bv:∀(l:List (Str×NK)){n:Nat}{a:List (Str×L9)}{x:Str},(∀y∈l,y.2= .cell->y.1≠x)->(NJ n l a).lookup x=a.lookup x
 | [],_,_,_,_=>rfl
 | (y,k)::r,n,a,x,h=>by
  unfold NJ;split
  ·rename_i hk;rw[Bv r λz hz=>h z (Wu _ hz),WV];have:(x==y)=false:=by simpa using Ne.symm (h (y,k) WR (by simpa using hk))
   rw[this]
  ·exact Bv r λz hz=>h z (Wu _ hz)
theorem Bw:∀(l:List (Str×NK)){n:Nat}{a:List (Str×L9)},(∀x c,a.lookup x=some c->c < n)->(∀x y c,a.lookup x=some c->a.lookup y=some c->x=y)->∀x y c,(NJ n l a).lookup x=some c->(NJ n l a).lookup y=some c->x=y
 | [],_,_,_,h=>h
 | (z,k)::r,n,a,hl,hi=>by
  unfold NJ;split
  ·have one:∀x c,((z,n)::a).lookup x=some c->x=z/\c=n\/c < n/\a.lookup x=some c:=λx c e=>by
    rw[WV]at e;cases hx:x==z with
    |true=>rw[hx]at e;cases e;exact .inl ⟨by simpa using hx,rfl⟩
    |false=>rw[hx]at e;exact .inr ⟨hl x c e,e⟩
   refine Bw r (λx c e=>?_) λx y c e1 e2=>?_
   ·rcases one x c e with⟨_,z⟩|⟨z,_⟩
    ·rw[z];exact YN _
    ·exact Ye z
   ·rcases one x c e1 with⟨a1,b1⟩|⟨a1,b1⟩<;>rcases one y c e2 with⟨a2,b2⟩|⟨a2,b2⟩
    ·rw[a1,a2]
    ·omega
    ·omega
    ·exact hi x y c b1 b2
  ·exact Bw r hl hi
theorem Bx:∀(l:List (Str×NK)){h:Md}{a:List (Str×L9)},(∀x c,a.lookup x=some c->∃v,h.IsCell c v)->∀x c,(NJ h.objs.size l a).lookup x=some c->∃v,(pushCells h l).IsCell c v
 | [],_,_,h=>h
 | (z,k)::r,h,a,ha=>by
  unfold NJ pushCells;split
  ·have:=Bx r (h:=h.push {cls:= .type "cell",data:= .cell none}) (a:=(z,h.objs.size)::a) λx c e=>by
    rw[WV]at e;split at e
    ·cases e;exact⟨none,_,Wv _ rfl,rfl⟩
    ·obtain⟨v,q⟩:=ha x c e;exact⟨v,q.keeps λb o e=>V3 _ e⟩
   rwa [Zf]at this
  ·exact Bx r ha
def wM(X:Cx)(scope:ND)(C:L9):List (Str×L9):=NJ (C+1) scope.names (nY X.env scope.names [])
def bG(X:Cx)(scope:ND)(N':List Str)(fp:List L9)(C:L9)(s:M6)(H:Hp):Cx where
 prog:=X.prog
 w:=X.w
 K:=X.K
 mg:=X.mg
 base:=X.base
 A:=X.A
 N:=N'
 s₀:=s
 H₀:=H
 env:=compEnvC scope (wM X scope C) C X.env
 outer:=X.stack
 stack:=X.stack
 ex:=fp
 fn:=λx=>scope.names.lookup x==some .cell
 calm:=X.calm
 pn:=[]
 xe:=λ_ _=>False
def bK(k:Nat)(fr:List Nat)(U:St):St:=Wj k none++fr.map λj=>(U[j]?).join
def rT(U U':St):Prop:=U.length=U'.length/\∀(i:Nat) v,U[i]?=some (some v)->U'[i]?=some (some v)
section
variable{X:Cx}{aeK:List (L9×Obj)}{U:St}{H:Hp}{s:M6}{scope:ND}{N':List Str}{k:Nat}{fr:List Nat}{fp:List L9}
theorem By(S:aU X.env.scope X.N N' k fr scope)(I:af X aeK U H s):∀x c,(nY X.env scope.names []).lookup x=some c->X.env.cells.lookup x=some c:=λx c e=>Br scope.names [] (λy hy e=>I.ok.has y.1 (S.outer y hy e)) (λ_ _ z=>by simp at z) e
theorem FT(S:aU X.env.scope X.N N' k fr scope)(I:af X aeK U H s){x:Str}{c:L9}(e:(wM X scope s.heap.objs.size).lookup x=some c):s.heap.objs.size < c\/X.env.cells.lookup x=some c:=
 (wL _ e).imp (λz=>z) λz=>By S I x c z
theorem NT(S:aU X.env.scope X.N N' k fr scope)(I:af X aeK U H s)(hf:∀b∈fp,pO X aeK H b)(hlt:∀b∈fp,b < s.heap.objs.size):
 (bG X scope N' fp s.heap.objs.size s H).Ok:=by
 have hcl:=By S I;refine⟨I.ok.mod,S.kind,I.ok.glob,I.ok.blt,V4 _,Bw _ (λx c e=>?_) (λx y c h1 h2=>I.ok.inj x y c (hcl x c h1) (hcl y c h2)),λx hx=>ZP.mp (Z3 _ _ _ ?_),λx c h e=>RV (Bu _ (eq_of_beq h) e),I.ok.hd,I.ok.frames,.inl rfl,λb hb=>⟨WI (hlt b hb),λx c e=>?_⟩,
  I.bs,Wy I.ok.bsz I.sz,λb o e hb=>?_,λb hb hb'=>?_,I.stack,I.stkFree⟩
 ·obtain⟨v,o,ho,_⟩:=I.cell x c (hcl x c e);exact Ye (Wl ho)
 ·rcases NR hx with z|z
  ·exact .inr (ZP.mpr (Bt _ _ (YK z)))
  ·exact .inl z
 ·rcases FT S I e with z|z
  ·exact λq=>absurd (hlt b hb) (by rw[<-q];exact Nat.lt_asymm z)
  ·exact(hf b hb).2.2.2.2.1 x c z
 ·rcases(hf b hb).2.2.2.1 with z|z
  ·exact I.ok.noex b o e z
  ·exact absurd (XM (Wl e) (Wy I.ok.bsz z)) (YY _)
 ·rcases Wc.mp (I.stkSub b hb') with z|z
  ·exact(hf b hb).2.1 z
  ·exact(hf b hb).2.2.1 z
theorem NU(S:aU X.env.scope X.N N' k fr scope)(I:af X aeK U H s)(hf:∀b∈fp,pO X aeK H b)(hlt:∀b∈fp,b < s.heap.objs.size){o:Obj}{h':Md}(e':h'=pushCells (s.heap.push o) scope.names)
 (hn:h'.Ns s.heap.objs.size (λ_=>none))(hk:∀b o,s.heap.get? b=some o->h'.get? b=some o):
 af (bG X scope N' fp s.heap.objs.size s H) [] (bK k fr U) H {s with heap:=h'}:=by
 have hcl:=By S I;refine⟨NT S I hf hlt,rfl,I.bare,Un.kept hk,⟨_,hn,λi x v h1 h2 h3=>?_⟩,λx c e=>?_,I.hok.fresh (V4 _),λx c e=>?_,λp hp=>absurd hp (by simp[bG]),I.hok.kept hk,?_⟩
 ·have hi:k<=i:=by
   rcases YA i k with z|z
   ·exfalso;unfold bK at h2;rw[XI (by simpa using z),YH,M8 z]at h2;cases h2
   ·exact z
  have h2':(fr.map λj=>(U[j]?).join)[i - k]?=some (some v):=by
   unfold bK at h2;rw[Yg (by simpa using hi)]at h2;simpa using h2
  have h1':(N'.drop k)[i - k]?=some x:=by
   rw[List.getElem?_drop,Nat.add_sub_cancel' hi];exact h1
  have hmem:x∈N'.drop k:=W0 h1';have e2:(fr.map λj=>X.N[j]?)[i - k]?=some (some x):=by
   rw[S.slot,Wm,h1'];rfl
  obtain⟨j,hj,ej⟩:∃j,fr[i - k]?=some j/\X.N[j]?=some x:=by
   rw[Wm]at e2;cases e:fr[i - k]? with
   |none=>rw[e]at e2;cases e2
   |some j=>rw[e]at e2;exact⟨j,rfl,Xt e2⟩
  have hv:U[j]?=some (some v):=by
   rw[Wm,hj]at h2';have h3':(U[j]?).join=some v:=Xt h2';cases e:U[j]? with
   |none=>rw[e]at h3';cases h3'
   |some o=>rw[e]at h3';rw[show o=some v from h3']
  obtain⟨m,hn0,hl⟩:=I.loc;have ho:=S.outer' x hmem;obtain⟨u,ru,lk⟩:=hl j x v ej hv (.inr ho);refine⟨u,ru,.inr ⟨adL (.inr (S.frees x hmem)),?_⟩⟩;rcases lk with⟨z,_⟩|⟨_,c,hc,hx⟩
  ·exfalso;rcases ho with ho|ho
   ·exact absurd (z.symm.trans ho) MC
   ·exact absurd (z.symm.trans ho) MC
  ·obtain⟨c',hc'⟩:=Bt (env:=X.env) scope.names [] (YK (S.frees x hmem));have:=hcl x c' hc';rw[hc]at this;cases this;obtain⟨o,ho,hd⟩:=hx;exact⟨c,(Bv _ λy hy ey ex=>by have q:=S.cell y hy ey;rw[ex,S.frees x hmem]at q;cases q).trans hc',o,hk c o ho,hd⟩
 ·subst e';have:=Bx scope.names (h:=s.heap.push o) (a:=nY X.env scope.names []) (λx c e=>by
   obtain⟨v,q⟩:=I.cell x c (hcl x c e);exact⟨v,q.keeps λb o e=>V3 _ e⟩) x c
  rw[Zf]at this;exact this e
 ·rcases FT S I e with z|z
  ·exact I.hok.fresh (YT z)
  ·exact I.freeC x c z
 ·unfold bK;show _=N'.length;rw[Wt,RC,V0,S.len]
end
theorem NV(I:Nat->M6->Prop)
 (turn:∀n s,I n s->MD (MK prog w) A (NF it) (λr s₁=>match r with
  |none=>R (.ok .next) s₁
  |some v=>MD (MK prog w) A (QG target it v) (λ_ s₁'=>MD (MK prog w) A (assign target env v) (λ_ s₂=>
   MD (MK prog w) A (forIn ifs true λc r=>if r=true then do let ok<-isTrue c env (eval c env);pure (Zm ok) else pure (Zm r)) (λok s₃=>
    if ok=true then MD (MK prog w) A (eval elt env) (λx s₄=>
     MD (MK prog w) A (NC (.builtin "list.append") [acc,x]) (λ_ s₅=>∃m,m < n/\I m s₅) (λ_ _=>False) s₄) (λ_ _=>False) s₃
    else ∃m,m < n/\I m s₃) (λ_ _=>False) s₂) (λ_ _=>False) s₁') (λ_ _=>False) s₁) (λ_ _=>False) s)
 (n:Nat)(h:I n s):
 NS (MK prog w) A (.compLoop (.ListComp elt [⟨target,iter,ifs,0⟩] scope pos) 0 it acc env) R s:=by
 refine codeAny_loop rfl I (λn s hI=>?_) n h;show MD _ A ((compTurn (.ListComp elt [⟨target,iter,ifs,0⟩] scope pos) 0 it acc env).onRaise (λx=>do noteFrame x env;theTreesLotGoes x)) _ _ s;refine wpAny_noted ?_;rw[compTurn_list];refine M5 (wpAny_standAt (M5 (NB (turn n s hI) (λr s₁ h₁=>?_) λ_ _ h'=>h'.elim)));cases r with
 |none=>exact MO h₁
 |some v=>
  refine M5 (NB h₁ (λ_ s₁' h₁'=>?_) λ_ _ h'=>h'.elim);refine M5 (NB h₁' (λ_ s₂ h₂=>M5 (NB h₂ (λok s₃ h₃=>?_) λ_ _ h'=>h'.elim)) λ_ _ h'=>h'.elim);cases ok with
  |false=>exact MO ⟨rfl,h₃⟩
  |true=>
   exact M5 (M5 (NB h₃ (λx s₄ h₄=>M5 (NB h₄ (λ_ s₅ h₅=>MO (MO ⟨rfl,h₅⟩)) λ_ _ h'=>h'.elim)) λ_ _ h'=>h'.elim))
def nv(X:Cx)(ifs:List Mb)(t:TT):Prop:=
 ∀(aeK:List (L9×Obj))(s:M6)(U:St)(H:Hp)(Q:Bool->Hp->Prop),af X aeK U H s->t U H Q->
  MD (MK X.prog X.w) X.A (forIn ifs true λc r=>if r=true then do let ok<-isTrue c X.env (eval c X.env);pure (Zm ok) else pure (Zm r)) (TP X aeK U Q) X.xe s
def FU:TT:=λ_ H Q=>Q true H
theorem FV:nv X [] FU:=λaeK s U H Q I h=>wpAny_tests_nil ⟨H,I,h⟩
theorem eM(h:PT X c t):nv X [c] t:=λaeK s U H Q I hq=>wpAny_tests_one (h aeK s U H Q I hq)
theorem bQ.but{h h':Md}(x:bQ P w H h)(hC:H C=none)(k:∀b o,b≠C->h.get? b=some o->h'.get? b=some o):bQ P w H h':=λa o e=>by
 refine(x a o e).stay (λb u hb q=>k b u ?_ q) (λ_ q=>q) (λ_ _ q=>q) λ_ _ q=>q;intro z;subst z;rcases hb with z|z
 ·rw[<-z,hC]at e;cases e
 ·rw[hC]at z;cases z
theorem NW{s:M6}{scope:ND}{Q:Env->M6->Prop}
 (hQ:∀h',h'=pushCells (s.heap.push {cls:= .type "dict",data:= .dict #[]}) scope.names->h'.Ns s.heap.objs.size (λ_=>none)->(∀b o,s.heap.get? b=some o->h'.get? b=some o)->
  Q (newEnv scope s.heap.objs.size g (NJ (s.heap.objs.size+1) scope.names cl) qual none .none (some e) builtinsNs) {s with heap:=h'}):
 MD M A (newFunctionEnv scope g cl [] qual none .none (some e)) Q E s:=by
 simp only[newFunctionEnv,Rq,if_true];refine M5 (wpAny_alloc (M5 (wpAny_layCells _ (λname kind cells=>by cases hkc:kind==Z5<;>simp[hkc]) _ _ _ _ ?_)));rw[show({s with heap:=s.heap.push {cls:= .type "dict",data:= .dict #[]}}:M6).heap.objs.size=s.heap.objs.size+1 from Zf ..];rw[UA];exact M5 (MO (MO (hQ _ rfl ((Heap.Ns.new s.heap (.type "dict")).keeps (pushCells_keeps _ _)) λb o e=>pushCells_keeps _ _ b o (V3 _ e))))
def rV(wi:TI)(g:TG)(tc:TT)(te:TE)(k:Nat)(fr:List Nat):TE:=λU H Q=>wi U H λJ H1=>∀D,H1 D=none->∃W:Nat->Nat->Hp->Prop,(∃m,W 0 m (ai H1 D (.lst [])))/\∀i m H,W i m H->
 (J.stop i H/\Q (.ref D) H)\/(J.go i H/\∀x H',J.yld i H x H'->g x (bK k fr U) H' λσ2 H2=>rT (bK k fr U) σ2/\tc σ2 H2 λok H3=>
  if ok=true then te σ2 H3 λy H4=>∃ys,H4 D=some (.lst ys)/\ys.length < MT/\∃m',m' < m/\W (i+1) m' (ai H4 D (.lst (ys++[y])))
  else ∃m',m' < m/\W (i+1) m' H3)
theorem FW{use:Option (M3->Sem Unit)}{Q':M3->M6->Prop}{aeK:List (L9×Obj)}{s:M6}{U:St}{Q:VK}(hc:X.calm=true)(S:aU X.env.scope X.N N' k fr scope)(hi:PI X tg iter wi)
 (hg:∀fp C s H,PG (bG X scope N' fp C s H) tg g)(hf:∀fp C s H,nv (bG X scope N' fp C s H) ifs tc)(he:∀fp C s H,PE (bG X scope N' fp C s H) elt te)
 (I:af X aeK U H s)(h:rV wi g tc te k fr U H Q)
 (hQ:∀D C s' H',C≠X.env.locals->af X aeK U H' s'->(∀h',YU C s'.heap h'->af X aeK U H' {s' with heap:=h'})->Q (.ref D) H'->(∃m,s'.heap.Ns C m)->X.env.locals < C->H' C=none/\(∀x c,X.env.cells.lookup x=some c->c≠C)/\(∀p∈X.pn++aeK,p.1≠C)->compPost (MK X.prog X.w) X.A X.xe use Q' (.ref D) C (.ok .next) s'):
 MD (MK X.prog X.w) X.A (eval iter X.env) (λx s₁=>MD (MK X.prog X.w) X.A (pyIter x) (λit s₂=>MD (MK X.prog X.w) X.A (newList []) (λacc s₃=>
  MD (MK X.prog X.w) X.A (newFunctionEnv scope X.env.globals (nY X.env scope.names []) [] X.env.qual none .none (some X.env)) (λcenv s₄=>
   NS (MK X.prog X.w) X.A (.compStart (.ListComp elt [⟨tg,iter,ifs,0⟩] scope pos) 0 it acc {cenv with scope:=relabel scope X.env}) (compPost (MK X.prog X.w) X.A X.xe use Q' acc cenv.locals) s₄) X.xe s₃) X.xe s₂) X.xe s₁) X.xe s:=by
 refine aA (hi aeK s U H _ I h) λv s1 h1=>aA h1 λitv s2 h2=>?_;obtain⟨it,fp,tn,J,H2,e,I2,T,st2,f2,wW⟩:=h2;subst e;refine NM ?_;have hD0:H2 s2.heap.objs.size=none:=I2.hok.fresh (V4 _);obtain⟨W,⟨m0,w0⟩,turn⟩:=wW _ hD0;generalize hD:s2.heap.objs.size=D at*;have I3:af X aeK U (ai H2 D (.lst [])) {s2 with heap:=s2.heap.push {cls:= .type "list",dict:=none,data:= .seq ([]:List M3).toArray}}:=by
  have:=I2.lnew (ys:=[]) (its:=[]) (t':=s2.toks) .nil (Xe _);rw[hD]at this;exact this
 generalize hs3:({s2 with heap:=s2.heap.push {cls:= .type "list",dict:=none,data:= .seq ([]:List M3).toArray}}:M6)=s3 at*;have up23:∀b o,s2.heap.get? b=some o->s3.heap.get? b=some o:=λb o e=>by rw[<-hs3];exact V3 _ e
 have fpD:∀b∈fp,b≠D:=λb hb z=>by
  obtain⟨o,ho,_⟩:=T.obj _ _ st2 b hb;have:=Wl ho;rw[hD,z]at this;exact YY _ this
 have f3:∀b∈fp,pO X aeK (ai H2 D (.lst [])) b:=λb hb=>⟨by rw[ar (fpD b hb)];exact(f2 b hb).1,(f2 b hb).2⟩;have st3:tn 0 s3.heap:=T.keep _ _ _ st2 λb hb o e=>up23 b o e;have lt3:∀b∈fp,b < s3.heap.objs.size:=λb hb=>by obtain⟨o,ho,_⟩:=T.obj _ _ st3 b hb;exact Wl ho
 refine NW λh₁ e₁ hns₁ up34=>?_;have I4:=NU S I3 f3 lt3 e₁ hns₁ up34;have st4:tn 0 h₁:=T.keep _ _ _ st3 λb hb o e=>up34 b o e;generalize hX':bG X scope N' fp s3.heap.objs.size s3 (ai H2 D (.lst []))=X' at*;have hg':PG X' tg g:=by rw[<-hX'];exact hg _ _ _ _
 have hf':nv X' ifs tc:=by rw[<-hX'];exact hf _ _ _ _
 have he':PE X' elt te:=by rw[<-hX'];exact he _ _ _ _
 have eP:X'.prog=X.prog:=by rw[<-hX'];rfl
 have eW:X'.w=X.w:=by rw[<-hX'];rfl
 have eK:X'.K=X.K:=by rw[<-hX'];rfl
 have eA:X'.A=X.A:=by rw[<-hX'];rfl
 have eC:X'.calm=true:=by rw[<-hX'];exact hc
 have eE:X'.xe=λ_ _=>False:=by rw[<-hX'];rfl
 have eEnv:X'.env=compEnvC scope (wM X scope s3.heap.objs.size) s3.heap.objs.size X.env:=by rw[<-hX'];rfl
 have fpx:∀{H':Hp},(∀b∈fp,H' b=none)->∀b∈fp,pO X' [] H' b:=λ{H'} hn b hb=>by
  refine⟨hn b hb,?_,?_,.inl ?_,?_,?_⟩
  ·rw[eEnv];exact WI (lt3 b hb)
  ·have:=I4.ok.exfs b (by rw[<-hX'];exact hb);exact this
  ·rw[<-hX'];exact hb
  ·have:=I4.ok.exf b (by rw[<-hX'];exact hb);exact this.2
  ·intro p hp;rw[<-hX']at hp;simp[bG]at hp
 have fin:∀(s':M6)(H':Hp)(U':St),af X' [] U' H' s'->Q (.ref D) H'->compPost (MK X.prog X.w) X.A X.xe use Q' (.ref D) s3.heap.objs.size (.ok .next) s':=λs' H' U' J q=>by
  have un:Un (oE X.stack) fp (ai H2 D (.lst [])) H' s3.heap s'.heap:=by have:=J.base;rw[<-hX']at this;exact this
  have jos:s'.os=s3.os:=by have:=J.os;rw[<-hX']at this;exact this
  have hC:H' s3.heap.objs.size=none:=by have:=J.free;rw[eEnv]at this;exact this
  have hok':bQ X.prog X.w H' s'.heap:=by have:=J.hok;rw[eP,eW]at this;exact this
  have mU:∀h',YU s3.heap.objs.size s'.heap h'->af X aeK U H' {s' with heap:=h'}:=λh' hs'=>by
   have un':Un (oE X.stack) fp (ai H2 D (.lst [])) H' s3.heap h':=
    ⟨λb o e n h1 h2=>hs'.extBut b o (WI (Wl e)) (un.keep b o e n h1 h2),λb o e n h1 h2=>by
     obtain⟨sl,z⟩:=un.slot b o e n h1 h2;exact⟨sl,hs'.extBut b _ (WI (Wl e)) z⟩,un.free,λb o e h2=>by
     obtain⟨o',z⟩:=un.there b o e h2;exact⟨o',hs'.extBut b o' (WI (Wl e)) z⟩,un.tups,un.frzs,un.tbls⟩
   exact af.call' (s':={s' with heap:=h'}) I3 jos un' (hok'.but hC hs'.extBut) J.bare λb hb=>⟨(f3 b hb).2.2.2.1,(f3 b hb).2.1,(f3 b hb).2.2.2.2.1,(f3 b hb).2.2.2.2.2⟩
  have nsC:∃m,s'.heap.Ns s3.heap.objs.size m:=by
   obtain⟨m,hn,_⟩:=J.loc;rw[eEnv]at hn;exact⟨m,hn⟩
  exact hQ D s3.heap.objs.size s' H' (ZM I3.lt) (mU s'.heap (.refl ..)) mU q nsC I3.lt
   ⟨hC,λx c e=>by obtain⟨v,o,ho,_⟩:=I3.cell x c e;exact WI (Wl ho),λp hp=>WI (Wl (I3.pin p hp).1)⟩
 have loop:∀s4:M6,s4=({s3 with heap:=h₁}:M6)->
  NS (MK X.prog X.w) X.A (.compLoop (.ListComp elt [⟨tg,iter,ifs,0⟩] scope pos) 0 (.ref it) (.ref D) X'.env) (compPost (MK X.prog X.w) X.A X.xe use Q' (.ref D) s3.heap.objs.size) s4:=by
  rintro s4 rfl;refine NV (λn s'=>∃i H',af X' [] (bK k fr U) H' s'/\tn i s'.heap/\(∀b∈fp,H' b=none)/\W i n H') ?_ m0 ⟨0,_,I4,st4,λb hb=>(f3 b hb).1,w0⟩;rintro n s5 ⟨i,H5,I5,st5,fr5,w5⟩;rcases turn i n H5 w5 with⟨stop,qn⟩|⟨go,step⟩
  ·have:=T.done X' eP eW eK eC i [] s5 _ H5 (λ_ _=>False) I5 (fpx fr5) st5 stop;rw[eA]at this;refine aA this λr s6 ⟨hr,I6⟩=>?_;subst hr;exact fin s6 H5 _ I6 qn
  ·have:=T.item X' eP eW eK eC i [] s5 _ H5 (λ_ _=>False) I5 (fpx fr5) st5 go;rw[eA]at this;refine aA this λr s6 ⟨u,hr,h6⟩=>?_;subst hr;refine aA h6 λ_ s7 ⟨x,H7,I7,r7,y7,st7,fr7⟩=>?_;have I7':=I7.pinned (fpx fr7) (T.obj _ _ st7);have h8:=hg' _ s7 _ H7 x u _ I7' r7 (step x H7 y7);rw[eP,eW,eA,eE]at h8;refine aA h8 λ_ s8 ⟨σ8,H8,I8,kp,q8⟩=>?_;have h9:=hf' _ s8 σ8 H8 _ I8 q8;rw[eP,eW,eA,eE]at h9;have again:∀{s9:M6}{H9:Hp}{n':Nat},af X' ([]++vh fp s7.heap) σ8 H9 s9->n' < n->W (i+1) n' H9->∃m,m < n/\∃i H',af X' [] (bK k fr U) H' s9/\tn i s9.heap/\(∀b∈fp,H' b=none)/\W i m H':=λ{s9 H9 n'} I9 hn' w9=>by
    refine⟨n',hn',i+1,H9,I9.unpinned.weak kp.1 kp.2,T.keep _ _ _ st7 λb hb o e=>(I9.pin (b,o) (Xz _ (Xz _ (wm hb e)))).1,λb hb=>?_,w9⟩;obtain⟨o,e,d⟩:=T.obj _ _ st7 b hb;exact(I9.pin (b,o) (Xz _ (Xz _ (wm hb e)))).2.1
   refine aA h9 λok s9 ⟨H9,I9,q9⟩=>?_;cases ok with
   |false=>
    rw[M4 We]at q9;obtain⟨m',hm',w9⟩:=q9;rw[M4 We];exact again I9 hm' w9
   |true=>
    rw[M8 rfl]at q9;rw[M8 rfl];have h10:=he' _ s9 σ8 H9 _ I9 q9;rw[eP,eW,eA,eE]at h10;refine aA h10 λy s10 ⟨yv,H10,I10,r10,ys,hys,hz,m',hm',w10⟩=>?_;have h11:=FN (X:=X') _ s10 σ8 H10 (.ref D) [yv] (.ref D) [y] (λ_ H'=>W (i+1) m' H') I10 rfl (.cons r10 .nil) ⟨D,ys,yv,rfl,rfl,hys,hz,w10⟩;rw[eP,eW,eA,eE]at h11;exact aA h11 λ_ s11 uu=>by obtain⟨_,H11,I11,_,q11⟩:=uu;exact again I11 hm' q11
 have hE:({newEnv scope s3.heap.objs.size X.env.globals (wM X scope s3.heap.objs.size) X.env.qual none .none (some X.env) builtinsNs with scope:=relabel scope X.env}:Env)=X'.env:=by
  rw[eEnv];rfl
 have goal:=codeAny_compStart_list (elt:=elt) (target:=tg) (iter:=iter) (ifs:=ifs) (rest:=[]) (scope:=scope) (pos:=pos) (loop _ rfl) (T.self X.A 0 _ _ _ st4 (loop _ rfl));rw[<-hE]at goal;exact goal
theorem t9(hc:X.calm=true)(S:aU X.env.scope X.N N' k fr scope)(hi:PI X tg iter wi)
 (hg:∀fp C s H,PG (bG X scope N' fp C s H) tg g)(hf:∀fp C s H,nv (bG X scope N' fp C s H) ifs tc)(he:∀fp C s H,PE (bG X scope N' fp C s H) elt te)
 (hs:∀x,NO iter X.env x=pure x:=by intro _;rfl):PE X (.ListComp elt [⟨tg,iter,ifs,0⟩] scope pos) (rV wi g tc te k fr):=by
 intro aeK s U H Q I h;have hcell:∀y∈scope.names,y.2= .free->∃c,X.env.cells.lookup y.1=some c:=λy hy e=>I.ok.has y.1 (S.outer y hy e);rw[eval_ListComp];refine Sq (use:=none) rfl hs (FQ hcell) S.kind S.names (FW hc S hi hg hf he I h ?_);intro D C s' H' hC J mU q ns hlt _;obtain⟨m,hn⟩:=ns;exact⟨m,hn,λh' hs'=>⟨.ref D,H',mU h' hs',rfl,q⟩⟩
theorem adZ{pos' spos:Pos}(hN:X.N.Nodup)(hxi:X.N[i]?=some x)(hx:oR X.env.scope x)(hc:X.calm=true)(S:aU X.env.scope X.N N' k fr scope)(hi:PI X tg iter wi)
 (hg:∀fp C s H,PG (bG X scope N' fp C s H) tg g)(hf:∀fp C s H,nv (bG X scope N' fp C s H) ifs tc)(he:∀fp C s H,PE (bG X scope N' fp C s H) elt te)
 (hsw:N3 (.ListComp elt [⟨tg,iter,ifs,0⟩] scope pos) (some (.Name x pos')) spos.line X.env=pure true)
 (hs:∀x,NO iter X.env x=pure x:=by intro _;rfl)(hfn:X.fn x=true\/X.env.scope.names.lookup x=some .local:=by first|exact .inl rfl|exact .inr rfl|assumption):
 PS X (.Assign [.Name x pos'] (.ListComp elt [⟨tg,iter,ifs,0⟩] scope pos) spos) (vb (rV wi g tc te k fr) (oF i)):=by
 intro aeK s U H D I h;have hcell:∀y∈scope.names,y.2= .free->∃c,X.env.cells.lookup y.1=some c:=λy hy e=>I.ok.has y.1 (S.outer y hy e);rw[exec_Assign_Name_used _ _ _ _ hsw];refine M5 (wpAny_standAt (M5 ?_));show MD _ X.A (do let _<-comprehension (.ListComp elt [⟨tg,iter,ifs,0⟩] scope pos) scope X.env _ (newList []) false (eval iter X.env) (some (assign (.Name x pos') X.env))) _ _ s;refine M5 (NB (Sq (use:=some (assign (.Name x pos') X.env)) (Q:=λ_ s'=>∃U' H',af X aeK U' H' s'/\D.nx U' H') rfl hs (FQ hcell) S.kind S.names (FW hc S hi hg hf he I h ?_)) (λ_ s' hq=>MO (MO hq)) λ_ _ e=>e);intro D' C s' H' hC J mU q ns hlt ⟨c1,c2,c3⟩;obtain⟨m,hn⟩:=ns;show MD _ X.A (assign (.Name x pos') X.env (.ref D')) _ _ _;refine wpAny_assign_Name (Ez J hN hxi hx (v:= .ref D') rfl (λs2 J2 sb=>?_) hfn);obtain⟨a,sb,ha⟩:=sb;have hCa:C≠a:=by
  rcases ha with z|z
  ·rw[z];exact hC
  ·exact Ne.symm (c2 _ _ z)
 refine⟨m,hn.sameBut sb hCa,λh3 hs3=>⟨_,H',?_,q⟩⟩;exact J2.turned (t':=s2.toks) hs3.extBut c1 hC (.inr (Wy J.ok.above (YT hlt))) c2 c3
theorem NZ:bR X (O5 .Mult) (rI IntMulOk λi j=>.int (i*j)):=vj λ_ _ _ _ _ _ _ hc q=>mul_int q hc
theorem FX(hc:X.calm=true):l6 X (.builtin "sum") (λxs H Q=>∃(a:L9)(ns:List Int),xs=[.ref a]/\bb X.K H a (ns.map V.int)/\Q (.int ns.sum) H):=by
 intro aeK s U H xs us Q I r h;obtain⟨a,ns,rfl,hl,q⟩:=h;obtain⟨u,rfl,rx⟩:=mH r;cases rx;obtain⟨its,rv,p,hz⟩:=I.list hl;have hi:N2 its ns:=Nj rv;have hall:AllInts its.toArray:=hi.allInts;obtain⟨ys,hys⟩:=hall.items;have hn:numsOf its.toArray.toList=ns:=by rw[show its.toArray.toList=its from rfl,hi.numsOf]
 rw[hys,nums_intItems]at hn;have hl':=p.isList;rw[hys]at hl';refine sum_intListG (I.ok.hd hc) hl' λh' tk t' hk=>?_;refine⟨.int ns.sum,H,I.kept hk,⟨t',?_⟩,q⟩;rw[preSum_eq,WU MC,hn]
end L2
namespace Att
open PySem PySem.W PySem.Calls PyProof.Rows
theorem adg{ns:List Int}(h:Ss [PV (ns.map Zl)]=true):∀n∈ns,XT n<=1048576:=by
 have h1:(PV (ns.map Zl)).layable=true:=by simpa [Ss]using h
 have h2:(PV (ns.map Zl)).weight<=1048576:=(PySem.W.layableW_iff.mp h1).2.2;have key:∀l:List Int,∀n∈l,XT n<=ZG (l.map Zl):=by
  intro l
  induction l with
  |nil=>intro n hn;simp at hn
  |cons x r ih=>
   intro n hn;have e:ZG ((x::r).map Zl)=XT x+1+ZG (r.map Zl):=by
    rw[V2,ZG,Vp];rfl
   rw[e];rcases Wc.mp hn with z|z
   ·subst z;omega
   ·have:=ih n z;omega
 intro n hn;have e:(PV (ns.map Zl)).weight=ZG (ns.map Zl):=by rw[Vp]
 rw[e]at h2;exact Wy (key ns n hn) h2
theorem attach_callB{l:OpenLaw}{YP:Mp->Md->Prop}{d:DefRec}
 (hn:l.most=some n)(hdf:d.params.defaults=[])
 (NC:∀(w:Mp) (s₀ s₁:M6) (mg mb:Str->Option M3) (fa:L9) (o:Obj) (pm cd doc:M3) (a:L9) (vs:List M3) (ns:List Int),
  Ground q loose [] XP w s₀ mg mb s₁.heap->YP w s₁.heap->
  s₁.heap.get? fa=some o->o.data= .func (docDef d.name d.params d.body d.scope pm cd doc)->s₁.heap.CodeRec cd d.name->mg d.name=some (.ref fa)->
  s₁.heap.get? a=some {cls:= .type "list",data:= .seq vs.toArray}->N2 vs ns->ns.length<=n->(∀z∈ns,XT z<=1048576)->s₁.gens=#[]->
  NS (MK l.prog w) callerA (.call (.ref fa) ⟨[.ref a],[]⟩) (λr s'=>r= .ok (.ret (.bool true))/\OldK s₁.heap s'.heap/\s'.os=s₁.os/\OH s'.gens) s₁):
 WalkO q loose XP YP l.row.toRowW d [] (λf vs=>RP f vs):=by
 intro w s₀ s₁ mg mb G Y fa o pm cd doc dV kV ho hd hcd hD hmg hg args vals as hpre hlay hrd hwl hlo;obtain rfl:dV= .none:=Dflts.none hD hdf;obtain rfl:kV= .none:=Dflts.noKw hD;obtain⟨a,vs,ns,rfl,rfl,hobj,hints,hlen⟩:=adA hn hpre hwl;have hb:∀z∈ns,XT z<=1048576:=adg hlay;refine enter_call (OS (NC w s₀ s₁ mg mb fa o pm cd doc a vs ns G Y ho (fd_plain hd) hcd hmg hobj hints hlen hb hg) λr s' hq=>?_);obtain⟨rfl,h2,h3,h4⟩:=hq;exact⟨.inl ⟨.bool true,.bool true,[],rfl,λ_=>rfl,.bool true,adE l _,λ_=>⟨List.Pairwise.nil,λ_ hm=>(nomatch hm)⟩⟩,h2,h3,h4⟩
end Att
namespace L2
open PySem PySem.Spec PyProof.Rows
theorem N1{l:SR}{YP:Mp->Md->Prop}{d:DefRec}{Z:Params->VZ}{CX:Mp->nk}{sp:Mp->Sp}
 (hn:l.most=some n)(hn2:n<=MT)(hdf:d.params.defaults=[])(hr:bf k callerA)
 (hY:∀(w:Mp) (h:Md),YP w h->(Z w.params).In h)
 (F:∀(w:Mp) (mg:Str->Option M3) (fa:L9) (h:Md),(Z w.params).In h->h.Ns Mt mg->mg d.name=some (.ref fa)->
  ∃fd:MZ,(∀(s:M6) (u:M3),BindsTo s fd ⟨[u],[]⟩ [(x,u)])/\
   ∀base:Md,(Z w.params).In base->base.Ns Mt mg->aB l.prog w (Z w.params) mg base (CX w) k fa fd [x] (sp w))
 (hsp:∀(w:Mp) (H:Hp) (a:L9) (ns:List Int),ns.length<=n->(∀z∈ns,XT z<=1048576)->wK H->bb (Z w.params) H a (ns.map V.int)->sp w [.ref a] H (λv _=>v= .bl true) λ_ _ _=>False)
 (hCX:∀(w:Mp) (H:Hp) (s:M6) (e:M3) (s':M6),CX w [] H s (λ_ _ _=>False) e s'->False):
 UU q loose XP YP l.row.toRowW d [] (λf vs=>RP f vs):=by
 refine Att.attach_callB hn hdf λw s₀ s₁ mg mb fa o pm cd doc a vs ns G Y ho hd hcd hmg hobj hints hlen hb hg=>?_;have KX:=hY w _ Y;obtain⟨fd,hbi,hF⟩:=F w mg fa _ KX G.T.g hmg;exact adJ KX G.T.g G.T.b G.T.builtins G.T.nolimit hg hobj hints (Wy hlen hn2) hr hF hbi (λH hO hS=>hsp w H a ns hlen hb hO hS) λH e s'=>hCX w H s₁ e s'
theorem walk_ofBK{l:SR}{YP:Mp->Md->Prop}{d:DefRec}{Z:Params->VZ}{sp:VZ->Sp}
 (hn:l.most=some n)(hn2:n<=MT)(hdf:d.params.defaults=[])(hr:bf k callerA)
 (hY:∀(w:Mp) (h:Md),YP w h->(Z w.params).In h)
 (F:∀(w:Mp) (mg:Str->Option M3) (fa:L9) (h:Md),(Z w.params).In h->h.Ns Mt mg->mg d.name=some (.ref fa)->
  ∃fd:MZ,(∀(s:M6) (u:M3),BindsTo s fd ⟨[u],[]⟩ [(x,u)])/\
   ∀base:Md,(Z w.params).In base->base.Ns Mt mg->aB l.prog w (Z w.params) mg base CX k fa fd [x] (sp (Z w.params)))
 (hsp:∀(Z:VZ) (H:Hp) (a:L9) (ns:List Int),ns.length<=n->(∀z∈ns,XT z<=1048576)->wK H->bb Z H a (ns.map V.int)->sp Z [.ref a] H (λv _=>v= .bl true) λ_ _ _=>False)
 (hCX:∀(H:Hp) (s:M6) (e:M3) (s':M6),CX [] H s (λ_ _ _=>False) e s'->False):
 UU q loose XP YP l.row.toRowW d [] (λf vs=>RP f vs):=
 N1 (Z:=Z) (CX:=λ_=>CX) (sp:=λw=>sp (Z w.params)) hn hn2 hdf hr hY F (λw H a ns h1 hb h2 h3=>hsp (Z w.params) H a ns h1 hb h2 h3) λ_ H s e s'=>hCX H s e s'
def uc(p:L9)(H H':Hp):Prop:=∀b o,H b=some o->b≠p->H' b=some o
theorem av.new{H:Hp}(h:H p=none):av H (ai H p o):=λb u e=>by rw[ar (lQ e h)];exact e
def FR(J:It)(g:TG)(tb:TS)(D:qZ)(U:St)(H1:Hp):Prop:=∃W:Nat->Nat->St->Hp->Prop,(∃m,W 0 m U H1)/\∀i m U H,W i m U H->
 (J.stop i H/\D.nx U H)\/(J.go i H/\∃N:St->Hp->Prop,(∀U' H',N U' H'->∃m',m' < m/\W (i+1) m' U' H')/\∀x H',J.yld i H x H'->g x U H' λσ2 H2=>tb {D with nx:=N,ct:=N,bk:=D.nx} σ2 H2)
theorem adu:vg (Ba ta) g tb=λD U H=>ta U H λvs H1=>∃j:Int,vs=[.int j]/\-(2 ^ 62)<=j/\j < 2 ^ 62/\FR (qv 0 j.toNat) g tb D U H1:=rfl
theorem adp:vg (Bb ta) g tb=λD U H=>ta U H λvs H1=>∃i j:Int,vs=[.int i,.int j]/\(-(2 ^ 62)<=i/\i < 2 ^ 62/\-(2 ^ 62)<=j/\j < 2 ^ 62)/\FR (qv i (j - i).toNat) g tb D U H1:=rfl
theorem ac9:vg (A7 Z tl) g tb=λD U H=>tl U H λx H1=>∃a,x= .ref a/\(∃xs,bb Z H1 a xs)/\FR (tZ Z a) g tb D U H1:=rfl
theorem N5:vg (A8 Z tl) g tb=λD U H=>tl U H λx H1=>∃a,x= .ref a/\(∃xs,bo Z H1 a xs)/\FR (vd Z a) g tb D U H1:=rfl
def sS(J:It)(g:TG)(tc:TT)(te:TE)(k:Nat)(fr:List Nat)(U:St)(H1:Hp)(Q:VK):Prop:=∀D,H1 D=none->∃W:Nat->Nat->Hp->Prop,(∃m,W 0 m (ai H1 D (.lst [])))/\∀i m H,W i m H->
 (J.stop i H/\Q (.ref D) H)\/(J.go i H/\∀x H',J.yld i H x H'->g x (bK k fr U) H' λσ2 H2=>rT (bK k fr U) σ2/\tc σ2 H2 λok H3=>
  if ok=true then te σ2 H3 λy H4=>∃ys,H4 D=some (.lst ys)/\ys.length < MT/\∃m',m' < m/\W (i+1) m' (ai H4 D (.lst (ys++[y])))
  else ∃m',m' < m/\W (i+1) m' H3)
theorem adl:rV (Ba ta) g tc te k fr=λU H Q=>ta U H λvs H1=>∃j:Int,vs=[.int j]/\-(2 ^ 62)<=j/\j < 2 ^ 62/\sS (qv 0 j.toNat) g tc te k fr U H1 Q:=rfl
theorem N7:rV (Bb ta) g tc te k fr=λU H Q=>ta U H λvs H1=>∃i j:Int,vs=[.int i,.int j]/\(-(2 ^ 62)<=i/\i < 2 ^ 62/\-(2 ^ 62)<=j/\j < 2 ^ 62)/\sS (qv i (j - i).toNat) g tc te k fr U H1 Q:=rfl
theorem N8:rV (A7 Z tl) g tc te k fr=λU H Q=>tl U H λx H1=>∃a,x= .ref a/\(∃xs,bb Z H1 a xs)/\sS (tZ Z a) g tc te k fr U H1 Q:=rfl
theorem adm:rV (A8 Z tl) g tc te k fr=λU H Q=>tl U H λx H1=>∃a,x= .ref a/\(∃xs,bo Z H1 a xs)/\sS (vd Z a) g tc te k fr U H1 Q:=rfl
theorem FY:rT (bK 1 fr U) ((bK 1 fr U).set 0 v):=by
 refine⟨MC,λi w h=>?_⟩;cases i with
 |zero=>simp[bK,Wj]at h
 |succ i=>simpa [bK,Wj]using h
theorem aeh{lo:Int}{n:Nat}{te:TE}{fr:List Nat}{U:St}{Q:VK}(f:Nat->V)(hn:n<=1000000)
 (ht:∀(i:Nat) (H':Hp) (R:VK),i < n->av H H'->(∀H'',av H' H''->R (f i) H'')->te ((bK 1 fr U).set 0 (some (.int (lo+i)))) H' R)
 (hq:∀D H',H D=none->av H H'->H' D=some (.lst ((XB n).map f))->Q (.ref D) H'):sS (qv lo n) (oF 0) FU te 1 fr U H Q:=by
 intro D hD;refine⟨λi m H'=>m=n - i/\i<=n/\av H H'/\H' D=some (.lst ((XB i).map f)),⟨n,MC,Xe _,av.new hD,by rw[aV];rfl⟩,?_⟩;rintro i m H1 ⟨rfl,hi,s1,e1⟩;by_cases hlt:i < n
 ·refine .inr ⟨hlt,λx H' y=>?_⟩;obtain⟨e,y⟩:=y;subst e y;refine⟨FY,?_⟩;show te _ _ _;refine ht i H' _ hlt s1 λH2 s2=>?_;refine⟨_,s2 D _ e1,?_,n - (i+1),L8,rfl,hlt,?_,?_⟩
  ·rw[V0,YX,My];omega
  ·exact λb o h=>by rw[ar (lQ h hD)];exact s2 b o (s1 b o h)
  ·rw[aV,QB,Ww];rfl
 ·have e:i=n:=L8
  subst e;exact .inl ⟨V4 _,hq D H1 hD s1 e1⟩
theorem WQ:(pR CX P w Z mg base N qual scope f cd A outer s H E).K=Z:=rfl
theorem cmK:(bG X scope N' fp C s H).K=X.K:=rfl
theorem FZ{Q:VK}(h:bb Z H p xs)(hv:atI xs i=some v)(q:Q v H):Bo Z (.ref p) (.int i) H Q:=⟨p,xs,i,v,rfl,rfl,h,hv,q⟩
theorem qA{Q:VK}(h:bo Z H p xs)(hv:atI xs i=some v)(q:Q v H):wJ Z (.ref p) (.int i) H Q:=⟨p,xs,i,v,rfl,rfl,h,hv,q⟩
theorem vt{α:Type}{xs:List α}{i:Int}(h0:0<=i)(h1:i < xs.length):∃v,atI xs i=some v/\v∈xs:=by
 obtain⟨j,rfl⟩:=Zi h0;have hj:j < xs.length:=L8
 exact⟨xs[j],rS (by simp[hj]),Yp hj⟩
theorem F0{a b:Int}:(if b < a then b else a)=min a b:=by
 by_cases h:b < a
 ·rw[M8 h];omega
 ·rw[M4 h];omega
theorem aeg:N6 "divmod"=some (.builtin "divmod"):=MN
theorem F1:N6 "isinstance"=some (.builtin "isinstance"):=MN
theorem wN:N6 "int"=some (.type "int"):=MN
theorem ny:N6 "tuple"=some (.type "tuple"):=MN
theorem adP:N6 "list"=some (.type "list"):=MN
theorem Od:N6 "dict"=some (.type "dict"):=MN
open PySem PySem.Spec PyProof.Rows PySem.W
theorem F2{bs:List Bool}(r:aF (bs.map V.bl) its):its=bs.map Y3:=by
 induction bs generalizing its with
 |nil=>cases r;rfl
 |cons b bs ih=>
  rw[V2]at r;cases r with
  |cons r1 r2=>
   rw[V2,<-ih r2];exact congrArg (·::_) r1
theorem aea(bs:List Bool)(f:Nat->Bool)(h:∀i,i < bs.length->f i=bs.getD i true):(XB bs.length).all f=bs.all id:=by
 rw[Y6,Zy,Zy];constructor
 ·intro z b hb;obtain⟨i,hi,e⟩:=ZF hb;have:=z i (Ze.mpr hi);rw[h i hi,YM,WE hi]at this;rw[<-e];exact this
 ·intro z i hi;have hi:=Ze.mp hi;rw[h i hi,YM,WE hi];exact z _ (Yp hi)
theorem adz(bs:List Bool)(f:Nat->Bool)(h:∀i,i < bs.length->f i=bs.getD i true):(XB bs.length).any f=bs.any id:=by
 rw[Y6,Yq,Yq];constructor
 ·rintro⟨i,hi,z⟩;have hi:=Ze.mp hi;rw[h i hi,YM,WE hi]at z;exact⟨_,Yp hi,z⟩
 ·rintro⟨b,hb,z⟩;obtain⟨i,hi,e⟩:=ZF hb;refine⟨i,Ze.mpr hi,?_⟩;rw[h i hi,YM,WE hi];show bs[i]=true;rw[e];exact z
theorem F3{bs:List Bool}{i:Nat}{v:M3}(h:(bs.map Y3).toArray[i]?=some v):v= .bool (bs.getD i true):=by
 have h':(bs.map Y3)[i]?=some v:=by simpa using h
 rw[Wm]at h';cases e:bs[i]? with
 |none=>rw[e]at h';cases h'
 |some b=>
  rw[e]at h';rw[YM,e];exact(Xt h').symm
theorem F4{s:M6}{Q:M3->M6->Prop}(hl:s.heap.IsList l items)
 (h:∀s₂:M6,s₂={s with heap:=s.heap.push {cls:= .type "list_iterator",data:= .fields #[.ref l,.int 0 0]}}->
  (s₂.heap.IsListIter s.heap.objs.size l 0/\s₂.heap.IsList l items)->l≠s.heap.objs.size->Q (.ref s.heap.objs.size) s₂):MD (MK prog w) A (pyIter (.ref l)) Q E s:=by
 have hlt:l < s.heap.objs.size:=by obtain⟨_,e,_⟩:=hl;exact Wl e
 exact QP hl (h _ rfl ⟨⟨_,Wv _ rfl,rfl,rfl⟩,hl.push _⟩ (WI hlt))
theorem ael(hc:X.calm=true):l6 X (.builtin "all") (λxs H Q=>∃(a:L9)(bs:List Bool),xs=[.ref a]/\bb X.K H a (bs.map V.bl)/\Q (.bl (bs.all id)) H):=by
 intro aeK s U H xs us Q I r h;obtain⟨a,bs,rfl,hl,q⟩:=h;obtain⟨u,rfl,rx⟩:=mH r;cases rx;obtain⟨its,rv,p,hz⟩:=I.list hl;have hi:=F2 rv;subst hi;refine call_all_walk (F4 p.isList λs₂ e st hlI=>?_);subst e;refine⟨_,_,_,_,_,_,λi=>bs.getD i true,rfl,PR (A:=X.A.in1) (I.ok.hd hc) _ a hlI _,st,λi v s' Q' E' hP hq=>by rw[F3 hP];exact Nu hq,λh' tk hk=>?_⟩;have e:=aea bs (λi=>bs.getD i true) λ_ _=>rfl;have e2:(X3 Y3 bs).toArray.size=bs.length:=MC
 rw[e2,e];exact⟨.bl (bs.all id),H,I.kept (old_kept hk),rfl,q⟩
theorem Bz(hc:X.calm=true):l6 X (.builtin "any") (λxs H Q=>∃(a:L9)(bs:List Bool),xs=[.ref a]/\bb X.K H a (bs.map V.bl)/\Q (.bl (bs.any id)) H):=by
 intro aeK s U H xs us Q I r h;obtain⟨a,bs,rfl,hl,q⟩:=h;obtain⟨u,rfl,rx⟩:=mH r;cases rx;obtain⟨its,rv,p,hz⟩:=I.list hl;have hi:=F2 rv;subst hi;refine call_any_walk (F4 p.isList λs₂ e st hlI=>?_);subst e;refine⟨_,_,_,_,_,_,λi=>bs.getD i true,rfl,PR (A:=X.A.in1) (I.ok.hd hc) _ a hlI _,st,λi v s' Q' E' hP hq=>by rw[F3 hP];exact Nu hq,λh' tk hk=>?_⟩;have e:=adz bs (λi=>bs.getD i true) λ_ _=>rfl;have e2:(X3 Y3 bs).toArray.size=bs.length:=MC
 rw[e2,e];exact⟨.bl (bs.any id),H,I.kept (old_kept hk),rfl,q⟩
open PySem PySem.Spec PyProof.Rows PySem.W PySem.Calls PySem.Builtin.ObjectAttr PySem.Builtin PySem.Builtin.Getset_descriptor
abbrev bP(d:L7):Prop:=ZQ d=true
theorem aek:N6 "all"=some (.builtin "all"):=MN
theorem BA:N6 "any"=some (.builtin "any"):=MN
def adM(p:L9)(h:Md):Prop:=∃(n:Int)(t:Tok)(k:Nat),h.get? p=some {cls:= .type "list",data:= .seq #[.int n t] k}
abbrev rB(p:L9):HO:= .ext (adM p)
abbrev pV:L7:= .dict [(.none,.none)]
def rzS(p:L9)(h:Md):Prop:=∃(a b c:Int)(t u v:Tok)(k:Nat),h.get? p=some {cls:= .type "list",data:= .seq #[.int a t,.int b u,.int c v] k}
abbrev adO(p:L9):HO:= .ext (rzS p)
abbrev Om:L7:= .dict [(.none,.bool true)]
abbrev oU(ds:List L7):L7:= .dict [(.none,.list ds)]
abbrev nL(C:L9)(kp ds:List L7):L7:= .dict [(.none,.tuple [.int (C:Int),.list kp,.list ds])]
abbrev F5(kp ds:List L7):L7:= .dict [(.bool true,.tuple [.list kp,.list ds])]
abbrev Ex:=L9->Prop
abbrev wO:Hp:=λ_=>none
mutual
inductive Dt(Z:VZ)(H:Hp)(O:Ex):V->L7->Prop
 |non:Dt Z H O .non .none
 |bl (b:Bool):Dt Z H O (.bl b) (.bool b)
 |int (i:Int):Dt Z H O (.int i) (.int i)
 |str (x:Str):Dt Z H O (.str x) (.str x)
 |tup {a:L9} {xs:List V} {ds:List L7}:Rd H a (.tup xs)->¬O a->ak Z H O xs ds->Dt Z H O (.ref a) (.tuple ds)
 |tupK {a:L9} {xs:List V} {ds:List L7}:bo Z wO a xs->ak Z H O xs ds->Dt Z H O (.ref a) (.tuple ds)
 |lst {a:L9} {xs:List V} {ds:List L7}:Rd H a (.lst xs)->¬O a->ak Z H O xs ds->Dt Z H O (.ref a) (.list ds)
 |pack {p:L9}:H p=some (rB p)->¬O p->Dt Z H O (.ref p) pV
 |purse {p:L9}:H p=some (adO p)->¬O p->Dt Z H O (.ref p) Om
 |dct0 {a:L9}:H a=some (.dK [])->¬O a->Dt Z H O (.ref a) (.dict [])
 |obj {a C dx:L9} {fs:List (Str×V)} {kp ds:List L7}:H a=some (.ins C dx fs)->kp=fs.map (λp=>V8 p.1)->¬O a->ak Z H O (fs.map (·.2)) ds->Dt Z H O (.ref a) (nL C kp ds)
 |dic {a:L9} {ob:Obj} {kv:List (aj×V)} {ks:List Str} {kp ds:List L7}:H a=some (.frz ob (.dK kv))->kv.map (·.1)=ks.map X6->kp=ks.map V8->¬O a->ak Z H O (kv.map (·.2)) ds->Dt Z H O (.ref a) (F5 kp ds)
 |scr {a:L9} {xs:List V} {ds:List L7}:(Rd H a (.lst xs)/\¬O a)\/bb Z wO a xs->ak Z H O xs ds->Dt Z H O (.ref a) (oU ds)
inductive ak(Z:VZ)(H:Hp)(O:Ex):List V->List L7->Prop
 |nil:ak Z H O [] []
 |cons {v:V} {d:L7} {vs:List V} {ds:List L7}:Dt Z H O v d->ak Z H O vs ds->ak Z H O (v::vs) (d::ds)
end
theorem Rd.same{H H':Hp}(s:∀o,H a=some o->H' a=some o)(h:Rd H a u):Rd H' a u:=by
 rcases h with h|⟨o,h⟩
 ·exact .inl (s _ h)
 ·exact .inr ⟨o,s _ h⟩
theorem Rd.trk(h:Rd H a u):H a≠none:=by
 rcases h with h|⟨o,h⟩<;>rw[h]<;>exact λz=>nomatch z
section
variable{Z:VZ}
structure aO (H H':Hp) (O O':Ex):Prop where
 keep:∀b o,H b=some o->¬O b->H' b=some o
 out:∀b,H b≠none->¬O b->¬O' b
mutual
theorem Dt.step{H H':Hp}{O O':Ex}(S:aO H H' O O'):∀{v:V}{d:L7},Dt Z H O v d->Dt Z H' O' v d
 |_,_,.non=>.non
 |_,_,.bl b=>.bl b
 |_,_,.int i=>.int i
 |_,_,.str x=>.str x
 |_,_,.tup h n r=>.tup (h.same λo e=>S.keep _ o e n) (S.out _ h.trk n) (ak.step S r)
 |_,_,.tupK h r=>.tupK h (ak.step S r)
 |_,_,.lst h n r=>.lst (h.same λo e=>S.keep _ o e n) (S.out _ h.trk n) (ak.step S r)
 |_,_,.pack h n=>.pack (S.keep _ _ h n) (S.out _ (by rw[h];exact λz=>nomatch z) n)
 |_,_,.purse h n=>.purse (S.keep _ _ h n) (S.out _ (by rw[h];exact λz=>nomatch z) n)
 |_,_,.dct0 h n=>.dct0 (S.keep _ _ h n) (S.out _ (by rw[h];exact λz=>nomatch z) n)
 |_,_,.obj h e n r=>.obj (S.keep _ _ h n) e (S.out _ (by rw[h];exact λz=>nomatch z) n) (ak.step S r)
 |_,_,.dic h e1 e2 n r=>.dic (S.keep _ _ h n) e1 e2 (S.out _ (by rw[h];exact λz=>nomatch z) n) (ak.step S r)
 |_,_,.scr h r=>.scr (h.imp (λh=>⟨h.1.same λo e=>S.keep _ o e h.2,S.out _ h.1.trk h.2⟩) id) (ak.step S r)
theorem ak.step{H H':Hp}{O O':Ex}(S:aO H H' O O'):∀{vs:List V}{ds:List L7},ak Z H O vs ds->ak Z H' O' vs ds
 |_,_,.nil=>.nil
 |_,_,.cons h r=>.cons (Dt.step S h) (ak.step S r)
end
theorem aO.same{H H':Hp}{O:Ex}(s:av H H'):aO H H' O O:=⟨λb o e _=>s b o e,λ_ _ n=>n⟩
theorem Dt.mono{H H':Hp}{O:Ex}{v:V}{d:L7}(s:av H H')(h:Dt Z H O v d):Dt Z H' O v d:=h.step (.same s)
theorem ak.mono{H H':Hp}{O:Ex}{v:List V}{d:List L7}(s:av H H')(h:ak Z H O v d):ak Z H' O v d:=h.step (.same s)
theorem ak.length{H:Hp}{O:Ex}:∀{vs:List V}{ds:List L7},ak Z H O vs ds->vs.length=ds.length
 |_,_,.nil=>rfl
 |_,_,.cons _ r=>by rw[V5,V5,ak.length r]
theorem ak.get{H:Hp}{O:Ex}:∀{vs:List V}{ds:List L7}{i:Nat}{v:V},ak Z H O vs ds->vs[i]?=some v->∃d,ds[i]?=some d/\Dt Z H O v d
 |_,_,_,_,.nil,e=>by simp at e
 |_,_,0,_,.cons h _,e=>by simp at e;subst e;exact⟨_,rfl,h⟩
 |_,_,i+1,_,.cons _ r,e=>by simpa using ak.get (i:=i) r (by simpa using e)
theorem ak.getD{H:Hp}{O:Ex}:∀{vs:List V}{ds:List L7}{i:Nat}{d:L7},ak Z H O vs ds->ds[i]?=some d->∃v,vs[i]?=some v/\Dt Z H O v d
 |_,_,_,_,.nil,e=>by simp at e
 |_,_,0,_,.cons h _,e=>by simp at e;subst e;exact⟨_,rfl,h⟩
 |_,_,i+1,_,.cons _ r,e=>by simpa using ak.getD (i:=i) r (by simpa using e)
theorem ak.append{H:Hp}{O:Ex}:∀{vs ws:List V}{ds es:List L7},ak Z H O vs ds->ak Z H O ws es->ak Z H O (vs++ws) (ds++es)
 |_,_,_,_,.nil,s=>s
 |_,_,_,_,.cons h r,s=>.cons h (ak.append r s)
theorem ak.take{H:Hp}{O:Ex}:∀{vs:List V}{ds:List L7}(n:Nat),ak Z H O vs ds->ak Z H O (vs.take n) (ds.take n)
 |_,_,0,_=>.nil
 |_,_,_+1,.nil=>.nil
 |_,_,n+1,.cons h r=>.cons h (ak.take n r)
theorem ak.drop{H:Hp}{O:Ex}:∀{vs:List V}{ds:List L7}(n:Nat),ak Z H O vs ds->ak Z H O (vs.drop n) (ds.drop n)
 |_,_,0,r=>r
 |_,_,_+1,.nil=>.nil
 |_,_,n+1,.cons _ r=>ak.drop n r
theorem ak.ints{H:Hp}{O:Ex}:∀(ns:List Int),ak Z H O (ns.map V.int) (ns.map Wa)
 | []=>.nil
 |n::r=>.cons (.int n) (ak.ints r)
inductive Sh(Z:VZ)(H:Hp)(O:Ex):V->L7->Prop
 |dt {v:V} {d:L7}:Dt Z H O v d->Sh Z H O v d
 |own {l:L9} {vs:List V} {ds:List L7}:H l=some (.lst vs)->ak Z H O vs ds->Sh Z H O (.ref l) (.list ds)
theorem Sh.mono(s:av H H'):Sh Z H O v d->Sh Z H' O v d
 | .dt h=>.dt (h.mono s)
 | .own h r=>.own (s _ _ h) (r.mono s)
theorem Dt.all{H:Hp}{O:Ex}{v:V}{d:L7}(h:Dt Z H O v d):Dt Z H (λ_=>False) v d:=h.step ⟨λ_ _ e _=>e,λ_ _ _ z=>z⟩
theorem ak.all{H:Hp}{O:Ex}{v:List V}{d:List L7}(h:ak Z H O v d):ak Z H (λ_=>False) v d:=h.step ⟨λ_ _ e _=>e,λ_ _ _ z=>z⟩
theorem Sh.all:Sh Z H O v d->Dt Z H (λ_=>False) v d
 | .dt h=>h.all
 | .own h r=>.lst (.inl h) (λz=>z) r.all
theorem bo.of0{H:Hp}{a:L9}{xs:List V}(h:bo Z wO a xs):bo Z H a xs:=by
 rcases h with(h|⟨o,h⟩)|h
 ·cases h
 ·cases h
 ·exact .inr h
theorem bb.of0{H:Hp}{a:L9}{xs:List V}(h:bb Z wO a xs):bb Z H a xs:=by
 rcases h with(h|⟨o,h⟩)|h
 ·cases h
 ·cases h
 ·exact .inr h
theorem Sh.tup{H:Hp}{O:Ex}{v:V}{ds:List L7}(h:Sh Z H O v (.tuple ds)):∃a xs,v= .ref a/\bo Z H a xs/\ak Z H O xs ds:=by
 cases h with
 |dt h=>
  cases h with
  |tup h _ r=>exact⟨_,_,rfl,.inl h,r⟩
  |tupK h r=>exact⟨_,_,rfl,h.of0,r⟩
theorem Sh.lstR(h:Sh Z H O v (.list ds)):∃a xs,v= .ref a/\Rd H a (.lst xs)/\ak Z H O xs ds:=by
 cases h with
 |dt h=>
  cases h with
  |lst h _ r=>exact⟨_,_,rfl,h,r⟩
 |own h r=>exact⟨_,_,rfl,.inl h,r⟩
theorem Sh.lst{H:Hp}{O:Ex}{v:V}{ds:List L7}(h:Sh Z H O v (.list ds)):∃a xs,v= .ref a/\bb Z H a xs/\ak Z H O xs ds:=by
 obtain⟨a,xs,e,h,r⟩:=h.lstR;exact⟨a,xs,e,.inl h,r⟩
theorem Sh.scr(h:Sh Z H O v (oU ds)):∃a xs,v= .ref a/\bb Z H a xs/\ak Z H O xs ds:=by
 cases h with
 |dt h=>
  cases h with
  |scr h r=>
   rcases h with h|h
   ·exact⟨_,_,rfl,.inl h.1,r⟩
   ·exact⟨_,_,rfl,h.of0,r⟩
theorem Sh.int(h:Sh Z H O v (.int i)):v= .int i:=by cases h with|dt h=>cases h;rfl
theorem Sh.bl(h:Sh Z H O v (.bool i)):v= .bl i:=by cases h with|dt h=>cases h;rfl
theorem Sh.str(h:Sh Z H O v (.str i)):v= .str i:=by cases h with|dt h=>cases h;rfl
theorem Sh.non(h:Sh Z H O v .none):v= .non:=by cases h with|dt h=>cases h;rfl
def dD:L7->Bool
 | .none | .bool _ | .int _ | .str _=>true
 |_=>false
end
section
variable{X:Cx}{aeK:List (L9×Obj)}{U:St}{H:Hp}{s:M6}
mutual
theorem pW(I:af X aeK U H s){O:Ex}:∀{v:V}{d:L7}{u:M3},Dt X.K H O v d->d.canLay0=true->aG v u->∃as,Reads s.heap u d as
 |_,_,_,.non,_,r=>by cases r;exact⟨_,Reads.none⟩
 |_,_,_,.bl b,_,r=>by cases r;exact⟨_,Reads.bool b⟩
 |_,_,_,.int i,_,r=>by obtain⟨t,rfl⟩:=r;exact⟨_,Reads.int i t⟩
 |_,_,_,.str x,_,r=>by obtain⟨t,rfl⟩:=r;exact⟨_,Reads.str x t⟩
 |_,_,_,.tup h _ hs,c,r=>by
  cases r;obtain⟨its,rv,⟨o,e,c',n,dd⟩,_⟩:=I.tuple (.inl h);obtain⟨as,q⟩:=wQ I hs (by simpa [Xm]using c) rv;exact⟨as,reads_tuple_at e c' dd (by simpa using q)⟩
 |_,_,_,.tupK h hs,c,r=>by
  cases r;obtain⟨its,rv,⟨o,e,c',n,dd⟩,_⟩:=I.tuple h.of0;obtain⟨as,q⟩:=wQ I hs (by simpa [Xm]using c) rv;exact⟨as,reads_tuple_at e c' dd (by simpa using q)⟩
 |_,_,_,.lst h _ hs,c,r=>by
  cases r;obtain⟨its,rv,⟨o,n,e,c',_,dd⟩,_⟩:=I.list (.inl h);obtain⟨as,q⟩:=wQ I hs (by simpa [Xm]using c) rv;exact⟨_,reads_list_at e c' dd (by simpa using q)⟩
 |_,_,_,.pack _ _,c,_=>by simp[Xm]at c
 |_,_,_,.purse _ _,c,_=>by simp[Xm]at c
 |_,_,_,.dct0 _ _,c,_=>by simp[Xm]at c
 |_,_,_,.obj _ _ _ _,c,_=>by simp[Xm]at c
 |_,_,_,.dic _ _ _ _ _,c,_=>by simp[Xm]at c
 |_,_,_,.scr _ _,c,_=>by simp[Xm]at c
theorem wQ(I:af X aeK U H s){O:Ex}:∀{vs:List V}{ds:List L7}{us:List M3},ak X.K H O vs ds->X0 ds=true->aF vs us->∃as,ReadsAll s.heap us ds as
 |_,_,_,.nil,_,r=>by cases r;exact⟨_,ReadsAll.nil⟩
 |_,_,_,.cons h hs,c,r=>by
  rw[X0,Xs]at c;cases r with
  |cons r1 r2=>
   obtain⟨as,q⟩:=pW I h c.1 r1;obtain⟨bs,p⟩:=wQ I hs c.2 r2;exact⟨_,ReadsAll.cons q p⟩
end
end
inductive Sl where
 |v (d:L7)
 |o (ds:List L7)
 |k (kd:List (aj×L7))
 |i (l C:L9) (fd:List (Str×L7))
 |r (l C g u:L9) (fd:List (Str×L7)) (gd ud:List (aj×L7))
 |b (ds:List L7)
 |f (kd:List (aj×L7))
abbrev Dl:=List (Option Sl)
inductive bu(Z:VZ)(H:Hp)(O:Ex):List (aj×V)->List (aj×L7)->Prop
 |nil:bu Z H O [] []
 |cons {k:aj} {v:V} {d:L7} {r:List (aj×V)} {s:List (aj×L7)}:Dt Z H O v d->bu Z H O r s->bu Z H O ((k,v)::r) ((k,d)::s)
theorem bu.step(S:aO H H' O O')(h:bu Z H O r s):bu Z H' O' r s:=by
 induction h with
 |nil=>exact .nil
 |cons a _ ih=>exact .cons (a.step S) ih
theorem bu.mono(S:av H H')(h:bu Z H O r s):bu Z H' O r s:=h.step (.same S)
def pX(Z:VZ)(H:Hp)(O:Ex)(fs:List (Str×V))(fd:List (Str×L7)):Prop:=fs.map (·.1)=fd.map (·.1)/\ak Z H O (fs.map (·.2)) (fd.map (·.2))
def Sl.own:Sl->Prop
 | .v _=>False
 | .b _=>False
 | .f _=>False
 |_=>True
abbrev cT:Str:=VY "gone"
abbrev l9:Str:=VY "used"
def BB(Z:VZ)(H:Hp)(O0 O:Ex)(l C g u:L9)(fd:List (Str×L7))(gd ud:List (aj×L7)):Prop:=∃dx fs og ou gv uv,H l=some (.ins C dx (fs++[(cT,.ref g),(l9,.ref u)]))/\pX Z H O fs fd/\g≠u/\
 (O g/\¬O0 g/\H g=some (.frz og (.dK gv))/\bu Z H O gv gd)/\(O u/\¬O0 u/\H u=some (.frz ou (.dK uv))/\bu Z H O uv ud)
def oV(Z:VZ)(H:Hp)(O0 O:Ex)(x:Option V):Option Sl->Prop
 |none=>True
 |some (.v d)=>∃v,x=some v/\Dt Z H O v d
 |some (.o ds)=>∃l vs,x=some (.ref l)/\O l/\¬O0 l/\H l=some (.lst vs)/\ak Z H O vs ds
 |some (.k kd)=>∃l kv,x=some (.ref l)/\O l/\¬O0 l/\H l=some (.dK kv)/\bu Z H O kv kd
 |some (.i l C fd)=>∃dx fs,x=some (.ref l)/\O l/\¬O0 l/\H l=some (.ins C dx fs)/\pX Z H O fs fd
 |some (.r l C g u fd gd ud)=>x=some (.ref l)/\O l/\¬O0 l/\BB Z H O0 O l C g u fd gd ud
 |some (.b ds)=>∃l vs,x=some (.ref l)/\O0 l/\H l=some (.lst vs)/\ak Z H O vs ds
 |some (.f kd)=>∃l o kv,x=some (.ref l)/\¬O l/\H l=some (.frz o (.dK kv))/\bu Z H O kv kd
structure Wd (Z:VZ) (H0:Hp) (O0:Ex) (H:Hp) (O:Ex) (U:St) (Y:Dl):Prop where
 same:av H0 H
 sub:∀l,O0 l->O l
 new:∀l,O l->O0 l\/H0 l=none
 trk:∀l,O l->H l≠none
 len:U.length=Y.length
 sl:∀(i:Nat) y,Y[i]?=some y->oV Z H O0 O ((U[i]?).join) y
 dis:∀(i j:Nat) y z l,Y[i]?=some (some y)->y.own->Y[j]?=some (some z)->z.own->U[i]?=some (some (.ref l))->U[j]?=some (some (.ref l))->i=j
section
variable{Z:VZ}{H0 H H':Hp}{O0 O:Ex}{U:St}{Y:Dl}
theorem oV.mono(s:av H H')(h:oV Z H O0 O x y):oV Z H' O0 O x y:=by
 cases y with
 |none=>exact X8
 |some y=>
  cases y with
  |v d=>
   obtain⟨v,e,r⟩:=h;exact⟨v,e,r.mono s⟩
  |o ds=>
   obtain⟨l,vs,e,a,b,c,r⟩:=h;exact⟨l,vs,e,a,b,s _ _ c,r.mono s⟩
  |k ds=>
   obtain⟨l,vs,e,a,b,c,r⟩:=h;exact⟨l,vs,e,a,b,s _ _ c,r.mono s⟩
  |i l C ds=>
   obtain⟨dx,vs,e,a,b,c,r1,r2⟩:=h;exact⟨dx,vs,e,a,b,s _ _ c,r1,r2.mono s⟩
  |r l C g u fd gd ud=>
   obtain⟨e,a,b,dx,fs,og,ou,gv,uv,c,⟨r1,r2⟩,ne,⟨g1,g2,g3,g4⟩,u1,u2,u3,u4⟩:=h;exact⟨e,a,b,dx,fs,og,ou,gv,uv,s _ _ c,⟨r1,r2.mono s⟩,ne,⟨g1,g2,s _ _ g3,g4.mono s⟩,u1,u2,s _ _ u3,u4.mono s⟩
  |b ds=>
   obtain⟨l,vs,e,a,c,r⟩:=h;exact⟨l,vs,e,a,s _ _ c,r.mono s⟩
  |f kd=>
   obtain⟨l,o,kv,e,a,c,r⟩:=h;exact⟨l,o,kv,e,a,s _ _ c,r.mono s⟩
theorem oV.go(h:oV Z H O0 O x y)(S:aO H H' O O')(kp:∀l o,y.any (λz=>match z with | .v _=>false | .b _=>false | .f _=>false|_=>true)=true->x=some (.ref l)->O l->¬O0 l->H l=some o->O' l/\H' l=some o)
 (kp2:∀a o u,O a->¬O0 a->H a=some (.frz o u)->O' a/\H' a=some (.frz o u))(kp3:∀a o,O0 a->H a=some o->H' a=some o):oV Z H' O0 O' x y:=by
 cases y with
 |none=>exact X8
 |some y=>
  cases y with
  |v d=>
   obtain⟨v,e,r⟩:=h;exact⟨v,e,r.step S⟩
  |o ds=>
   obtain⟨l,vs,e,a,b,c,r⟩:=h;exact⟨l,vs,e,(kp l _ rfl e a b c).1,b,(kp l _ rfl e a b c).2,r.step S⟩
  |k ds=>
   obtain⟨l,vs,e,a,b,c,r⟩:=h;exact⟨l,vs,e,(kp l _ rfl e a b c).1,b,(kp l _ rfl e a b c).2,r.step S⟩
  |i l C ds=>
   obtain⟨dx,vs,e,a,b,c,r1,r2⟩:=h;exact⟨dx,vs,e,(kp l _ rfl e a b c).1,b,(kp l _ rfl e a b c).2,r1,r2.step S⟩
  |r l C g u fd gd ud=>
   obtain⟨e,a,b,dx,fs,og,ou,gv,uv,c,⟨r1,r2⟩,ne,⟨g1,g2,g3,g4⟩,u1,u2,u3,u4⟩:=h;exact⟨e,(kp l _ rfl e a b c).1,b,dx,fs,og,ou,gv,uv,(kp l _ rfl e a b c).2,⟨r1,r2.step S⟩,ne,⟨(kp2 _ _ _ g1 g2 g3).1,g2,(kp2 _ _ _ g1 g2 g3).2,g4.step S⟩,(kp2 _ _ _ u1 u2 u3).1,u2,(kp2 _ _ _ u1 u2 u3).2,u4.step S⟩
  |b ds=>
   obtain⟨l,vs,e,a,c,r⟩:=h;exact⟨l,vs,e,a,kp3 _ _ a c,r.step S⟩
  |f kd=>
   obtain⟨l,o,kv,e,a,c,r⟩:=h;exact⟨l,o,kv,e,S.out _ (by rw[c];exact λz=>nomatch z) a,S.keep _ _ c a,r.step S⟩
theorem Wd.mono(s:av H H')(w:Wd Z H0 O0 H O U Y):Wd Z H0 O0 H' O U Y:=
 ⟨w.same.trans s,w.sub,w.new,λl h z=>(by
  cases e:H l with
  |none=>exact w.trk l h e
  |some o=>rw[s _ _ e]at z;cases z),w.len,λi y e=>(w.sl i y e).mono s,w.dis⟩
theorem nM{i:Nat}{v:V}(h:(U[i]?).join=some v):U[i]?=some (some v):=by
 cases q:U[i]? with
 |none=>rw[q]at h;cases h
 |some o=>rw[q]at h;rw[show o=some v from h]
theorem Wd.val(w:Wd Z H0 O0 H O U Y){i:Nat}{d:L7}(e:Y[i]?=some (some (.v d))):∃v,U[i]?=some (some v)/\Dt Z H O v d:=by
 obtain⟨v,h,r⟩:=w.sl i _ e;exact⟨v,nM h,r⟩
theorem Wd.own(w:Wd Z H0 O0 H O U Y){i:Nat}{ds:List L7}(e:Y[i]?=some (some (.o ds))):∃l vs,U[i]?=some (some (.ref l))/\O l/\¬O0 l/\H l=some (.lst vs)/\ak Z H O vs ds:=by
 obtain⟨l,vs,h,r⟩:=w.sl i _ e;exact⟨l,vs,nM h,r⟩
theorem Wd.ownK(w:Wd Z H0 O0 H O U Y){i:Nat}{kd:List (aj×L7)}(e:Y[i]?=some (some (.k kd))):∃l kv,U[i]?=some (some (.ref l))/\O l/\¬O0 l/\H l=some (.dK kv)/\bu Z H O kv kd:=by
 obtain⟨l,vs,h,r⟩:=w.sl i _ e;exact⟨l,vs,nM h,r⟩
theorem Wd.ownI(w:Wd Z H0 O0 H O U Y){i:Nat}{l C:L9}{fd:List (Str×L7)}(e:Y[i]?=some (some (.i l C fd))):∃dx fs,U[i]?=some (some (.ref l))/\O l/\¬O0 l/\H l=some (.ins C dx fs)/\pX Z H O fs fd:=by
 obtain⟨dx,vs,h,r⟩:=w.sl i _ e;exact⟨dx,vs,nM h,r⟩
theorem Wd.adr(w:Wd Z H0 O0 H O U Y){i:Nat}(e:Y[i]?=some (some y))(h:y.own):∃l,U[i]?=some (some (.ref l))/\O l/\¬O0 l:=by
 match y,h,e with
 | .o ds,_,e=>obtain⟨l,vs,a,b,c,_⟩:=w.own e;exact⟨l,a,b,c⟩
 | .k ds,_,e=>obtain⟨l,vs,a,b,c,_⟩:=w.ownK e;exact⟨l,a,b,c⟩
 | .i l C ds,_,e=>obtain⟨dx,vs,a,b,c,_⟩:=w.ownI e;exact⟨l,a,b,c⟩
 | .r l C g u fd gd ud,_,e=>obtain⟨a,b,c,_⟩:=w.sl i _ e;exact⟨l,nM a,b,c⟩
theorem Wd.nofrz(w:Wd Z H0 O0 H O U Y){i:Nat}{l:L9}(e:Y[i]?=some (some y))(h:y.own)(hl:U[i]?=some (some (.ref l)))(o:Obj)(u:HO):H l≠some (.frz o u):=by
 match y,h,e with
 | .o ds,_,e=>obtain⟨l',vs,a,b,c,d,_⟩:=w.own e;rw[hl]at a;cases a;rw[d];exact λz=>nomatch z
 | .k ds,_,e=>obtain⟨l',vs,a,b,c,d,_⟩:=w.ownK e;rw[hl]at a;cases a;rw[d];exact λz=>nomatch z
 | .i l C ds,_,e=>obtain⟨dx,vs,a,b,c,d,_⟩:=w.ownI e;rw[hl]at a;cases a;rw[d];exact λz=>nomatch z
 | .r l C g u fd gd ud,_,e=>obtain⟨a,b,c,_,_,_,_,_,_,d,_⟩:=w.sl i _ e;have a:=nM a;rw[hl]at a;cases a;rw[d];exact λz=>nomatch z
theorem Wd.set(w:Wd Z H0 O0 H O U Y)(h:Dt Z H O v d):Wd Z H0 O0 H O (U.set i (some v)) (Y.set i (some (.v d))):=by
 refine⟨w.same,w.sub,w.new,w.trk,by simp[w.len],λj y e=>?_,λj k y z l e1 y1 e2 z2 e3 e4=>?_⟩
 ·by_cases hj:j=i
  ·subst hj;have hl:j < Y.length:=by
    have:=(Wf.mp e).1;simpa using this
   rw[WM hl]at e;cases e;rw[WM (by rw[w.len];exact hl)];exact⟨v,rfl,h⟩
  ·rw[Wg (Ne.symm hj)]at e⊢;exact w.sl j y e
 ·have ne:∀{j:Nat}{y:Sl},(Y.set i (some (.v d)))[j]?=some (some y)->y.own->j≠i:=λ{j y} e ho z=>by
   subst z;by_cases hl:j < Y.length
   ·rw[WM hl]at e;cases e;exact ho
   ·rw[Yc (by simpa using hl)]at e;cases e
  have n1:=ne e1 y1;have n2:=ne e2 z2;rw[Wg (Ne.symm n1)]at e1 e3;rw[Wg (Ne.symm n2)]at e2 e4;exact w.dis j k y z l e1 y1 e2 z2 e3 e4
theorem Wd.setY(w:Wd Z H0 O0 H O U Y){y0:Sl}(hy:y0.own)(hp:H p=none)(h:∀O',aO H (ai H p ho) O O'->O' p->¬O0 p->oV Z (ai H p ho) O0 O' (some (.ref p)) (some y0)):
 Wd Z H0 O0 (ai H p ho) (λl=>O l\/l=p) (U.set i (some (.ref p))) (Y.set i (some y0)):=by
 have sm:av H (ai H p ho):=av.new hp;have np:∀l,O l->l≠p:=λl hl z=>w.trk l hl (by rw[z];exact hp);have p0:H0 p=none:=by
  cases e:H0 p with
  |none=>rfl
  |some o=>rw[w.same _ _ e]at hp;cases hp
 have S:aO H (ai H p ho) O (λl=>O l\/l=p):=⟨λb o e _=>sm b o e,λb hb hn z=>z.elim hn λq=>hb (by rw[q];exact hp)⟩;have n0:¬O0 p:=λz=>np p (w.sub p z) rfl;refine⟨w.same.trans sm,λl z=>.inl (w.sub l z),λl z=>z.elim (w.new l) λq=>.inr (by rw[q];exact p0),λl z=>?_,by simp[w.len],λj y e=>?_,λj k y z l e1 y1 e2 z2 e3 e4=>?_⟩
 ·by_cases q:l=p
  ·rw[q,aV];exact λz=>nomatch z
  ·rw[ar q];exact w.trk l (z.resolve_right q)
 ·by_cases hj:j=i
  ·subst hj;have hl:j < Y.length:=by
    have:=(Wf.mp e).1;simpa using this
   rw[WM hl]at e;cases e;rw[WM (by rw[w.len];exact hl)];exact h _ S (.inr rfl) n0
  ·rw[Wg (Ne.symm hj)]at e⊢;exact(w.sl j y e).go S (λl o _ _ a _ c=>⟨.inl a,sm _ _ c⟩) (λa o u a1 _ a3=>⟨.inl a1,sm _ _ a3⟩) λa o _ a3=>sm _ _ a3
 ·by_cases hj:j=i
  ·by_cases hk:k=i
   ·rw[hj,hk]
   ·exfalso;rw[hj]at e1 e3;have hl:i < U.length:=by
     have:=(Wf.mp e3).1;simpa using this
    rw[WM hl]at e3;cases e3;rw[Wg (Ne.symm hk)]at e2 e4;obtain⟨l',x1,x2,_⟩:=w.adr e2 z2;rw[e4]at x1;cases x1;exact np _ x2 rfl
  ·by_cases hk:k=i
   ·exfalso;rw[hk]at e2 e4;have hl:i < U.length:=by
     have:=(Wf.mp e4).1;simpa using this
    rw[WM hl]at e4;cases e4;rw[Wg (Ne.symm hj)]at e1 e3;obtain⟨l',x1,x2,_⟩:=w.adr e1 y1;rw[e3]at x1;cases x1;exact np _ x2 rfl
   ·rw[Wg (Ne.symm hj)]at e1 e3;rw[Wg (Ne.symm hk)]at e2 e4;exact w.dis j k _ _ l e1 y1 e2 z2 e3 e4
theorem Wd.setO(w:Wd Z H0 O0 H O U Y)(hp:H p=none)(h:ak Z H O vs ds):
 Wd Z H0 O0 (ai H p (.lst vs)) (λl=>O l\/l=p) (U.set i (some (.ref p))) (Y.set i (some (.o ds))):=
 w.setY trivial hp λO' S a b=>⟨p,vs,rfl,a,b,aV,h.step S⟩
theorem Wd.setK(w:Wd Z H0 O0 H O U Y)(hp:H p=none)(h:bu Z H O kv kd):
 Wd Z H0 O0 (ai H p (.dK kv)) (λl=>O l\/l=p) (U.set i (some (.ref p))) (Y.set i (some (.k kd))):=
 w.setY trivial hp λO' S a b=>⟨p,kv,rfl,a,b,aV,h.step S⟩
theorem Wd.putY(w:Wd Z H0 O0 H O U Y){y0 y1:Sl}(h0:y0.own)(h1:y1.own)(e:Y[i]?=some (some y0))(hl:U[i]?=some (some (.ref l)))(h:aO H (ai H l ho) O O->O l->¬O0 l->oV Z (ai H l ho) O0 O (some (.ref l)) (some y1)):
 Wd Z H0 O0 (ai H l ho) O U (Y.set i (some y1)):=by
 obtain⟨l',x1,x2,x3⟩:=w.adr e h0;rw[hl]at x1;cases x1;have l0:H0 l=none:=(w.new l x2).resolve_left x3;have S:aO H (ai H l ho) O O:=⟨λb o q n=>by rw[ar (λz=>n (by rw[z];exact x2))];exact q,λ_ _ n=>n⟩;have li:i < Y.length:=(Wf.mp e).1;refine⟨λb o q=>by rw[ar (λz=>by rw[z,l0]at q;cases q)];exact w.same b o q,w.sub,w.new,λb z=>?_,by simp[w.len],λj y q=>?_,λj k y z b e1 y1' e2 z2 e3 e4=>?_⟩
 ·by_cases q:b=l
  ·rw[q,aV];exact λz=>nomatch z
  ·rw[ar q];exact w.trk b z
 ·by_cases hj:j=i
  ·subst hj;rw[WM li]at q;cases q;rw[hl];exact h S x2 x3
  ·rw[Wg (Ne.symm hj)]at q;refine(w.sl j y q).go S (λb o ho' e' a1 a2 a3=>⟨a1,?_⟩) (λb o u a1 a2 a3=>⟨a1,by rw[ar (λz=>w.nofrz e h0 hl o u (by rw[<-z];exact a3))];exact a3⟩) λb o a1 a3=>by rw[ar (λz=>x3 (by rw[<-z];exact a1))];exact a3
   have nb:b≠l:=λz=>by
    subst z
    match y,ho',q with
    |some z,ho',q=>exact hj (w.dis j i z y0 b q (by cases z<;>first|trivial|cases ho') e h0 (nM e') hl)
   rw[ar nb];exact a3
 ·have mU:∀{j:Nat}{y:Sl},(Y.set i (some y1))[j]?=some (some y)->y.own->∃y',Y[j]?=some (some y')/\y'.own:=λ{j y} q hq=>by
   by_cases hj:j=i
   ·subst hj;exact⟨_,e,h0⟩
   ·rw[Wg (Ne.symm hj)]at q;exact⟨_,q,hq⟩
  obtain⟨_,q1,r1⟩:=mU e1 y1';obtain⟨_,q2,r2⟩:=mU e2 z2;exact w.dis j k _ _ b q1 r1 q2 r2 e3 e4
theorem Wd.putO(w:Wd Z H0 O0 H O U Y){vs us:List V}(e:Y[i]?=some (some (.o ds)))(hl:U[i]?=some (some (.ref l)))(h:ak Z H O us es):
 Wd Z H0 O0 (ai H l (.lst us)) O U (Y.set i (some (.o es))):=
 w.putY (y0:= .o ds) (y1:= .o es) trivial trivial e hl λS a b=>⟨l,us,rfl,a,b,aV,h.step S⟩
theorem Wd.putK(w:Wd Z H0 O0 H O U Y)(e:Y[i]?=some (some (.k kd)))(hl:U[i]?=some (some (.ref l)))(h:bu Z H O kv kd'):
 Wd Z H0 O0 (ai H l (.dK kv)) O U (Y.set i (some (.k kd'))):=
 w.putY (y0:= .k kd) (y1:= .k kd') trivial trivial e hl λS a b=>⟨l,kv,rfl,a,b,aV,h.step S⟩
end
abbrev DT:=Dl->(L7->Prop)->Prop
abbrev DA:=Dl->(List L7->Prop)->Prop
abbrev DB:=Dl->(Bool->Prop)->Prop
structure nN where
 nx:Dl->Prop
 rt:L7->Prop
 bk:Dl->Prop:=λ_=>False
 ct:Dl->Prop:=λ_=>False
abbrev DS:=nN->Dl->Prop
section
variable(Z:VZ)(H0:Hp)(O0:Ex)
inductive up(t:DT)(U:St)(H:Hp)(R:VK):Prop
 |mk (O:Ex) (Y:Dl) (Qd:L7->Prop):Wd Z H0 O0 H O U Y->t Y Qd->(∀d v H',Qd d->av H H'->Dt Z H' O v d->R v H')->up t U H R
inductive sT(t:DT)(U:St)(H:Hp)(R:VK):Prop
 |mk (O:Ex) (Y:Dl) (Qd:L7->Prop):Wd Z H0 O0 H O U Y->t Y Qd->(∀d v H',Qd d->av H H'->Sh Z H' O v d->R v H')->sT t U H R
inductive oJ(t:DA)(U:St)(H:Hp)(R:List V->Hp->Prop):Prop
 |mk (O:Ex) (Y:Dl) (Qd:List L7->Prop):Wd Z H0 O0 H O U Y->t Y Qd->(∀ds vs H',Qd ds->av H H'->ak Z H' O vs ds->R vs H')->oJ t U H R
inductive bZ(t:DB)(U:St)(H:Hp)(R:Bool->Hp->Prop):Prop
 |mk (O:Ex) (Y:Dl) (Qd:Bool->Prop):Wd Z H0 O0 H O U Y->t Y Qd->(∀b H',Qd b->av H H'->R b H')->bZ t U H R
inductive bp(t:DS)(D:qZ)(U:St)(H:Hp):Prop
 |mk (O:Ex) (Y:Dl) (E:nN):Wd Z H0 O0 H O U Y->t E Y->(∀O' Y' U' H',E.nx Y'->Wd Z H0 O0 H' O' U' Y'->aO H H' O O'->D.nx U' H')->(∀d v H',E.rt d->av H0 H'->Dt Z H' O0 v d->D.rt v H')->
 (∀O' Y' U' H',E.bk Y'->Wd Z H0 O0 H' O' U' Y'->aO H H' O O'->D.bk U' H')->(∀O' Y' U' H',E.ct Y'->Wd Z H0 O0 H' O' U' Y'->aO H H' O O'->D.ct U' H')->bp t D U H
end
theorem PE.imp{t u:TE}(h:PE X e t)(i:∀U H Q,u U H Q->t U H Q):PE X e u:=λaeK s U H Q I z=>h aeK s U H Q I (i U H Q z)
theorem PT.imp{t u:TT}(h:PT X e t)(i:∀U H Q,u U H Q->t U H Q):PT X e u:=λaeK s U H Q I z=>h aeK s U H Q I (i U H Q z)
theorem PW.imp{t u:TT}(h:PW X e t)(i:∀U H Q,u U H Q->t U H Q):PW X e u:=λwh aeK s U H Q I z=>h wh aeK s U H Q I (i U H Q z)
theorem PA.imp{t u:TA}(h:PA X e t)(i:∀U H Q,u U H Q->t U H Q):PA X e u:=λpos aeK s U H Q I z=>h pos aeK s U H Q I (i U H Q z)
theorem PS.imp{t u:TS}(h:PS X e t)(i:∀D U H,u D U H->t D U H):PS X e u:=λaeK s U H D I z=>h aeK s U H D I (i D U H z)
theorem bE.imp{t u:TS}(h:bE X e t)(i:∀D U H,u D U H->t D U H):bE X e u:=λaeK s U H D I z=>h aeK s U H D I (i D U H z)
section
variable{X:Cx}{H0:Hp}{O0:Ex}
abbrev DE(X:Cx)(H0:Hp)(O0:Ex)(e:Mb)(t:DT):Prop:=PE X e (up X.K H0 O0 t)
abbrev DF(X:Cx)(H0:Hp)(O0:Ex)(e:Mb)(t:DT):Prop:=PE X e (sT X.K H0 O0 t)
theorem df(h:DE X H0 O0 e t):DF X H0 O0 e t:=h.imp λU H Q uu=>by obtain⟨O,Y,Qd,w,q,k⟩:=uu;exact⟨O,Y,Qd,w,q,λd v H' a b c=>k d v H' a b (.dt c)⟩
def F6(Q:L7->Prop):Option (Option Sl)->Prop
 |some (some (.v d))=>Q d
 |_=>False
def dO(i:Nat):DT:=λY Q=>F6 Q Y[i]?
theorem Oo:F6 Q o↔∃d,o=some (some (.v d))/\Q d:=by
 constructor
 ·intro h
  match o,h with
  |some (some (.v d)),h=>exact⟨d,rfl,h⟩
 ·rintro⟨d,rfl,h⟩;exact h
theorem ad2(h:dO i Y Q):∃d,Y[i]?=some (some (.v d))/\Q d:=Oo.mp h
def eO(i:Nat):DT:=λY Q=>∃ds,Y[i]?=some (some (.o ds))/\Q (.list ds)
def dC(d:L7):DT:=λ_ Q=>Q d
theorem dv(i:Nat){x:Str}{pos:Pos}(hN:X.N[i]?=some x:=by rfl)(hv:u7 X.env.scope x:=by first|exact OZ rfl|exact O8 (OZ rfl)|exact O8 (O8 rfl))
 (hd:(x==("__debug__":Str))=false:=by decide)(hcd:(x==("__classdict__":Str))=false:=by decide):DE X H0 O0 (.Name x pos) (dO i):=
 (A2 hN hv hd hcd).imp λU H Q uu=>by
  obtain⟨O,Y,Qd,w,dq,k⟩:=uu;obtain⟨d,e,q⟩:=ad2 dq;obtain⟨v,h,r⟩:=w.val e;exact⟨v,h,k d v H q (av.refl _) r⟩
theorem dw(i:Nat){x:Str}{pos:Pos}(hN:X.N[i]?=some x:=by rfl)(hv:u7 X.env.scope x:=by first|exact OZ rfl|exact O8 (OZ rfl)|exact O8 (O8 rfl))
 (hd:(x==("__debug__":Str))=false:=by decide)(hcd:(x==("__classdict__":Str))=false:=by decide):DF X H0 O0 (.Name x pos) (eO i):=
 (A2 hN hv hd hcd).imp λU H Q uu=>by
  obtain⟨O,Y,Qd,w,⟨ds,e,q⟩,k⟩:=uu;obtain⟨l,vs,h,_,_,r,rs⟩:=w.own e;exact⟨_,h,k _ _ H q (av.refl _) (.own r rs)⟩
theorem dc(h:PE X e (tC v))(r:∀H O,Dt X.K H O v d):DE X H0 O0 e (dC d):=h.imp λU H Q uu=>by obtain⟨O,Y,Qd,w,q,k⟩:=uu;exact k d v H q (av.refl _) (r H O)
theorem ag:DE X H0 O0 (.Constant (.int i) j pos) (dC (.int i)):=dc bC λ_ _=>.int i
theorem rW:DE X H0 O0 (.Constant (.bool b) j pos) (dC (.bool b)):=dc EB λ_ _=>.bl b
theorem mI:DE X H0 O0 (.Constant .none j pos) (dC .none):=dc EC λ_ _=>.non
theorem aZ:DE X H0 O0 (.Constant (.str x) j pos) (dC (.str x)):=dc A3 λ_ _=>.str x
def dE:DA:=λ_ Q=>Q []
def cV(t:DT)(u:DA):DA:=λY Q=>t Y λd=>u Y λds=>Q (d::ds)
theorem ah:PA X [] (oJ X.K H0 O0 dE):=cm.imp λU H Q uu=>by obtain⟨O,Y,Qd,w,q,k⟩:=uu;exact k [] [] H q (av.refl _) .nil
theorem aa(h:DE X H0 O0 e t)(hs:PA X es (oJ X.K H0 O0 u))(he:MQ (e::es) X.env=(false,eval e X.env)::MQ es X.env:=by rfl):PA X (e::es) (oJ X.K H0 O0 (cV t u)):=
 (bj h hs he).imp λU H Q uu=>by obtain⟨O,Y,Qd,w,q,k⟩:=uu;exact⟨O,Y,_,w,q,λd v H1 q1 s1 r1=>⟨O,Y,_,w.mono s1,q1,λds vs H2 q2 s2 r2=>k (d::ds) (v::vs) H2 q2 (s1.trans s2) (.cons (r1.mono s2) r2)⟩⟩
def eQ(t:DA):DT:=λY Q=>t Y λds=>ds.length<=MT/\Q (.tuple ds)
def gX(t:DA):DT:=λY Q=>t Y λds=>ds.length<=MT/\Q (.list ds)
theorem vv(w:Wd Z H0 O0 H O U Y)(s:av H H1)(hp:H1 p=none):¬O p:=λz=>(w.mono s).trk p z hp
theorem bq(h:PA X es (oJ X.K H0 O0 t)):DE X H0 O0 (.Tuple es x1 pos) (eQ t):=
 (Fs h).imp λU H Q uu=>by obtain⟨O,Y,Qd,w,q,k⟩:=uu;exact⟨O,Y,_,w,q,λds vs H1 q1 s1 r1=>⟨by rw[r1.length];exact q1.1,λp hp=>k _ _ _ q1.2 (s1.trans (av.new hp)) (.tup (.inl aV) (vv w s1 hp) (r1.mono (av.new hp)))⟩⟩
end
theorem aO.refl(H:Hp)(O:Ex):aO H H O O:=⟨λ_ _ e _=>e,λ_ _ n=>n⟩
theorem aO.trans(a:aO H H1 O O1)(b:aO H1 H2 O1 O2):aO H H2 O O2:=by
 refine⟨λc o e n=>?_,λc e n=>?_⟩
 ·have h1:=a.keep c o e n;exact b.keep c o h1 (a.out c (by rw[e];exact λz=>nomatch z) n)
 ·cases q:H c with
  |none=>exact absurd q e
  |some o=>exact b.out c (by rw[a.keep c o q n];exact λz=>nomatch z) (a.out c e n)
def dF(Z:VZ)(r:R2)(rd:L7->L7->(L7->Prop)->Prop):Prop:=
 ∀(H:Hp)(O:Ex)(x y:V)(dx dy:L7)(Qd:L7->Prop)(R:VK),(∀l,O l->H l≠none)->Sh Z H O x dx->Sh Z H O y dy->rd dx dy Qd->(∀d v H',Qd d->av H H'->Dt Z H' O v d->R v H')->r x y H R
def bM(rd:L7->L7->(L7->Prop)->Prop)(ta tb:DT):DT:=λY Q=>ta Y λx=>tb Y λy=>rd x y Q
theorem wR(hd:dF Z r rd):∀U H Q,up Z H0 O0 (bM rd ta tb) U H Q->t5 r (sT Z H0 O0 ta) (sT Z H0 O0 tb) U H Q:=
 λU H Q uu=>by obtain⟨O,Y,Qd,w,q,k⟩:=uu;exact⟨O,Y,_,w,q,λx v H1 q1 s1 r1=>⟨O,Y,_,w.mono s1,q1,λy u H2 q2 s2 r2=>hd H2 O v u x y Qd _ (w.mono (s1.trans s2)).trk (r1.mono s2) r2 q2 λd z H3 qd s3 r3=>k d z H3 qd (s1.trans (s2.trans s3)) r3⟩⟩
theorem Ot(ho:bR X (O5 op) r)(hd:dF X.K r rd)(ha:DF X H0 O0 a ta)(hb:DF X H0 O0 b tb):DE X H0 O0 (.BinOp a op b pos) (bM rd ta tb):=(bD ho ha hb).imp (wR hd)
theorem nz(ho:bR X (Mz op) r)(hd:dF X.K r rd)(ha:DF X H0 O0 a ta)(hb:DF X H0 O0 b tb)(hm:Nb op b=false):DE X H0 O0 (.Compare a [op] [b] pos) (bM rd ta tb):=(wy ho ha hb hm).imp (wR hd)
def cc(t:DT):DB:=λY Q=>t Y λd=>∃b,d= .bool b/\Q b
theorem BC(ho:bR X (Mz op) r)(hd:dF X.K r rd)(ha:DF X H0 O0 a ta)(hb:DF X H0 O0 b tb)(hm:Nb op b=false):PT X (.Compare a [op] [b] pos) (bZ X.K H0 O0 (cc (bM rd ta tb))):=
 (rR ho ha hb hm).imp λU H Q uu=>by obtain⟨O,Y,Qd,w,q,k⟩:=uu;exact wR hd U H _ ⟨O,Y,_,w,q,λd v H' uu s r=>by obtain⟨b,e,qb⟩:=uu;subst e;cases r;exact⟨b,rfl,k b H' qb s⟩⟩
theorem nZ(h:DE X H0 O0 e t)(he:∀whole,isTrue e X.env whole=(do let v<-whole;Nz e.pos;NL [v] (truthy v)):=by intro _;rfl):PT X e (bZ X.K H0 O0 (cc t)):=
 (EG h he).imp λU H Q uu=>by obtain⟨O,Y,Qd,w,q,k⟩:=uu;exact⟨O,Y,_,w,q,λd v H' uu s r=>by obtain⟨b,e,qb⟩:=uu;subst e;cases r;exact⟨b,rfl,k b H' qb s⟩⟩
def cW(t u:DB):DB:=λY Q=>t Y λc=>if c=true then u Y Q else Q false
def eU(t u:DB):DB:=λY Q=>t Y λc=>if c=true then Q true else u Y Q
def eV(t:DB):DB:=λY Q=>t Y λc=>Q (!c)
theorem nA(h:PT X a (bZ X.K H0 O0 t)):PW X (.BoolOp .And [a] pos) (bZ X.K H0 O0 t):=EK h
theorem qB(h:PT X a (bZ X.K H0 O0 t)):PW X (.BoolOp .Or [a] pos) (bZ X.K H0 O0 t):=Ms h
theorem nF{rest:List Mb}(h:PT X a (bZ X.K H0 O0 t))(hb:PW X (.BoolOp .And (b::rest) pos) (bZ X.K H0 O0 u)):PW X (.BoolOp .And (a::b::rest) pos) (bZ X.K H0 O0 (cW t u)):=
 (EL h hb).imp λU H Q uu=>by obtain⟨O,Y,Qd,w,q,k⟩:=uu;exact⟨O,Y,_,w,q,λc H1 q1 s1=>by
  cases c with
  |true=>exact⟨O,Y,_,w.mono s1,q1,λb H2 q2 s2=>k b H2 q2 (s1.trans s2)⟩
  |false=>exact k false H1 q1 s1⟩
theorem oW{rest:List Mb}(h:PT X a (bZ X.K H0 O0 t))(hb:PW X (.BoolOp .Or (b::rest) pos) (bZ X.K H0 O0 u)):PW X (.BoolOp .Or (a::b::rest) pos) (bZ X.K H0 O0 (eU t u)):=
 (adf h hb).imp λU H Q uu=>by obtain⟨O,Y,Qd,w,q,k⟩:=uu;exact⟨O,Y,_,w,q,λc H1 q1 s1=>by
  cases c with
  |false=>exact⟨O,Y,_,w.mono s1,q1,λb H2 q2 s2=>k b H2 q2 (s1.trans s2)⟩
  |true=>exact k true H1 q1 s1⟩
theorem rC(h:PT X a (bZ X.K H0 O0 t)):PT X (.UnaryOp .Not a pos) (bZ X.K H0 O0 (eV t)):=
 (Mu h).imp λU H Q uu=>by obtain⟨O,Y,Qd,w,q,k⟩:=uu;exact⟨O,Y,_,w,q,λc H1 q1 s1=>k (!c) H1 q1 s1⟩
def eX(t u:DT):DT:=λY Q=>t Y λd=>∃c,d= .bool c/\if c=true then u Y Q else Q (.bool false)
def gY(t u:DT):DT:=λY Q=>t Y λd=>∃c,d= .bool c/\if c=true then Q (.bool true) else u Y Q
def gZ(t:DT):DT:=λY Q=>t Y λd=>∃c,d= .bool c/\Q (.bool (!c))
theorem BD(h:DE X H0 O0 a t):DE X H0 O0 (.BoolOp op [a] pos) t:=A4 h
theorem BE{rest:List Mb}(h:DE X H0 O0 a t)(hb:DE X H0 O0 (.BoolOp .And (b::rest) pos) u):DE X H0 O0 (.BoolOp .And (a::b::rest) pos) (eX t u):=
 (EO h hb).imp λU H Q ⟨O,Y,Qd,w,q,k⟩=>⟨O,Y,_,w,q,λd v H1 uu s1 r=>by
  obtain⟨c,e,q1⟩:=uu;subst e;cases r;refine⟨c,rfl,?_⟩;cases c with
  |true=>exact⟨O,Y,_,w.mono s1,q1,λd v H2 q2 s2 r2=>k d v H2 q2 (s1.trans s2) r2⟩
  |false=>exact k _ _ H1 q1 s1 (.bl false)⟩
def eY(c:DB)(t u:DT):DT:=λY Q=>c Y λb=>if b=true then t Y Q else u Y Q
theorem vw(hc:PT X c (bZ X.K H0 O0 tc))(ha:DE X H0 O0 a t)(hb:DE X H0 O0 b u):DE X H0 O0 (.IfExp c a b pos) (eY tc t u):=
 (ES hc ha hb).imp λU H Q uu=>by obtain⟨O,Y,Qd,w,q,k⟩:=uu;exact⟨O,Y,_,w,q,λc H1 q1 s1=>by
  cases c with
  |true=>exact⟨O,Y,_,w.mono s1,q1,λd v H2 q2 s2 r2=>k d v H2 q2 (s1.trans s2) r2⟩
  |false=>exact⟨O,Y,_,w.mono s1,q1,λd v H2 q2 s2 r2=>k d v H2 q2 (s1.trans s2) r2⟩⟩
def dZ(rd rd':L7->L7->(L7->Prop)->Prop)(ta tb tc:DT):DT:=λY Q=>ta Y λx=>tb Y λy=>rd x y λz=>∃k,z= .bool k/\if k=true then tc Y λu=>rd' y u Q else Q (.bool false)
theorem Ou(hd:dF Z r rd)(hd':dF Z r' rd'):∀U H Q,up Z H0 O0 (dZ rd rd' ta tb tc) U H Q->Fg r r' (sT Z H0 O0 ta) (sT Z H0 O0 tb) (sT Z H0 O0 tc) U H Q:=
 λU H Q ⟨O,Y,Qd,w,q,k⟩=>⟨O,Y,_,w,q,λx v H1 q1 s1 r1=>⟨O,Y,_,w.mono s1,q1,λy u H2 q2 s2 r2=>hd H2 O v u x y _ _ (w.mono (s1.trans s2)).trk (r1.mono s2) r2 q2 λd z H3 uu s3 r3=>by
  obtain⟨c,e,q3⟩:=uu;subst e;cases r3;refine⟨c,rfl,?_⟩;cases c with
  |true=>exact⟨O,Y,_,w.mono (s1.trans (s2.trans s3)),q3,λu' p H4 q4 s4 r4=>hd' H4 O u p y u' Qd _ (w.mono (s1.trans (s2.trans (s3.trans s4)))).trk (r2.mono (s3.trans s4)) r4 q4 λd z H5 qd s5 r5=>k d z H5 qd (s1.trans (s2.trans (s3.trans (s4.trans s5)))) r5⟩
  |false=>exact k _ _ H3 q3 (s1.trans (s2.trans s3)) (.bl false)⟩⟩
theorem F7(ho:bR X (Mz op) r)(ho':bR X (Mz op') r')(hd:dF X.K r rd)(hd':dF X.K r' rd')(ha:DF X H0 O0 a ta)(hb:DF X H0 O0 b tb)(hc:DF X H0 O0 c tc)
 (hm:lastMarks [op,op'] [b,c]=false:=by with_unfolding_all rfl):PT X (.Compare a [op,op'] [b,c] pos) (bZ X.K H0 O0 (cc (dZ rd rd' ta tb tc))):=
 (abc ho ho' ha hb hc hm).imp λU H Q uu=>by obtain⟨O,Y,Qd,w,q,k⟩:=uu;exact Ou hd hd' U H _ ⟨O,Y,_,w,q,λd v H' uu s r=>by obtain⟨b,e,qb⟩:=uu;subst e;cases r;exact⟨b,rfl,k b H' qb s⟩⟩
inductive aQ(Z:VZ)(F:Fa)(vs:List V)(H:Hp)(Q:VK)(E:XK):Prop
 |mk (O:Ex) (ds:List L7) (Qd:L7->Prop):(∀l,O l->H l≠none)->ak Z H O vs ds->F ds Qd->(∀d v H',Qd d->av H H'->Dt Z H' O v d->Q v H')->aQ Z F vs H Q E
def cX(F:Fa)(t:DA):DT:=λY Q=>t Y λds=>F ds Q
theorem adQ:∀U H Q,up Z H0 O0 (cX F t) U H Q->wF (aQ Z F) [] E (oJ Z H0 O0 t) U H Q:=
 λU H Q uu=>by obtain⟨O,Y,Qd,w,q,k⟩:=uu;exact⟨O,Y,_,w,q,λds vs H1 q1 s1 r1=>⟨O,ds,Qd,(w.mono s1).trk,by rw[Wn];exact r1,q1,λd v H2 q2 s2 r2=>k d v H2 q2 (s1.trans s2) r2⟩⟩
inductive sU(Z:VZ)(H:Hp)(O:Ex):List V->List L7->Prop
 |nil:sU Z H O [] []
 |cons {v:V} {d:L7} {vs:List V} {ds:List L7}:Sh Z H O v d->sU Z H O vs ds->sU Z H O (v::vs) (d::ds)
inductive nG(Z:VZ)(H0:Hp)(O0:Ex)(t:DA)(U:St)(H:Hp)(R:List V->Hp->Prop):Prop
 |mk (O:Ex) (Y:Dl) (Qd:List L7->Prop):Wd Z H0 O0 H O U Y->t Y Qd->(∀ds vs H',Qd ds->av H H'->sU Z H' O vs ds->R vs H')->nG Z H0 O0 t U H R
theorem bw:PA X [] (nG X.K H0 O0 dE):=cm.imp λU H Q uu=>by obtain⟨O,Y,Qd,w,q,k⟩:=uu;exact k [] [] H q (av.refl _) .nil
theorem sV(h:DF X H0 O0 e t)(hs:PA X es (nG X.K H0 O0 u))(he:MQ (e::es) X.env=(false,eval e X.env)::MQ es X.env:=by rfl):PA X (e::es) (nG X.K H0 O0 (cV t u)):=
 (bj h hs he).imp λU H Q uu=>by obtain⟨O,Y,Qd,w,q,k⟩:=uu;exact⟨O,Y,_,w,q,λd v H1 q1 s1 r1=>⟨O,Y,_,w.mono s1,q1,λds vs H2 q2 s2 r2=>k (d::ds) (v::vs) H2 q2 (s1.trans s2) (.cons (r1.mono s2) r2)⟩⟩
def g6(F:Fa)(t:DA):DT:=λY Q=>t Y λds=>F ds λd=>dD d=true/\Q d
def sX(Z:VZ)(r:List V->Hp->VK->Prop)(rd:Fa):Prop:=
 ∀(H:Hp)(O:Ex)(xs:List V)(ds:List L7)(Qd:L7->Prop)(R:VK),(∀l,O l->H l≠none)->sU Z H O xs ds->rd ds Qd->(∀d v H',Qd d->av H H'->Dt Z H' O v d->R v H')->r xs H R
theorem cf(hd:sX Z r rd):∀U H Q,up Z H0 O0 (cX rd t) U H Q->wI r (nG Z H0 O0 t) U H Q:=
 λU H Q uu=>by obtain⟨O,Y,Qd,w,q,k⟩:=uu;exact⟨O,Y,_,w,q,λds vs H1 q1 s1 r1=>hd H1 O vs ds Qd _ (w.mono s1).trk r1 q1 λd v H2 q2 s2 r2=>k d v H2 q2 (s1.trans s2) r2⟩
def cB(t u:DS):DS:=λE Y=>t {E with nx:=u E} Y
theorem ao{st:MU}{rest:List MU}{t u:DS}(h:PS X st (bp X.K H0 O0 t))(h2:bE X rest (bp X.K H0 O0 u)):bE X (st::rest) (bp X.K H0 O0 (cB t u)):=
 (gW h h2).imp λD U H uu=>by obtain⟨O,Y,E,w,q,k1,k2,k3,k4⟩:=uu;exact⟨O,Y,_,w,q,λO' Y' U' H' z w' S=>⟨O',Y',E,w',z,λO2 δ2 σ2 H2 z2 w2 S2=>k1 O2 δ2 σ2 H2 z2 w2 (S.trans S2),k2,λO2 δ2 σ2 H2 z2 w2 S2=>k3 O2 δ2 σ2 H2 z2 w2 (S.trans S2),λO2 δ2 σ2 H2 z2 w2 S2=>k4 O2 δ2 σ2 H2 z2 w2 (S.trans S2)⟩,k2,k3,k4⟩
def d4:DS:=λE Y=>E.nx Y
theorem bH:bE X [] (bp X.K H0 O0 d4):=sL.imp λD U H uu=>by obtain⟨O,Y,E,w,q,k1,k2,k3,k4⟩:=uu;exact k1 O Y U H q w (aO.refl _ _)
theorem az{st:MU}{t:DS}(h:PS X st (bp X.K H0 O0 t)):bE X [st] (bp X.K H0 O0 t):=l5 h
def dG(i:Nat)(t:DT):DS:=λE Y=>t Y λd=>E.nx (Y.set i (some (.v d)))
theorem bg{pos pos':Pos}(hN:X.N.Nodup)(hi:X.N[i]?=some x)(hx:oR X.env.scope x)(he:DE X H0 O0 e t)(hs:N3 e (some (.Name x pos')) pos.line X.env=pure false:=by rfl)(hf:X.fn x=true\/X.env.scope.names.lookup x=some .local:=by first|exact .inl rfl|exact .inr rfl|assumption):
 PS X (.Assign [.Name x pos'] e pos) (bp X.K H0 O0 (dG i t)):=
 (mR hN hi hx he hs hf).imp λD U H uu=>by obtain⟨O,Y,E,w,q,k1,k2,k3,k4⟩:=uu;exact⟨O,Y,_,w,q,λd v H1 q1 s1 r1=>k1 O _ _ H1 q1 ((w.mono s1).set r1) (.same s1)⟩
def eZ(t:DT):DS:=λE Y=>t Y E.rt
theorem mU(w:Wd Z H0 O0 H O U Y):aO H H O O0:=⟨λ_ _ e _=>e,λb _ n z=>n (w.sub b z)⟩
theorem aM(he:DE X H0 O0 e t):PS X (.Return (some e) pos) (bp X.K H0 O0 (eZ t)):=
 (mG he).imp λD U H uu=>by obtain⟨O,Y,E,w,q,k1,k2,k3,k4⟩:=uu;exact⟨O,Y,_,w,q,λd v H1 q1 s1 r1=>k2 d v H1 q1 (w.same.trans s1) (r1.step (mU (w.mono s1)))⟩
def dP(i:Nat):DS:=λE Y=>∃ds,Y[i]?=some (some (.o ds))/\E.rt (.list ds)
theorem wU(he:PE X e (lW i)):PS X (.Return (some e) pos) (bp X.K H0 O0 (dP i)):=
 (mG he).imp λD U H uu=>by
  obtain⟨O,Y,E,w,⟨ds,e,q⟩,k1,k2,k3,k4⟩:=uu;obtain⟨l,vs,h,a,b,c,r⟩:=w.own e;exact⟨_,h,k2 _ _ H q w.same (.lst (.inl c) b (r.step (mU w)))⟩
def cw(c:DB)(t u:DS):DS:=λE Y=>c Y λb=>if b=true then t E Y else u E Y
theorem bI(hc:PT X c (bZ X.K H0 O0 tc))(ha:bE X a (bp X.K H0 O0 t))(hb:bE X b (bp X.K H0 O0 u)):PS X (.If c a b pos) (bp X.K H0 O0 (cw tc t u)):=
 (sM hc ha hb).imp λD U H uu=>by obtain⟨O,Y,E,w,q,k1,k2,k3,k4⟩:=uu;exact⟨O,Y,_,w,q,λc H1 q1 s1=>by
  have g:∀{t':DS},t' E Y->bp X.K H0 O0 t' D U H1:=λz=>⟨O,Y,E,w.mono s1,z,λO2 δ2 σ2 H2 z2 w2 S2=>k1 O2 δ2 σ2 H2 z2 w2 (aO.trans (.same s1) S2),k2,λO2 δ2 σ2 H2 z2 w2 S2=>k3 O2 δ2 σ2 H2 z2 w2 (aO.trans (.same s1) S2),λO2 δ2 σ2 H2 z2 w2 S2=>k4 O2 δ2 σ2 H2 z2 w2 (aO.trans (.same s1) S2)⟩;cases c with
  |true=>exact g q1
  |false=>exact g q1⟩
def g7(t:DT):DS:=λE Y=>t Y λ_=>E.nx Y
inductive ue(Z:VZ)(H0:Hp)(O0:Ex)(t:DA)(U:St)(H:Hp)(R:VK):Prop
 |mk (O:Ex) (Y:Dl) (Qd:List L7->Prop):Wd Z H0 O0 H O U Y->t Y Qd->(∀ds vs p H',Qd ds->av H H'->H' p=none->ak Z H' O vs ds->R (.ref p) (ai H' p (.lst vs)))->ue Z H0 O0 t U H R
abbrev FE(X:Cx)(H0:Hp)(O0:Ex)(e:Mb)(t:DA):Prop:=PE X e (ue X.K H0 O0 t)
def dL(t:DA):DT:=λY Q=>t Y λds=>Q (.list ds)
theorem fe(h:FE X H0 O0 e t):DE X H0 O0 e (dL t):=
 h.imp λU H Q uu=>by obtain⟨O,Y,Qd,w,q,k⟩:=uu;exact⟨O,Y,_,w,q,λds vs p H1 q1 s1 hp r1=>k _ _ _ q1 (s1.trans (av.new hp)) (.lst (.inl aV) (vv w s1 hp) (r1.mono (av.new hp)))⟩
def d5(t:DA):DA:=λY Q=>t Y λds=>ds.length<=MT/\Q ds
theorem g8(h:PA X es (oJ X.K H0 O0 t)):FE X H0 O0 (.List es pos) (d5 t):=
 (Bk h).imp λU H Q uu=>by obtain⟨O,Y,Qd,w,q,k⟩:=uu;exact⟨O,Y,_,w,q,λds vs H1 q1 s1 r1=>⟨by rw[r1.length];exact q1.1,λp hp=>k _ _ _ _ q1.2 s1 hp r1⟩⟩
def dQ(i:Nat)(t:DA):DS:=λE Y=>t Y λds=>E.nx (Y.set i (some (.o ds)))
theorem pY{pos pos':Pos}(hN:X.N.Nodup)(hi:X.N[i]?=some x)(hx:oR X.env.scope x)(he:FE X H0 O0 e t)(hs:N3 e (some (.Name x pos')) pos.line X.env=pure false:=by rfl)(hf:X.fn x=true\/X.env.scope.names.lookup x=some .local:=by first|exact .inl rfl|exact .inr rfl|assumption):
 PS X (.Assign [.Name x pos'] e pos) (bp X.K H0 O0 (dQ i t)):=
 (mR hN hi hx he hs hf).imp λD U H ⟨O,Y,E,w,q,k1,k2,k3,k4⟩=>⟨O,Y,_,w,q,λds vs p H1 q1 s1 hp r1=>k1 _ _ _ _ q1 ((w.mono s1).setO hp r1)
  ⟨λb o e _=>(s1.trans (av.new hp)) b o e,λb e n z=>z.elim n λy=>by
   cases q:H b with
   |none=>exact e q
   |some o=>have:=s1 _ _ q;rw[y,hp]at this;cases this⟩⟩
def fc(i:Nat)(t:DT):DS:=λE Y=>∃ds,Y[i]?=some (some (.o ds))/\t Y λd=>ds.length < MT/\E.nx (Y.set i (some (.o (ds++[d]))))
theorem rD{apos cpos pos:Pos}(ho:PE X o (lW i))(he:DE X H0 O0 e t)(hbase:Ny o "append" X.env (eval o X.env)=eval o X.env:=by rfl)
 (hfew:((Mj cpos (MQ [e] X.env)).all (λx=>!x.1) && (Nl cpos (Np [] X.env)).all (λx=>x.1.isSome) && decide ([e].length+([]:List Ng).length+(if ([]:List Ng).isEmpty then 0 else 1) < 30))=true:=by rfl)
 (hline:(apos.endLine==cpos.line)=true:=by rfl)(hst:MQ [e] X.env=(false,eval e X.env)::MQ [] X.env:=by rfl)(hplain:(Mj cpos (MQ [] X.env)).any (·.1)=false:=by rfl)
 (hs:N3 (.Call (.Attribute o "append" apos) [e] [] cpos) none pos.line X.env=pure false:=by rfl):PS X (.Expr (.Call (.Attribute o "append" apos) [e] [] cpos) pos) (bp X.K H0 O0 (fc i t)):=
 (wg (Bp Z0 PySem.F.slot_list_append PySem.F.type_list_append FN ho (bj he cm hst) hbase hfew hline hst hplain) hs).imp λD U H uu=>by
  obtain⟨O,Y,E,w,⟨ds,e,q⟩,k1,k2,k3,k4⟩:=uu;obtain⟨l,vs,h,a,b,c,r⟩:=w.own e;refine⟨_,h,.inl ⟨rfl,_,bb.of c⟩,O,Y,_,w,q,λd v H1 q1 s1 r1=>?_⟩;refine⟨l,vs,v,rfl,rfl,s1 _ _ c,by rw[r.length];exact q1.1,?_⟩;exact k1 _ _ _ _ q1.2 ((w.mono s1).putO (vs:=vs) e h ((r.mono s1).append (.cons r1 .nil))) ⟨λb' o' z n=>by rw[ar (λy=>n (by rw[y];exact a))];exact s1 _ _ z,λ_ _ n=>n⟩
structure d6 (J:It) (P:Hp->Prop) (vs:List V):Prop where
 go:∀i H',P H'->i < vs.length->J.go i H'
 yl:∀i H' x H'',P H'->i < vs.length->J.yld i H' x H''->H''=H'/\vs[i]?=some x
 st:∀i H',P H'->vs.length<=i->J.stop i H'
def uf(H1:Hp)(a:L9)(H':Hp):Prop:=∀o,H1 a=some o->H' a=some o
theorem bb.keep(s:uf H a H')(h:bb Z H a xs):bb Z H' a xs:=by
 rcases h with(h|⟨o,h⟩)|h
 ·exact .inl (.inl (s _ h))
 ·exact .inl (.inr ⟨o,s _ h⟩)
 ·exact .inr h
theorem bo.keep(s:uf H a H')(h:bo Z H a xs):bo Z H' a xs:=by
 rcases h with(h|⟨o,h⟩)|h
 ·exact .inl (.inl (s _ h))
 ·exact .inl (.inr ⟨o,s _ h⟩)
 ·exact .inr h
theorem d6.list(h:bb Z H a vs):d6 (tZ Z a) (uf H a) vs:=
 ⟨λi H' s hi=>⟨vs,vs[i],h.keep s,by simp[hi]⟩,λi H' x H'' s _ y=>⟨y.1,y.2 vs (h.keep s)⟩,λi H' s hi=>⟨vs,h.keep s,hi⟩⟩
theorem d6.tup{Z:VZ}{H:Hp}{a:L9}{vs:List V}(h:bo Z H a vs):d6 (vd Z a) (uf H a) vs:=
 ⟨λi H' s hi=>⟨vs,vs[i],h.keep s,by simp[hi]⟩,λi H' x H'' s _ y=>⟨y.1,y.2 vs (h.keep s)⟩,λi H' s hi=>⟨vs,h.keep s,hi⟩⟩
def oK(lo:Int)(n:Nat):List L7:=(XB n).map λ(k:Nat)=>.int (lo+k)
theorem d6.rng{lo:Int}{n:Nat}:d6 (qv lo n) (λ_=>True) ((XB n).map λ(k:Nat)=>V.int (lo+k)):=by
 refine⟨λi H' s hi=>(by simpa using hi:i < n),λi H' x H'' s hi y=>⟨y.1,?_⟩,λi H' s hi=>(by simpa using hi:n<=i)⟩;obtain⟨_,rfl⟩:=y;have hn:i < n:=by simpa using hi
 simp[hn]
theorem ak.rng{Z:VZ}{lo:Int}:∀(l:List Nat),ak Z H O (l.map λ(k:Nat)=>V.int (lo+k)) (l.map λ(k:Nat)=>Wa (lo+k))
 | []=>.nil
 |n::r=>.cons (.int _) (ak.rng r)
abbrev DG:=L7->Dl->(Dl->Prop)->Prop
def GD(Z:VZ)(g:TG)(dg:DG):Prop:=∀(H0:Hp)(O0:Ex)(H:Hp)(O:Ex)(U:St)(Y:Dl)(v:V)(x:L7)(R:St->Hp->Prop)(Qd:Dl->Prop),Wd Z H0 O0 H O U Y->Dt Z H O v x->dg x Y Qd->(∀Y' U',Qd Y'->Wd Z H0 O0 H O U' Y'->R U' H)->g v U H R
def dR(i:Nat):DG:=λx Y Q=>Q (Y.set i (some (.v x)))
theorem aK:GD Z (oF i) (dR i):=λH0 O0 H O U Y v x R Qd w r q k=>k _ _ q (w.set r)
abbrev sY:=List L7->Dl->(Dl->Prop)->Prop
def wV(Z:VZ)(g:qu)(dg:sY):Prop:=∀(H0:Hp)(O0:Ex)(H:Hp)(O:Ex)(U:St)(Y:Dl)(vs:List V)(xs:List L7)(R:St->Hp->Prop)(Qd:Dl->Prop),Wd Z H0 O0 H O U Y->ak Z H O vs xs->dg xs Y Qd->(∀Y' U',Qd Y'->Wd Z H0 O0 H O U' Y'->R U' H)->g vs U H R
def fg:sY:=λxs Y Q=>xs=[]/\Q Y
def fh(t:DG)(u:sY):sY:=λxs Y Q=>∃x r,xs=x::r/\t x Y λY'=>u r Y' Q
theorem oX:wV Z u9 fg:=λH0 O0 H O U Y vs xs R Qd w r uu k=>by obtain⟨e,q⟩:=uu;subst e;cases r;exact⟨rfl,k _ _ q w⟩
theorem cU(h:GD Z t dt)(h2:wV Z u du):wV Z (rQ t u) (fh dt du):=λH0 O0 H O U Y vs xs R Qd w r uu k=>by
 obtain⟨x,rr,e,q⟩:=uu;subst e;cases r with
 |cons r1 r2=>exact⟨_,_,rfl,h H0 O0 H O U Y _ _ _ _ w r1 q λY' U' q' w'=>h2 H0 O0 H O U' Y' _ _ R Qd w' r2 q' k⟩
def fi(n:Nat)(t:sY):DG:=λx Y Q=>∃xs,x= .tuple xs/\xs.length=n/\t xs Y Q
theorem oY(h:wV Z t dt):GD Z (va Z n t) (fi n dt):=λH0 O0 H O U Y v x R Qd w r uu k=>by
 obtain⟨xs,e,hl,q⟩:=uu;subst e;obtain⟨a,vs,rfl,hs,rr⟩:=(Sh.dt r).tup;exact⟨a,vs,rfl,hs,by rw[rr.length];exact hl,h H0 O0 H O U Y _ _ R Qd w rr q k⟩
section
def fj(t:DT)(g:DG):DS:=λE Y=>t Y λd=>g d Y E.nx
theorem wX{pos:Pos}(he:DE X H0 O0 e t)(hg:PG X tg g)(gd:GD X.K g dg)(hs:swapsWithSole [tg] e pos.line X.env=pure false:=by rfl)(hw:swappedStores [tg] e X.env=pure none:=by rfl)
 (h1:(Ob [tg] X.env).map (·.2)=[assign tg X.env]:=by rfl):PS X (.Assign [tg] e pos) (bp X.K H0 O0 (fj t dg)):=
 (EZ he hg hs hw h1).imp λD U H uu=>by obtain⟨O,Y,E,w,q,k1,k2,k3,k4⟩:=uu;exact⟨O,Y,_,w,q,λd v H1 q1 s1 r1=>gd H0 O0 H1 O U Y v d _ _ (w.mono s1) r1 q1 λY' U' q' w'=>k1 O Y' U' H1 q' w' (.same s1)⟩
def g9(i j:Nat)(t:DA):DS:=λE Y=>t Y λds=>∃x y,ds=[x,y]/\E.nx ((Y.set i (some (.v x))).set j (some (.v y)))
def cC(g:DG)(tb:DS)(E:nN):List L7->Dl->Prop
 | [],Y=>E.nx Y
 |x::xs,Y=>g x Y λδ2=>tb {E with nx:=cC g tb E xs,ct:=cC g tb E xs,bk:=E.nx} δ2
theorem aeD{D:qZ}(S:d6 J P vs)(gd:GD Z g dg)
 (hP:∀H' O',aO H H' O O'->P H')(r:ak Z H O vs xs)(w:Wd Z H0 O0 H O U Y)(q:cC dg tb E xs Y)
 (k1:∀O' Y' U' H',E.nx Y'->Wd Z H0 O0 H' O' U' Y'->aO H H' O O'->D.nx U' H')(k2:∀d v H',E.rt d->av H0 H'->Dt Z H' O0 v d->D.rt v H'):FR J g (bp Z H0 O0 tb) D U H:=by
 refine⟨λi m U' H'=>∃O' Y',m=vs.length - i/\i<=vs.length/\Wd Z H0 O0 H' O' U' Y'/\aO H H' O O'/\cC dg tb E (xs.drop i) Y',⟨vs.length,O,Y,MC,Xe _,w,aO.refl _ _,by simpa using q⟩,?_⟩;rintro i m σ1 H1 ⟨O1,δ1,rfl,hi,w1,S1,q1⟩;by_cases hlt:i < vs.length
 ·refine .inr ⟨S.go i H1 (hP _ _ S1) hlt,λU' H'=>∃O' Y',Wd Z H0 O0 H' O' U' Y'/\aO H H' O O'/\cC dg tb E (xs.drop (i+1)) Y',λU' H' uu=>by obtain⟨O',Y',w',S',q'⟩:=uu;exact⟨vs.length - (i+1),L8,O',Y',rfl,hlt,w',S',q'⟩,λx H' y=>?_⟩;have yy:=S.yl i H1 x H' (hP _ _ S1) hlt y;clear y;obtain⟨e,y⟩:=yy;subst e;obtain⟨d,ed,rd⟩:=r.get y;have hd:xs.drop i=d::xs.drop (i+1):=by
   rw[ZH (h:=(Wf.mp ed).1),(Wf.mp ed).2]
  rw[hd]at q1;refine gd H0 O0 _ O1 σ1 δ1 x d _ _ w1 (rd.step S1) q1 λδ2 σ2 q2 w2=>?_;refine⟨O1,δ2,_,w2,q2,λO' Y' U' H' z w' S'=>⟨O',Y',w',S1.trans S',z⟩,k2,λO' Y' U' H' z w' S'=>k1 O' Y' U' H' z w' (S1.trans S'),λO' Y' U' H' z w' S'=>⟨O',Y',w',S1.trans S',z⟩⟩
 ·have e:i=vs.length:=L8
  subst e;refine .inl ⟨S.st _ H1 (hP _ _ S1) (V4 _),?_⟩;rw[r.length,Sm (V4 _)]at q1;exact k1 O1 δ1 σ1 H1 q1 w1 S1
def qC(g:DG)(tb:DS)(E:nN)(xs:List L7)(Y:Dl):Prop:=∃I:Nat->Dl->Prop,I 0 Y/\(∀i x Y,xs[i]?=some x->I i Y->g x Y λδ2=>tb {E with nx:=I (i+1),ct:=I (i+1),bk:=E.nx} δ2)/\∀Y,I xs.length Y->E.nx Y
theorem wY{D:qZ}(S:d6 J P vs)(gd:GD Z g dg)
 (hP:∀H' O',aO H H' O O'->P H')(r:ak Z H O vs xs)(w:Wd Z H0 O0 H O U Y)(q:qC dg tb E xs Y)
 (k1:∀O' Y' U' H',E.nx Y'->Wd Z H0 O0 H' O' U' Y'->aO H H' O O'->D.nx U' H')(k2:∀d v H',E.rt d->av H0 H'->Dt Z H' O0 v d->D.rt v H'):FR J g (bp Z H0 O0 tb) D U H:=by
 obtain⟨Iv,q0,qs,qe⟩:=q;refine⟨λi m U' H'=>∃O' Y',m=vs.length - i/\i<=vs.length/\Wd Z H0 O0 H' O' U' Y'/\aO H H' O O'/\Iv i Y',⟨vs.length,O,Y,MC,Xe _,w,aO.refl _ _,q0⟩,?_⟩;rintro i m σ1 H1 ⟨O1,δ1,rfl,hi,w1,S1,q1⟩;by_cases hlt:i < vs.length
 ·refine .inr ⟨S.go i H1 (hP _ _ S1) hlt,λU' H'=>∃O' Y',Wd Z H0 O0 H' O' U' Y'/\aO H H' O O'/\Iv (i+1) Y',λU' H' uu=>by obtain⟨O',Y',w',S',q'⟩:=uu;exact⟨vs.length - (i+1),L8,O',Y',rfl,hlt,w',S',q'⟩,λx H' y=>?_⟩;have yy:=S.yl i H1 x H' (hP _ _ S1) hlt y;clear y;obtain⟨e,y⟩:=yy;subst e;obtain⟨d,ed,rd⟩:=r.get y;refine gd H0 O0 _ O1 σ1 δ1 x d _ _ w1 (rd.step S1) (qs i d δ1 ed q1) λδ2 σ2 q2 w2=>?_;refine⟨O1,δ2,_,w2,q2,λO' Y' U' H' z w' S'=>⟨O',Y',w',S1.trans S',z⟩,k2,λO' Y' U' H' z w' S'=>k1 O' Y' U' H' z w' (S1.trans S'),λO' Y' U' H' z w' S'=>⟨O',Y',w',S1.trans S',z⟩⟩
 ·have e:i=vs.length:=L8
  subst e;refine .inl ⟨S.st _ H1 (hP _ _ S1) (V4 _),?_⟩;rw[r.length]at q1;exact k1 O1 δ1 σ1 H1 (qe δ1 q1) w1 S1
def fk(t:DT)(g:DG)(tb:DS):DS:=λE Y=>t Y λd=>∃xs,d= .list xs/\cC g tb E xs Y
def hJ(t:DT)(g:DG)(tb:DS):DS:=λE Y=>t Y λd=>∃xs,d= .tuple xs/\cC g tb E xs Y
def hU(t:DA)(g:DG)(tb:DS):DS:=λE Y=>t Y λds=>∃j:Int,ds=[.int j]/\-(2 ^ 62)<=j/\j < 2 ^ 62/\cC g tb E (oK 0 j.toNat) Y
def hZ(t:DA)(g:DG)(tb:DS):DS:=λE Y=>t Y λds=>∃i j:Int,ds=[.int i,.int j]/\(-(2 ^ 62)<=i/\i < 2 ^ 62/\-(2 ^ 62)<=j/\j < 2 ^ 62)/\cC g tb E (oK i (j - i).toNat) Y
section
variable{tg iter:Mb}{body:List MU}{t:DT}{ta:DA}{g:TG}{dg:DG}{tb:DS}{pos p ps:Pos}
theorem Ox(hp:OL (MK X.prog X.w) X.A X.env X.xe)(hc:X.calm=true)(hi:DE X H0 O0 iter t)(hg:PG X tg g)(gd:GD X.K g dg)(hb:bE X body (bp X.K H0 O0 tb))(hs:∀x,NO iter X.env x=pure x:=by intro _;rfl):
 PS X (.For tg iter body [] pos) (bp X.K H0 O0 (fk t dg tb)):=
 (vi hp hc (ve hi) hg hb hs).imp λD U H uu=>by obtain⟨O,Y,E,w,q,k1,k2,k3,k4⟩:=uu;exact⟨O,Y,_,w,q,λd v H1 uu s1 r1=>by
  obtain⟨xs,e,q1⟩:=uu;subst e;cases r1 with
  |lst h n r=>
   refine⟨_,rfl,⟨_,.inl h⟩,aeD (d6.list (.inl h)) gd (λH' O' S o e=>S.keep _ _ e n) r (w.mono s1) q1 (λO' Y' U' H' z w' S=>k1 O' Y' U' H' z w' (aO.trans (.same s1) S)) k2⟩⟩
end
def fo(t:DT)(g:DG)(tb:DS):DS:=λE Y=>t Y λd=>∃xs,d= .list xs/\qC g tb E xs Y
def fq(t:DT)(g:DG)(tb:DS):DS:=λE Y=>t Y λd=>∃xs,d= .tuple xs/\qC g tb E xs Y
def ft(t:DA)(g:DG)(tb:DS):DS:=λE Y=>t Y λds=>∃j:Int,ds=[.int j]/\-(2 ^ 62)<=j/\j < 2 ^ 62/\qC g tb E (oK 0 j.toNat) Y
def h7(t:DA)(g:DG)(tb:DS):DS:=λE Y=>t Y λds=>∃i j:Int,ds=[.int i,.int j]/\(-(2 ^ 62)<=i/\i < 2 ^ 62/\-(2 ^ 62)<=j/\j < 2 ^ 62)/\qC g tb E (oK i (j - i).toNat) Y
section
variable{tg iter:Mb}{body:List MU}{t:DT}{ta:DA}{g:TG}{dg:DG}{tb:DS}{pos p ps:Pos}
theorem uh(hp:OL (MK X.prog X.w) X.A X.env X.xe)(hc:X.calm=true)(hi:DE X H0 O0 iter t)(hg:PG X tg g)(gd:GD X.K g dg)(hb:bE X body (bp X.K H0 O0 tb))(hs:∀x,NO iter X.env x=pure x:=by intro _;rfl):
 PS X (.For tg iter body [] pos) (bp X.K H0 O0 (fo t dg tb)):=
 (vi hp hc (ve hi) hg hb hs).imp λD U H uu=>by obtain⟨O,Y,E,w,q,k1,k2,k3,k4⟩:=uu;exact⟨O,Y,_,w,q,λd v H1 uu s1 r1=>by
  obtain⟨xs,e,q1⟩:=uu;subst e;cases r1 with
  |lst h n r=>
   refine⟨_,rfl,⟨_,.inl h⟩,wY (d6.list (.inl h)) gd (λH' O' S o e=>S.keep _ _ e n) r (w.mono s1) q1 (λO' Y' U' H' z w' S=>k1 O' Y' U' H' z w' (aO.trans (.same s1) S)) k2⟩⟩
theorem vz(hp:OL (MK X.prog X.w) X.A X.env X.xe)(hc:X.calm=true)(hi:DE X H0 O0 iter t)(hg:PG X tg g)(gd:GD X.K g dg)(hb:bE X body (bp X.K H0 O0 tb))(hs:∀x,NO iter X.env x=pure x:=by intro _;rfl):
 PS X (.For tg iter body [] pos) (bp X.K H0 O0 (fq t dg tb)):=
 (vi hp hc (A9 hi) hg hb hs).imp λD U H uu=>by obtain⟨O,Y,E,w,q,k1,k2,k3,k4⟩:=uu;exact⟨O,Y,_,w,q,λd v H1 uu s1 r1=>by
  obtain⟨xs,e,q1⟩:=uu;subst e;cases r1 with
  |tup h n r=>
   refine⟨_,rfl,⟨_,.inl h⟩,wY (d6.tup (.inl h)) gd (λH' O' S o e=>S.keep _ _ e n) r (w.mono s1) q1 (λO' Y' U' H' z w' S=>k1 O' Y' U' H' z w' (aO.trans (.same s1) S)) k2⟩
  |tupK h r=>
   refine⟨_,rfl,⟨_,h.of0⟩,wY (P:=λ_=>True) ⟨λi H' _ hi=>⟨_,_,h.of0,by simp[hi];rfl⟩,λi H' x H'' _ _ y=>⟨y.1,y.2 _ h.of0⟩,λi H' _ hi=>⟨_,h.of0,hi⟩⟩ gd (λ_ _ _=>trivial) r (w.mono s1) q1 (λO' Y' U' H' z w' S=>k1 O' Y' U' H' z w' (aO.trans (.same s1) S)) k2⟩⟩
theorem BF(hp:OL (MK X.prog X.w) X.A X.env X.xe)(hc:X.calm=true){a:Mb}(hgl:Gl X "range")(hm:X.mg "range"=none)(ha:PA X [a] (oJ X.K H0 O0 ta))(hg:PG X tg g)(gd:GD X.K g dg)(hb:bE X body (bp X.K H0 O0 tb))
 (hst:MQ [a] X.env=[(false,eval a X.env)]:=by rfl)(hs:∀x,NO (.Call (.Name "range" p) [a] [] ps) X.env x=pure x:=by intro _;rfl):
 PS X (.For tg (.Call (.Name "range" p) [a] [] ps) body [] pos) (bp X.K H0 O0 (ft ta dg tb)):=
 (vi hp hc (E5 hgl hm ha hst) hg hb hs).imp λD U H uu=>by obtain⟨O,Y,E,w,q,k1,k2,k3,k4⟩:=uu;exact⟨O,Y,_,w,q,λds vs H1 uu s1 r1=>by
  obtain⟨j,e,b1,b2,q1⟩:=uu;subst e;cases r1 with
  |cons r1 r2=>
   cases r2;cases r1;exact⟨j,rfl,b1,b2,wY d6.rng gd (λ_ _ _=>trivial) (ak.rng _) (w.mono s1) q1 (λO' Y' U' H' z w' S=>k1 O' Y' U' H' z w' (aO.trans (.same s1) S)) k2⟩⟩
end
theorem Wd.letbe(w:Wd Z H0 O0 H O U Y)(e:Y[i]?=some (some y0))(ho:y0.own)(h:U[i]?=some (some (.ref l)))(hd:∀O',aO H H O O'->¬O' l->Dt Z H O' (.ref l) d):
 ∃O',Wd Z H0 O0 H O' U (Y.set i (some (.v d)))/\aO H H O O':=by
 obtain⟨l',x1,a,b⟩:=w.adr e ho;rw[h]at x1;cases x1;have S:aO H H O (λx=>O x/\x≠l):=⟨λ_ _ z _=>z,λ_ _ n z=>n z.1⟩;have li:i < Y.length:=(Wf.mp e).1;have ne:∀{j:Nat}{y:Sl},(Y.set i (some (.v d)))[j]?=some (some y)->y.own->j≠i:=λ{j y} q hy z=>by
  subst z;rw[WM li]at q;cases q;exact hy
 refine⟨_,⟨w.same,λx z=>⟨w.sub x z,λy=>b (by rw[<-y];exact z)⟩,λx z=>w.new x z.1,λx z=>w.trk x z.1,by simp[w.len],λj y q=>?_,λj k y z l' e1 y1 e2 z2 e3 e4=>?_⟩,S⟩
 ·by_cases hj:j=i
  ·subst hj;rw[WM li]at q;cases q;exact⟨.ref l,by rw[h];rfl,hd _ S (λz=>z.2 rfl)⟩
  ·rw[Wg (Ne.symm hj)]at q;refine(w.sl j y q).go S (λb o ho' e' a1 a2 a3=>⟨⟨a1,λz=>?_⟩,a3⟩) (λb o u a1 a2 a3=>⟨⟨a1,λz=>w.nofrz e ho h o u (by rw[<-z];exact a3)⟩,a3⟩) λb o a1 a3=>a3;subst z
   match y,ho',q with
   |some z,ho',q=>exact hj (w.dis j i z y0 _ q (by cases z<;>first|trivial|cases ho') e ho (nM e') h)
 ·have n1:=ne e1 y1;have n2:=ne e2 z2;rw[Wg (Ne.symm n1)]at e1;rw[Wg (Ne.symm n2)]at e2;exact w.dis j k _ _ l' e1 y1 e2 z2 e3 e4
theorem Wd.freeze(w:Wd Z H0 O0 H O U Y)(e:Y[i]?=some (some (.o ds))):∃O',Wd Z H0 O0 H O' U (Y.set i (some (.v (.list ds))))/\aO H H O O':=by
 obtain⟨l,vs,h,a,b,c,r⟩:=w.own e;exact w.letbe (y0:= .o ds) e trivial h λO' S n=>.lst (.inl c) n (r.step S)
def d7(i:Nat)(t:DS):DS:=λE Y=>∃ds,Y[i]?=some (some (.o ds))/\t E (Y.set i (some (.v (.list ds))))
theorem Oy(i:Nat){st:MU}{t:DS}(h:PS X st (bp X.K H0 O0 t)):PS X st (bp X.K H0 O0 (d7 i t)):=
 h.imp λD U H uu=>by
  obtain⟨O,Y,E,w,⟨ds,e,q⟩,k1,k2,k3,k4⟩:=uu;obtain⟨O',w',S⟩:=w.freeze e;exact⟨O',_,E,w',q,λO2 δ2 σ2 H2 z2 w2 S2=>k1 O2 δ2 σ2 H2 z2 w2 (S.trans S2),k2,λO2 δ2 σ2 H2 z2 w2 S2=>k3 O2 δ2 σ2 H2 z2 w2 (S.trans S2),λO2 δ2 σ2 H2 z2 w2 S2=>k4 O2 δ2 σ2 H2 z2 w2 (S.trans S2)⟩
def bJ(k:Nat)(fr:List Nat)(Y:Dl):Dl:=Wj k none++fr.map λj=>(Y[j]?).join
def sZ(g:DG)(tc:DB)(te:DT)(δ0:Dl):List L7->List L7->(List L7->Prop)->Prop
 | [],acc,Q=>Q acc
 |x::xs,acc,Q=>g x δ0 λδ2=>tc δ2 λok=>if ok=true then te δ2 λy=>sZ g tc te δ0 xs (acc++[y]) Q else sZ g tc te δ0 xs acc Q
theorem Wd.comp(w:Wd Z H0 O0 H O U Y){fr:List Nat}(hf:fr.Nodup):Wd Z H0 O0 H O (bK k fr U) (bJ k fr Y):=by
 have at1:∀{α:Type}(l:List (Option α))(i:Nat),(Wj k none++fr.map λj=>(l[j]?).join)[i]?=if i < k then some none else(fr[i - k]?).map λj=>(l[j]?).join:=by
  intro α l i;by_cases h:i < k
  ·rw[M8 h,XI (by simpa using h),YH,M8 h]
  ·rw[M4 h,Yg (by simpa using YQ h),Wm];simp
 have un:∀{α:Type}(l:List (Option α))(i:Nat)(x:α),(Wj k none++fr.map λj=>(l[j]?).join)[i]?=some (some x)->∃j,fr[i - k]?=some j/\k<=i/\l[j]?=some (some x):=by
  intro α l i x h;rw[at1]at h;split at h
  ·cases h
  ·cases e:fr[i - k]? with
   |none=>rw[e]at h;cases h
   |some j=>
    rw[e]at h;refine⟨j,rfl,L8,?_⟩;have h':(l[j]?).join=some x:=Xt h;cases q:l[j]? with
    |none=>rw[q]at h';cases h'
    |some o=>rw[q]at h';rw[show o=some x from h']
 refine⟨w.same,w.sub,w.new,w.trk,by simp[bK,bJ],λi y e=>?_,λi j y z l e1 y1 e2 z2 e3 e4=>?_⟩
 ·match y,e with
  |none,_=>exact X8
  |some x,e=>
   obtain⟨j,hj,hk,ej⟩:=un Y i x e;have q:=w.sl j _ ej;have e2:((bK k fr U)[i]?).join=(U[j]?).join:=by
    unfold bK;rw[at1,M4 L8,hj];rfl
   rw[e2];exact q
 ·obtain⟨a,ha,ka,ea⟩:=un Y i _ e1;obtain⟨b,hb,kb,eb⟩:=un Y j _ e2;obtain⟨a',ha',_,ea'⟩:=un U i _ e3;obtain⟨b',hb',_,eb'⟩:=un U j _ e4;rw[ha]at ha';cases ha';rw[hb]at hb';cases hb';have:=w.dis a b y z l ea y1 eb z2 ea' eb';subst this;have e5:=(List.getElem?_inj (l:=fr) (i:=i - k) (j:=j - k) (Wf.mp ha).1 hf).mp (by rw[ha,hb]);omega
theorem acv{tc:TT}{dc:DB}{te:TE}{fr:List Nat}(S:d6 J P vs)(gd:GD Z g dg)(hf:fr.Nodup)
 (hk:∀v:V,∀U':St,∀H':Hp,∀R:St->Hp->Prop,g v (bK k fr U) H' R->g v (bK k fr U) H' λσ2 H2=>rT (bK k fr U) σ2/\R σ2 H2)
 (hc:∀U H Q,bZ Z H0 O0 dc U H Q->tc U H Q)(he:∀U H Q,up Z H0 O0 de U H Q->te U H Q)
 (hP:∀D H',H D=none->uc D H H'->P H')(r:ak Z H O vs xs)(w:Wd Z H0 O0 H O U Y)(hz:vs.length<=MT)(q:sZ dg dc de (bJ k fr Y) xs [] Qd)
 (k1:∀ds us p H',Qd ds->av H H'->H' p=none->ak Z H' O us ds->Q (.ref p) (ai H' p (.lst us))):sS J g tc te k fr U H Q:=by
 intro D hD;have w0:Wd Z H0 O0 H O (bK k fr U) (bJ k fr Y):=w.comp hf;have nD:¬O D:=λz=>w.trk D z hD;have D0:H0 D=none:=by
  cases e:H0 D with
  |none=>rfl
  |some o=>rw[w.same _ _ e]at hD;cases hD
 have ex:∀H',uc D H H'->H' D≠none->Wd Z H0 O0 H' (λa=>O a\/a=D) (bK k fr U) (bJ k fr Y):=λH' s' hd=>by
  have S':aO H H' O (λa=>O a\/a=D):=⟨λb o e _=>s' b o e (lQ e hD),λb hb hn z=>z.elim hn λq=>hb (by rw[q];exact hD)⟩;refine⟨λb o e=>s' b o (w.same b o e) (λz=>by rw[z,D0]at e;cases e),λl z=>.inl (w.sub l z),λl z=>z.elim (w.new l) λq=>.inr (by rw[q];exact D0),λl z=>?_,w0.len,λj y e=>?_,w0.dis⟩
  ·by_cases ql:l=D
   ·rw[ql];exact hd
   ·have hl:=w.trk l (z.resolve_right ql);cases e:H l with
    |none=>exact absurd e hl
    |some o=>rw[s' l o e ql];exact λz=>nomatch z
  ·exact(w0.sl j y e).go S' (λl o _ _ a1 _ a3=>⟨.inl a1,s' _ _ a3 (λz=>nD (by rw[<-z];exact a1))⟩) (λa o u a1 _ a3=>⟨.inl a1,s' _ _ a3 (λz=>nD (by rw[<-z];exact a1))⟩) λa o a1 a3=>s' _ _ a3 (λz=>nD (by rw[<-z];exact w.sub _ a1))
 refine⟨λi m H'=>∃acc ys,m=vs.length - i/\i<=vs.length/\uc D H H'/\H' D=some (.lst ys)/\ys.length<=i/\ak Z H' (λa=>O a\/a=D) ys acc/\sZ dg dc de (bJ k fr Y) (xs.drop i) acc Qd,⟨vs.length,[],[],MC,Xe _,λb o e n=>by rw[ar n];exact e,aV,Xe _,.nil,by simpa using q⟩,?_⟩;rintro i m H1 ⟨acc,ys,rfl,hi,s1,e1,hy,ra,q1⟩;by_cases hlt:i < vs.length
 ·refine .inr ⟨S.go i H1 (hP D H1 hD s1) hlt,λx H' y=>?_⟩;have yy:=S.yl i H1 x H' (hP D H1 hD s1) hlt y;clear y;obtain⟨e,y⟩:=yy;subst e;obtain⟨d,ed,rd⟩:=r.get y;have hd:xs.drop i=d::xs.drop (i+1):=by
   rw[ZH (h:=(Wf.mp ed).1),(Wf.mp ed).2]
  rw[hd]at q1;have w1:=ex _ s1 (by rw[e1];exact λz=>nomatch z);have S':aO H H' O (λa=>O a\/a=D):=⟨λb o e _=>s1 b o e (lQ e hD),λb hb hn z=>z.elim hn λq=>hb (by rw[q];exact hD)⟩;refine hk x U _ _ (gd H0 O0 _ _ _ _ x d _ _ w1 (rd.step S') q1 λδ2 σ2 q2 w2=>?_);refine hc σ2 _ _ ⟨_,δ2,_,w2,q2,λok H3 q3 s3=>?_⟩;cases ok with
  |true=>
   rw[M8 rfl];refine he σ2 H3 _ ⟨_,δ2,_,w2.mono s3,q3,λd' v H4 q4 s4 r4=>?_⟩;have e4:=s4 _ _ (s3 _ _ e1);have sD:aO H4 (ai H4 D (.lst (ys++[v]))) (λa=>O a\/a=D) (λa=>O a\/a=D):=⟨λb o e n=>by rw[ar (λz=>n (.inr z))];exact e,λ_ _ n=>n⟩;refine⟨ys,e4,L8,vs.length - (i+1),L8,acc++[d'],ys++[v],rfl,hlt,λb o e n=>by rw[ar n];exact s4 _ _ (s3 _ _ (s1 b o e n)),aV,by simpa using hy,?_,q4⟩;exact((ra.mono (s3.trans s4)).append (.cons r4 .nil)).step sD
  |false=>
   rw[M4 MA];exact⟨vs.length - (i+1),L8,acc,ys,rfl,hlt,λb o e n=>s3 _ _ (s1 b o e n),s3 _ _ e1,L8,ra.mono s3,q3⟩
 ·have e:i=vs.length:=L8
  subst e;refine .inl ⟨S.st _ H1 (hP D H1 hD s1) (V4 _),?_⟩;rw[r.length,Sm (V4 _)]at q1;have hrest:∃H2:Hp,H2 D=none/\av H H2/\H1=ai H2 D (.lst ys):=by
   refine⟨λb=>if b=D then none else H1 b,MC,λb o e=>?_,?_⟩
   ·have n:=lQ e hD;show(if b=D then none else H1 b)=some o;rw[M4 n];exact s1 b o e n
   ·funext b;by_cases z:b=D
    ·rw[z,aV];exact e1
    ·rw[ar z];show H1 b=if b=D then none else H1 b;rw[M4 z]
  obtain⟨H2,h2,s2,rfl⟩:=hrest;refine k1 acc ys D H2 q1 s2 h2 (ra.step ⟨λb o e n=>?_,λb _ n z=>n (.inl z)⟩);rw[ar (λz=>n (.inr z))]at e;exact e
def mV(g:DG)(tc:DB)(te:DT)(δ0:Dl)(xs:List L7)(Q:List L7->Prop):Prop:=∃I:Nat->List L7->Prop,I 0 []/\(∀i x acc,xs[i]?=some x->I i acc->g x δ0 λδ2=>tc δ2 λok=>if ok=true then te δ2 λy=>I (i+1) (acc++[y]) else I (i+1) acc)/\∀acc,I xs.length acc->Q acc
theorem tf{tc:TT}{dc:DB}{te:TE}{fr:List Nat}(S:d6 J P vs)(gd:GD Z g dg)(hf:fr.Nodup)
 (hk:∀v:V,∀U':St,∀H':Hp,∀R:St->Hp->Prop,g v (bK k fr U) H' R->g v (bK k fr U) H' λσ2 H2=>rT (bK k fr U) σ2/\R σ2 H2)
 (hc:∀U H Q,bZ Z H0 O0 dc U H Q->tc U H Q)(he:∀U H Q,up Z H0 O0 de U H Q->te U H Q)
 (hP:∀D H',H D=none->uc D H H'->P H')(r:ak Z H O vs xs)(w:Wd Z H0 O0 H O U Y)(hz:vs.length<=MT)(q:mV dg dc de (bJ k fr Y) xs Qd)
 (k1:∀ds us p H',Qd ds->av H H'->H' p=none->ak Z H' O us ds->Q (.ref p) (ai H' p (.lst us))):sS J g tc te k fr U H Q:=by
 obtain⟨Iv,q0,qs,qe⟩:=q;intro D hD;have w0:Wd Z H0 O0 H O (bK k fr U) (bJ k fr Y):=w.comp hf;have nD:¬O D:=λz=>w.trk D z hD;have D0:H0 D=none:=by
  cases e:H0 D with
  |none=>rfl
  |some o=>rw[w.same _ _ e]at hD;cases hD
 have ex:∀H',uc D H H'->H' D≠none->Wd Z H0 O0 H' (λa=>O a\/a=D) (bK k fr U) (bJ k fr Y):=λH' s' hd=>by
  have S':aO H H' O (λa=>O a\/a=D):=⟨λb o e _=>s' b o e (lQ e hD),λb hb hn z=>z.elim hn λq=>hb (by rw[q];exact hD)⟩;refine⟨λb o e=>s' b o (w.same b o e) (λz=>by rw[z,D0]at e;cases e),λl z=>.inl (w.sub l z),λl z=>z.elim (w.new l) λq=>.inr (by rw[q];exact D0),λl z=>?_,w0.len,λj y e=>?_,w0.dis⟩
  ·by_cases ql:l=D
   ·rw[ql];exact hd
   ·have hl:=w.trk l (z.resolve_right ql);cases e:H l with
    |none=>exact absurd e hl
    |some o=>rw[s' l o e ql];exact λz=>nomatch z
  ·exact(w0.sl j y e).go S' (λl o _ _ a1 _ a3=>⟨.inl a1,s' _ _ a3 (λz=>nD (by rw[<-z];exact a1))⟩) (λa o u a1 _ a3=>⟨.inl a1,s' _ _ a3 (λz=>nD (by rw[<-z];exact a1))⟩) λa o a1 a3=>s' _ _ a3 (λz=>nD (by rw[<-z];exact w.sub _ a1))
 refine⟨λi m H'=>∃acc ys,m=vs.length - i/\i<=vs.length/\uc D H H'/\H' D=some (.lst ys)/\ys.length<=i/\ak Z H' (λa=>O a\/a=D) ys acc/\Iv i acc,⟨vs.length,[],[],MC,Xe _,λb o e n=>by rw[ar n];exact e,aV,Xe _,.nil,q0⟩,?_⟩;rintro i m H1 ⟨acc,ys,rfl,hi,s1,e1,hy,ra,q1⟩;by_cases hlt:i < vs.length
 ·refine .inr ⟨S.go i H1 (hP D H1 hD s1) hlt,λx H' y=>?_⟩;have yy:=S.yl i H1 x H' (hP D H1 hD s1) hlt y;clear y;obtain⟨e,y⟩:=yy;subst e;obtain⟨d,ed,rd⟩:=r.get y;have w1:=ex _ s1 (by rw[e1];exact λz=>nomatch z);have S':aO H H' O (λa=>O a\/a=D):=⟨λb o e _=>s1 b o e (lQ e hD),λb hb hn z=>z.elim hn λq=>hb (by rw[q];exact hD)⟩;refine hk x U _ _ (gd H0 O0 _ _ _ _ x d _ _ w1 (rd.step S') (qs i d acc ed q1) λδ2 σ2 q2 w2=>?_);refine hc σ2 _ _ ⟨_,δ2,_,w2,q2,λok H3 q3 s3=>?_⟩;cases ok with
  |true=>
   rw[M8 rfl];refine he σ2 H3 _ ⟨_,δ2,_,w2.mono s3,q3,λd' v H4 q4 s4 r4=>?_⟩;have e4:=s4 _ _ (s3 _ _ e1);have sD:aO H4 (ai H4 D (.lst (ys++[v]))) (λa=>O a\/a=D) (λa=>O a\/a=D):=⟨λb o e n=>by rw[ar (λz=>n (.inr z))];exact e,λ_ _ n=>n⟩;refine⟨ys,e4,L8,vs.length - (i+1),L8,acc++[d'],ys++[v],rfl,hlt,λb o e n=>by rw[ar n];exact s4 _ _ (s3 _ _ (s1 b o e n)),aV,by simpa using hy,?_,q4⟩;exact((ra.mono (s3.trans s4)).append (.cons r4 .nil)).step sD
  |false=>
   rw[M4 MA];exact⟨vs.length - (i+1),L8,acc,ys,rfl,hlt,λb o e n=>s3 _ _ (s1 b o e n),s3 _ _ e1,L8,ra.mono s3,q3⟩
 ·have e:i=vs.length:=L8
  subst e;refine .inl ⟨S.st _ H1 (hP D H1 hD s1) (V4 _),?_⟩;rw[r.length]at q1;have hrest:∃H2:Hp,H2 D=none/\av H H2/\H1=ai H2 D (.lst ys):=by
   refine⟨λb=>if b=D then none else H1 b,MC,λb o e=>?_,?_⟩
   ·have n:=lQ e hD;show(if b=D then none else H1 b)=some o;rw[M4 n];exact s1 b o e n
   ·funext b;by_cases z:b=D
    ·rw[z,aV];exact e1
    ·rw[ar z];show H1 b=if b=D then none else H1 b;rw[M4 z]
  obtain⟨H2,h2,s2,rfl⟩:=hrest;refine k1 acc ys D H2 (qe acc q1) s2 h2 (ra.step ⟨λb o e n=>?_,λb _ n z=>n (.inl z)⟩);rw[ar (λz=>n (.inr z))]at e;exact e
def ia(t:DT)(g:DG)(tc:DB)(te:DT)(k:Nat)(fr:List Nat):DA:=λY Q=>t Y λd=>∃xs,d= .list xs/\xs.length<=MT/\sZ g tc te (bJ k fr Y) xs [] Q
def ib(t:DT)(g:DG)(tc:DB)(te:DT)(k:Nat)(fr:List Nat):DA:=λY Q=>t Y λd=>∃xs,d= .tuple xs/\xs.length<=MT/\sZ g tc te (bJ k fr Y) xs [] Q
def ic(ta:DA)(g:DG)(tc:DB)(te:DT)(k:Nat)(fr:List Nat):DA:=λY Q=>ta Y λds=>∃j:Int,ds=[.int j]/\-(2 ^ 62)<=j/\j < MT/\sZ g tc te (bJ k fr Y) (oK 0 j.toNat) [] Q
def cL:DB:=λ_ Q=>Q true
def pZ(g:TG)(k:Nat):Prop:=∀(fr:List Nat)(U:St)(v:V)(H':Hp)(R:St->Hp->Prop),g v (bK k fr U) H' R->g v (bK k fr U) H' λσ2 H2=>rT (bK k fr U) σ2/\R σ2 H2
theorem bS:pZ (oF 0) 1:=λfr U v H' R h=>⟨FY,h⟩
def dS(t:DT)(g:DG)(tc:DB)(te:DT)(k:Nat)(fr:List Nat):DA:=λY Q=>t Y λd=>∃xs,d= .list xs/\xs.length<=MT/\mV g tc te (bJ k fr Y) xs Q
def dU(t:DT)(g:DG)(tc:DB)(te:DT)(k:Nat)(fr:List Nat):DA:=λY Q=>t Y λd=>∃xs,d= .tuple xs/\xs.length<=MT/\mV g tc te (bJ k fr Y) xs Q
def fu(ta:DA)(g:DG)(tc:DB)(te:DT)(k:Nat)(fr:List Nat):DA:=λY Q=>ta Y λds=>∃j:Int,ds=[.int j]/\-(2 ^ 62)<=j/\j < MT/\mV g tc te (bJ k fr Y) (oK 0 j.toNat) Q
section
variable{tg iter elt:Mb}{ifs:List Mb}{scope:ND}{N':List Str}{k:Nat}{fr:List Nat}{g:TG}{dg:DG}{t:DT}{ta:DA}{tc:DB}{te:DT}{pos p ps:Pos}
theorem mJ(hc:X.calm=true)(S:aU X.env.scope X.N N' k fr scope)(hi:DF X H0 O0 iter t)(gd:GD X.K g dg)(hk:pZ g k)(hfr:fr.Nodup)
 (hg:∀fp C s H,PG (bG X scope N' fp C s H) tg g)(hf:∀fp C s H,nv (bG X scope N' fp C s H) ifs (bZ X.K H0 O0 tc))(he:∀fp C s H,PE (bG X scope N' fp C s H) elt (up X.K H0 O0 te))
 (hs:∀x,NO iter X.env x=pure x:=by intro _;rfl):FE X H0 O0 (.ListComp elt [⟨tg,iter,ifs,0⟩] scope pos) (dS t dg tc te k fr):=
 (t9 hc S (ve hi) hg hf he hs).imp λU H Q uu=>by obtain⟨O,Y,Qd,w,q,kk⟩:=uu;exact⟨O,Y,_,w,q,λd v H1 uu s1 r1=>by
  obtain⟨xs,e,hz,q1⟩:=uu;subst e;obtain⟨a,vs,rfl,hq,rr⟩:=r1.lst;refine⟨a,rfl,⟨_,hq⟩,λD hD=>tf (d6.list hq) gd hfr (λv _ H' R h=>hk fr U v H' R h) (λ_ _ _ z=>z) (λ_ _ _ z=>z) (λD H' hD s' o e=>s' _ _ e (lQ e hD)) rr (w.mono s1) (by rw[rr.length];exact hz) q1 (λds us p H' z s' hp r'=>kk ds us p H' z (s1.trans s') hp r') D hD⟩⟩
theorem oZ(hc:X.calm=true)(S:aU X.env.scope X.N N' k fr scope)(hi:DF X H0 O0 iter t)(gd:GD X.K g dg)(hk:pZ g k)(hfr:fr.Nodup)
 (hg:∀fp C s H,PG (bG X scope N' fp C s H) tg g)(hf:∀fp C s H,nv (bG X scope N' fp C s H) ifs (bZ X.K H0 O0 tc))(he:∀fp C s H,PE (bG X scope N' fp C s H) elt (up X.K H0 O0 te))
 (hs:∀x,NO iter X.env x=pure x:=by intro _;rfl):FE X H0 O0 (.ListComp elt [⟨tg,iter,ifs,0⟩] scope pos) (dU t dg tc te k fr):=
 (t9 hc S (A9 hi) hg hf he hs).imp λU H Q uu=>by obtain⟨O,Y,Qd,w,q,kk⟩:=uu;exact⟨O,Y,_,w,q,λd v H1 uu s1 r1=>by
  obtain⟨xs,e,hz,q1⟩:=uu;subst e;obtain⟨a,vs,rfl,hq,rr⟩:=r1.tup;refine⟨a,rfl,⟨_,hq⟩,λD hD=>tf (d6.tup hq) gd hfr (λv _ H' R h=>hk fr U v H' R h) (λ_ _ _ z=>z) (λ_ _ _ z=>z) (λD H' hD s' o e=>s' _ _ e (lQ e hD)) rr (w.mono s1) (by rw[rr.length];exact hz) q1 (λds us p H' z s' hp r'=>kk ds us p H' z (s1.trans s') hp r') D hD⟩⟩
theorem F8(hc:X.calm=true)(S:aU X.env.scope X.N N' k fr scope)(hgl:Gl X "range")(hm:X.mg "range"=none)(ha:PA X [a] (nG X.K H0 O0 ta))(gd:GD X.K g dg)(hk:pZ g k)(hfr:fr.Nodup)
 (hg:∀fp C s H,PG (bG X scope N' fp C s H) tg g)(hf:∀fp C s H,nv (bG X scope N' fp C s H) ifs (bZ X.K H0 O0 tc))(he:∀fp C s H,PE (bG X scope N' fp C s H) elt (up X.K H0 O0 te))
 (hst:MQ [a] X.env=[(false,eval a X.env)]:=by rfl)(hs:∀x,NO (.Call (.Name "range" p) [a] [] ps) X.env x=pure x:=by intro _;rfl):
 FE X H0 O0 (.ListComp elt [⟨tg,(.Call (.Name "range" p) [a] [] ps),ifs,0⟩] scope pos) (fu ta dg tc te k fr):=
 (t9 hc S (E5 hgl hm ha hst) hg hf he hs).imp λU H Q uu=>by obtain⟨O,Y,Qd,w,q,kk⟩:=uu;exact⟨O,Y,_,w,q,λds vs H1 uu s1 r1=>by
  obtain⟨j,e,b1,b2,q1⟩:=uu;subst e;cases r1 with
  |cons r1 r2=>
   cases r2;cases r1.int;have hb:(MT:Int) < 2 ^ 62:=MA
   exact⟨j,rfl,b1,L8,λD hD=>tf (P:=λ_=>True) d6.rng gd hfr (λv _ H' R h=>hk fr U v H' R h) (λ_ _ _ z=>z) (λ_ _ _ z=>z) (λ_ _ _ _=>trivial) (ak.rng _) (w.mono s1) (by rw[V0,YX];omega) q1 (λds us p H' z s' hp r'=>kk ds us p H' z (s1.trans s') hp r') D hD⟩⟩
end
end
def dI(g:Int->Int->L7):L7->L7->(L7->Prop)->Prop:=λx y Q=>∃i j,x= .int i/\y= .int j/\Q (g i j)
def fx(C:Int->Int->Prop)(g:Int->Int->L7):L7->L7->(L7->Prop)->Prop:=λx y Q=>∃i j,x= .int i/\y= .int j/\C i j/\Q (g i j)
theorem cu{g:Int->Int->Int}:dF Z (pP λi j=>.int (g i j)) (dI λi j=>.int (g i j)):=λH O x y dx dy Qd R _ hx hy uu k=>by
 obtain⟨i,j,e1,e2,q⟩:=uu;subst e1 e2;cases hx.int;cases hy.int;exact⟨i,j,rfl,rfl,k _ _ H q (av.refl _) (.int _)⟩
theorem n4{g:Int->Int->Bool}:dF Z (pP λi j=>.bl (g i j)) (dI λi j=>.bool (g i j)):=λH O x y dx dy Qd R _ hx hy uu k=>by
 obtain⟨i,j,e1,e2,q⟩:=uu;subst e1 e2;cases hx.int;cases hy.int;exact⟨i,j,rfl,rfl,k _ _ H q (av.refl _) (.bl _)⟩
theorem pd{g:Int->Int->Int}:dF Z (rI C λi j=>.int (g i j)) (fx C λi j=>.int (g i j)):=λH O x y dx dy Qd R _ hx hy uu k=>by
 obtain⟨i,j,e1,e2,c,q⟩:=uu;subst e1 e2;cases hx.int;cases hy.int;exact⟨i,j,rfl,rfl,c,k _ _ H q (av.refl _) (.int _)⟩
def F9(Z:VZ):R2:=λx y H Q=>∃O dx dy,Sh Z H O x dx/\Sh Z H O y dy/\bP dx/\bP dy/\Q (.bl (Ws dx dy)) H
def Ga(Z:VZ):R2:=λx y H Q=>∃O dx dy,Sh Z H O x dx/\Sh Z H O y dy/\bP dx/\bP dy/\Q (.bl (!Ws dx dy)) H
theorem cF{X:Cx}(hu:X.A.units+64 < Mq):bR X (Mz .Eq) (F9 X.K):=by
 intro aeK s U H x y v u Q I rx ry h;obtain⟨O,dx,dy,hx,hy,sx,sy,q⟩:=h;obtain⟨as,ra⟩:=pW I hx.all (X5 sx) rx;obtain⟨bs,rb⟩:=pW I hy.all (X5 sy) ry;exact SeqAt.compareEq_shaped ra rb sx sy hu (bL I q rfl)
theorem rE{X:Cx}(hu:X.A.units+64 < Mq):bR X (Mz .NotEq) (Ga X.K):=by
 intro aeK s U H x y v u Q I rx ry h;obtain⟨O,dx,dy,hx,hy,sx,sy,q⟩:=h;obtain⟨as,ra⟩:=pW I hx.all (X5 sx) rx;obtain⟨bs,rb⟩:=pW I hy.all (X5 sy) ry;exact SeqAt.compareNe_shaped ra rb sx sy hu (bL I q rfl)
def d8:L7->L7->(L7->Prop)->Prop:=λx y Q=>bP x/\bP y/\Q (.bool (Ws x y))
def fy:L7->L7->(L7->Prop)->Prop:=λx y Q=>bP x/\bP y/\Q (.bool (!Ws x y))
theorem cG:dF Z (F9 Z) d8:=λH O x y dx dy Qd R _ hx hy uu k=>by obtain⟨a,b,q⟩:=uu;exact⟨O,dx,dy,hx,hy,a,b,k _ _ H q (av.refl _) (.bl _)⟩
theorem rF:dF Z (Ga Z) fy:=λH O x y dx dy Qd R _ hx hy uu k=>by obtain⟨a,b,q⟩:=uu;exact⟨O,dx,dy,hx,hy,a,b,k _ _ H q (av.refl _) (.bl _)⟩
def fz:L7->L7->(L7->Prop)->Prop:=λx y Q=>∃ds i d,x= .list ds/\y= .int i/\atI ds i=some d/\Q d
def cY:L7->L7->(L7->Prop)->Prop:=λx y Q=>∃ds i d,x= .tuple ds/\y= .int i/\atI ds i=some d/\Q d
theorem ak.atI(r:ak Z H O vs ds)(e:L2.atI ds i=some d):∃v,L2.atI vs i=some v/\Dt Z H O v d:=by
 unfold L2.atI at e⊢;rw[r.length];cases q:pT ds.length i with
 |none=>rw[q]at e;cases e
 |some j=>rw[q]at e;exact r.getD e
theorem d9:dF Z (Bo Z) fz:=λH O x y dx dy Qd R _ hx hy uu k=>by
 obtain⟨ds,i,d,e1,e2,e3,q⟩:=uu;subst e1 e2;obtain⟨a,vs,rfl,hs,r⟩:=hx.lst;cases hy.int;obtain⟨v,hv,rv⟩:=r.atI e3;exact⟨a,vs,i,v,rfl,rfl,hs,hv,k d v H q (av.refl _) rv⟩
theorem aH:dF Z (wJ Z) cY:=λH O x y dx dy Qd R _ hx hy uu k=>by
 obtain⟨ds,i,d,e1,e2,e3,q⟩:=uu;subst e1 e2;obtain⟨a,vs,rfl,hs,r⟩:=hx.tup;cases hy.int;obtain⟨v,hv,rv⟩:=r.atI e3;exact⟨a,vs,i,v,rfl,rfl,hs,hv,k d v H q (av.refl _) rv⟩
def ie(ta tb:DT):DA:=λY Q=>ta Y λx=>tb Y λy=>∃xs ys,x= .list xs/\y= .list ys/\xs.length+ys.length<=MT/\Q (xs++ys)
def ig:L7->L7->(L7->Prop)->Prop:=λx y Q=>∃xs ys,x= .tuple xs/\y= .tuple ys/\xs≠[]/\xs.length+ys.length<=MT/\Q (.tuple (xs++ys))
def cM(xs:List L7)(lo hi:Option Int):List L7:=(xs.drop (HT.sIx xs.length 0 lo)).take (HT.sIx xs.length xs.length hi - HT.sIx xs.length 0 lo)
theorem ak.cut(r:ak Z H O vs ds)(lo hi:Option Int):ak Z H O (rA vs lo hi) (cM ds lo hi):=by
 unfold rA cM;rw[r.length];exact(r.drop _).take _
abbrev DO:=Dl->(Option Int->Prop)->Prop
inductive rG(Z:VZ)(H0:Hp)(O0:Ex)(t:DO)(U:St)(H:Hp)(R:Option Int->Hp->Prop):Prop
 |mk (O:Ex) (Y:Dl) (Qd:Option Int->Prop):Wd Z H0 O0 H O U Y->t Y Qd->(∀d H',Qd d->av H H'->R d H')->rG Z H0 O0 t U H R
def fA:DO:=λ_ Q=>Q none
def fB(t:DT):DO:=λY Q=>t Y λd=>∃i,d= .int i/\Q (some i)
theorem PO.imp{t u:TO}(h:PO X e t)(i:∀U H Q,u U H Q->t U H Q):PO X e u:=λaeK s U H Q I z=>h aeK s U H Q I (i U H Q z)
theorem p6:PO X none (rG X.K H0 O0 fA):=adt.imp λU H Q uu=>by obtain⟨O,Y,Qd,w,q,k⟩:=uu;exact k none H q (av.refl _)
theorem mq(h:DE X H0 O0 e t):PO X (some e) (rG X.K H0 O0 (fB t)):=(adS h).imp λU H Q uu=>by obtain⟨O,Y,Qd,w,q,k⟩:=uu;exact⟨O,Y,_,w,q,λd v H1 uu s1 r1=>by obtain⟨i,e,q1⟩:=uu;subst e;cases r1;exact⟨i,rfl,k _ H1 q1 s1⟩⟩
def fC(t:DT)(tl th:DO):DA:=λY Q=>t Y λd=>tl Y λl=>th Y λu=>∃xs,d= .list xs/\Q (cM xs l u)
def ij(t:DT)(tl th:DO):DT:=λY Q=>t Y λd=>tl Y λl=>th Y λu=>∃xs,d= .tuple xs/\¬(HT.sIx xs.length 0 l=0/\HT.sIx xs.length xs.length u=xs.length)/\Q (.tuple (cM xs l u))
theorem vA{e:Mb}{lo hi:Option Mb}{t:DT}{tl th:DO}(h:DF X H0 O0 e t)(hl:PO X lo (rG X.K H0 O0 tl))(hu:PO X hi (rG X.K H0 O0 th)):FE X H0 O0 (.Subscript e (.Slice lo hi none p2) pos) (fC t tl th):=
 (Bl NA h hl hu).imp λU H Q uu=>by obtain⟨O,Y,Qd,w,q,k⟩:=uu;exact⟨O,Y,_,w,q,λd v H1 q1 s1 r1=>⟨O,Y,_,w.mono s1,q1,λl H2 q2 s2=>⟨O,Y,_,w.mono (s1.trans s2),q2,λu H3 uu s3=>by
  obtain⟨xs,e,q3⟩:=uu;subst e;obtain⟨a,vs,rfl,h1,d1⟩:=(r1.mono (s2.trans s3)).lst;exact⟨a,vs,rfl,h1,λp hp=>k _ _ _ _ q3 (s1.trans (s2.trans s3)) hp (d1.cut l u)⟩⟩⟩⟩
theorem nO(ho:t8 X r)(hd:dF X.K r rd)(ha:DF X H0 O0 a ta)(hb:DF X H0 O0 b tb)(hs:∀v u,Og b false v u=operate [v,u] (Na v u):=by intro _ _;rfl):DE X H0 O0 (.Subscript a b pos) (bM rd ta tb):=(pU ho ha hb hs).imp (wR hd)
def fD:Fa:=λds Q=>∃xs,(ds=[.list xs]\/ds=[.tuple xs])/\Q (.int xs.length)
def ik:Fa:=λds Q=>∃xs,ds=[oU xs]/\Q (.int xs.length)
theorem qD:sX Z (λxs H Q=>∃p ys,xs=[.ref p]/\(bb Z H p ys\/bo Z H p ys)/\Q (.int ys.length) H) fD:=λH O xs ds Qd R _ hs uu k=>by
 obtain⟨ys,e,q⟩:=uu;rcases e with e|e<;>subst e
 ·cases hs with
  |cons h r=>
   cases r;obtain⟨a,vs,rfl,h1,d1⟩:=h.lst;exact⟨a,vs,rfl,.inl h1,by rw[d1.length];exact k _ _ H q (av.refl _) (.int _)⟩
 ·cases hs with
  |cons h r=>
   cases r;obtain⟨a,vs,rfl,h1,d1⟩:=h.tup;exact⟨a,vs,rfl,.inr h1,by rw[d1.length];exact k _ _ H q (av.refl _) (.int _)⟩
def fE:Fa:=λds Q=>∃xs,ds=[.list xs]/\Q (.tuple xs)
theorem n5:sX Z (λxs H Q=>∃p ys,xs=[.ref p]/\((bb Z H p ys/\∀l,H l=none->Q (.ref l) (ai H l (.tup ys)))\/(bo Z H p ys/\Q (.ref p) H))) fE:=λH O xs ds Qd R tr hs uu k=>by
 obtain⟨ys,e,q⟩:=uu;subst e;cases hs with
 |cons h r=>
  cases r;obtain⟨a,vs,rfl,h1,d1⟩:=h.lst;exact⟨a,vs,rfl,.inl ⟨h1,λl hl=>k _ _ _ q (av.new hl) (.tup (.inl aV) (λz=>tr l z hl) (d1.mono (av.new hl)))⟩⟩
theorem ak.bools:∀{bs:List Bool}{vs:List V},ak Z H O vs (bs.map Ya)->vs=bs.map V.bl
 | [],_,r=>by rw[WD]at r;cases r;rfl
 |b::bs,_,r=>by
  rw[V2]at r;cases r with
  |cons h r=>cases h;rw[V2,ak.bools r]
def fF(g:List Bool->Bool):Fa:=λds Q=>∃bs:List Bool,ds=[.list (bs.map .bool)]/\Q (.bool (g bs))
theorem wZ{g:List Bool->Bool}:sX Z (λxs H Q=>∃(a:L9)(bs:List Bool),xs=[.ref a]/\bb Z H a (bs.map V.bl)/\Q (.bl (g bs)) H) (fF g):=λH O xs ds Qd R tr hs uu k=>by
 obtain⟨bs,e,q⟩:=uu;subst e;cases hs with
 |cons h r=>
  cases r;obtain⟨a,vs,rfl,h1,d1⟩:=h.lst;cases d1.bools;exact⟨a,bs,rfl,h1,k _ _ H q (av.refl _) (.bl _)⟩
def fG(g:Int->Int->Int):Fa:=λds Q=>∃i j,ds=[.int i,.int j]/\Q (.int (g i j))
theorem BG{g:Int->Int->Int}:sX Z (λxs H Q=>∃i j,xs=[.int i,.int j]/\Q (.int (g i j)) H) (fG g):=λH O xs ds Qd R tr hs uu k=>by
 obtain⟨i,j,e,q⟩:=uu;subst e;cases hs with
 |cons h r=>
  cases r with
  |cons h2 r=>
   cases r;cases h.int;cases h2.int;exact⟨i,j,rfl,k _ _ H q (av.refl _) (.int _)⟩
def BH:L7->String
 | .none=> "NoneType" | .bool _=> "bool" | .int _=> "int" | .str _=> "str" | .list _=> "list" | .tuple _=> "tuple" | .dict _=> "dict"
def iq(neg:Bool):L7->L7->(L7->Prop)->Prop:=λx y Q=>∃ds,(y= .list ds\/y= .tuple ds)/\dD x=true/\ds.all dD=true/\Q (.bool (if neg then !(ds.any λd=>Ws d x) else ds.any λd=>Ws d x))
def cD(N:List Str)(ds:List L7):Dl:=ds.map (λd=>some (.v d))++Wj (N.length - ds.length) none
theorem Gb{H:Hp}{O:Ex}(tr:∀l,O l->H l≠none)(r:ak Z H O vs ds):Wd Z H O H O (start N vs) (cD N ds):=by
 have hl:=r.length;have at1:∀(i:Nat) y,(cD N ds)[i]?=some y->(∃d,ds[i]?=some d/\y=some (.v d))\/y=none:=λi y e=>by
  unfold cD at e;by_cases h:i < ds.length
  ·rw[XI (by simpa using h),Wm]at e;cases q:ds[i]? with
   |none=>rw[q]at e;cases e
   |some d=>rw[q]at e;exact .inl ⟨d,rfl,(Xt e).symm⟩
  ·rw[Yg (by simpa using YQ h),YH]at e;split at e
   ·exact .inr (Xt e).symm
   ·cases e
 refine⟨av.refl _,λ_ z=>z,λ_ z=>.inl z,tr,by simp[start,cD,hl],λi y e=>?_,λi j ds' es l e1=>?_⟩
 ·rcases at1 i y e with⟨d,hd,rfl⟩|rfl
  ·obtain⟨v,hv,rv⟩:=r.getD hd;refine⟨v,?_,rv⟩;unfold start;rw[XI (by simpa using(Wf.mp hv).1),Wm,hv];rfl
  ·exact X8
 ·rcases at1 i _ e1 with⟨d,_,z⟩|z
  ·cases z;intro h;exact h.elim
  ·cases z
theorem mT.okD{x qual:Str}{st:MU}{f:L9}{fd:MZ}{N ps:List Str}{k:Nat}{F:Fa}(Fu:mT Z x qual st f fd)(S:aL N ps (aq st))(len:∀ds Q,F ds Q->ds.length=ps.length)
 (hbody:∀(cdv:M3) (A:N0) (outer:List Env) (s:M6) (H:Hp) (O:Ex) (ds:List L7) (Q:L7->Prop) (E:XK),bf k (A.deeper (Nf qual (aq st) s.heap.objs.size f cdv))->F ds Q->
  ∃t,bE (pR MX P w Z mg base N qual (aq st) f cdv A outer s H E).nox (nK st) (bp Z H O t)/\t {nx:=λ_=>Q .none,rt:=Q} (cD N ds)):aB P w Z mg base MX (k+1) f fd ps (aQ Z F):=by
 refine Fu.ok S (λvs H Q E h=>?_) (λcdv A outer s H vs Q E hr h=>?_)
 ·obtain⟨O,ds,Qd,_,r,q,_⟩:=h;rw[r.length];exact len _ _ q
 ·obtain⟨O,ds,Qd,tr,r,q,k⟩:=h;obtain⟨t,ht,q'⟩:=hbody cdv A outer s H O ds Qd E hr q;refine⟨_,ht,O,_,_,Gb tr r,q',λO' Y' U' H' z w' S'=>?_,λd v H' z s' r'=>k d v H' z s' r',λ_ _ _ _ z=>z.elim,λ_ _ _ _ z=>z.elim⟩;exact k _ _ _ z w'.same .non
theorem mK:nv X [] (bZ X.K H0 O0 cL):=λaeK s U H Q I h=>by
 obtain⟨O,Y,Qd,w,q,k⟩:=h;exact FV aeK s U H Q I (k true H q (av.refl _))
theorem Oz:l6 X (.builtin "isinstance") (λxs H Q=>∃O d T b x,xs=[x,.ty T]/\Dt X.K H O x d/\(∀x,d≠ .dict [(.none,x)])/\kitOne X.K (.type (BH d)) (.type T)=some b/\Q (.bl b) H):=by
 intro aeK s U H xs us Q I r h;obtain⟨O,d,T,b,x,rfl,hd,hp,hk,q⟩:=h;obtain⟨u,w',rfl,rx,rt⟩:=wz r;cases (show w'=Zk T from rt);have fin:∀tk,EP X aeK U Q (.bool b) {s with toks:=tk}:=λtk=>⟨.bl b,H,I.tok tk,rfl,q⟩;cases hd with
 |non=>cases (show u=Yn from rx);exact OD kitx_none I.kIn X8 hk (λz=>nomatch z) fin
 |bl y=>cases (show u=Y3 y from rx);exact OD kitx_bool I.kIn X8 hk (λz=>nomatch z) fin
 |int i=>obtain⟨t,e⟩:=(show ∃t,u=YJ i t from rx);cases e;exact OD kitx_int I.kIn X8 hk (λz=>nomatch z) fin
 |str y=>obtain⟨t,e⟩:=(show ∃t,u=Zd y t from rx);cases e;exact OD kitx_str I.kIn X8 hk (λz=>nomatch z) fin
 | @tup a xs ds h n rr=>
  cases (show u=W5 a from rx);obtain⟨its,rv,⟨o,e,c,_⟩,_⟩:=I.tuple (.inl h);exact OD kitx_tuple I.kIn ⟨o,e,c⟩ hk (λz=>nomatch z) fin
 | @tupK a xs ds h rr=>
  cases (show u=W5 a from rx);obtain⟨its,rv,⟨o,e,c,_⟩,_⟩:=I.tuple h.of0;exact OD kitx_tuple I.kIn ⟨o,e,c⟩ hk (λz=>nomatch z) fin
 | @lst a xs ds h n rr=>
  cases (show u=W5 a from rx);obtain⟨its,rv,⟨o,_,e,c,_⟩,_⟩:=I.list (.inl h);exact OD kitx_list I.kIn ⟨o,e,c⟩ hk (λz=>nomatch z) fin
 |pack h n=>exact absurd rfl (hp _)
 |purse h n=>exact absurd rfl (hp _)
 |scr h r=>exact absurd rfl (hp _)
 |obj h e n r=>exact absurd rfl (hp _)
 | @dct0 a h n=>
  cases (show u=W5 a from rx);obtain⟨_,_,_,_,o,_,_,e,c,_⟩:=(show cA X.prog X.w H s.heap a (.dK []) from I.hok a _ h);exact OD kitx_dict I.kIn ⟨o,e,c.1⟩ hk (λz=>nomatch z) fin
 | @dic a ob kv ks kp ds h e1 e2 n rr=>
  cases (show u=W5 a from rx);obtain⟨_,_,_,_,o,_,_,e,c,_⟩:=(show cA X.prog X.w H s.heap a (.dK kv) from(I.hok a _ h).2);exact OD kitx_dict I.kIn ⟨o,e,c.1⟩ hk (λz=>nomatch z) fin
def eB(Z:VZ)(T:String)(t:DT):DT:=λY Q=>t Y λd=>∃b,kitOne Z (.type (BH d)) (.type T)=some b/\(∀x,d≠ .dict [(.none,x)])/\Q (.bool b)
theorem aef{T:String}{a c:Mb}{t:DT}{np p:Pos}(hg:Gl X "isinstance")(hm:X.mg "isinstance"=none)(hv:N6 "isinstance"=some (.builtin "isinstance"))(ha:DF X H0 O0 a t)(hc:PE X c (tC (.ty T)))
 (hs:MQ [a,c] X.env=(false,eval a X.env)::MQ [c] X.env:=by rfl)(hs2:MQ [c] X.env=[(false,eval c X.env)]:=by rfl)(hb:(Mj p (MQ [c] X.env)).any (·.1)=false:=by rfl):DE X H0 O0 (.Call (.Name "isinstance" np) [a,c] [] p) (eB X.K T t):=
 (dA Oz hg hm hv (bj ha (bj hc cm hs2) hs) (he:=hs) (hpl:=hb)).imp λU H Q uu=>by obtain⟨O,Y,Qd,w,q,k⟩:=uu;exact⟨O,Y,_,w,q,λd v H1 uu s1 r1=>by obtain⟨b,e,hp,q1⟩:=uu;exact⟨λ_=>False,d,T,b,v,rfl,r1.all,hp,e,k _ _ H1 q1 s1 (.bl b)⟩⟩
def fH:L7->L7->(L7->Prop)->Prop:=λx y Q=>∃i j,x= .str i/\y= .str j/\i.length+j.length<=MT/\Q (.str (i++j))
theorem BI:dF Z (λx y H Q=>∃i j,x= .str i/\y= .str j/\i.length+j.length<=MT/\Q (.str (i++j)) H) fH:=λH O x y dx dy Qd R tr hx hy uu k=>by
 obtain⟨i,j,e1,e2,hz,q⟩:=uu;subst e1 e2;cases hx.str;cases hy.str;exact⟨i,j,rfl,rfl,hz,k _ _ H q (av.refl _) (.str _)⟩
def fI:L7->L7->(L7->Prop)->Prop:=λx y Q=>∃z i c,x= .str z/\y= .int i/\z.length<=MT/\atI z.cps.toList i=some c/\Q (.str ⟨#[c]⟩)
theorem adX:dF Z FJ fI:=λH O x y dx dy Qd R tr hx hy uu k=>by
 obtain⟨z,i,c,e1,e2,hz,e3,q⟩:=uu;subst e1 e2;cases hx.str;cases hy.int;exact⟨z,i,c,rfl,rfl,hz,e3,k _ _ H q (av.refl _) (.str _)⟩
def adI:V->Option Int->Option Int->Hp->VK->Prop:=λx lo hi H Q=>∃z,x= .str z/\z.length<=MT/\Q (.str (Txt.slice z lo hi)) H
theorem aes:vq X adI:=by
 intro aeK s U H x v vl vu lo hi sl Q I rx hs pl pu h;obtain⟨z,rfl,hz,q⟩:=h;obtain⟨t,rfl⟩:=rx;have e1:∃l:Option (Int×Tok),vl=partValue l/\l.map (·.1)=lo:=by
  cases pl with
  |none=>exact⟨none,rfl,rfl⟩
  |int i t=>exact⟨some (i,t),rfl,rfl⟩
 have e2:∃l:Option (Int×Tok),vu=partValue l/\l.map (·.1)=hi:=by
  cases pu with
  |none=>exact⟨none,rfl,rfl⟩
  |int i t=>exact⟨some (i,t),rfl,rfl⟩
 obtain⟨l,rfl,rfl⟩:=e1;obtain⟨u,rfl,rfl⟩:=e2;refine⟨"str",_,F.slot_str_getitem.lookup,Oa _ _ _,wpAny_getItem_str_slice (l:=l) (u:=u) (st:=none) hs rfl ?_⟩;exact post_val_or_str ⟨Wy (Txt.slice_le z _ _) hz,λt' k=>⟨.str (Txt.slice z (l.map (·.1)) (u.map (·.1))),H,I.tok _,⟨_,rfl⟩,q⟩⟩
def fJ(t:DT)(tl th:DO):DT:=λY Q=>t Y λd=>tl Y λl=>th Y λu=>∃z,d= .str z/\z.length<=MT/\Q (.str (Txt.slice z l u))
theorem vB{e:Mb}{lo hi:Option Mb}{t:DT}{tl th:DO}(h:DF X H0 O0 e t)(hl:PO X lo (rG X.K H0 O0 tl))(hu:PO X hi (rG X.K H0 O0 th)):DE X H0 O0 (.Subscript e (.Slice lo hi none p2) pos) (fJ t tl th):=
 (Bl aes h hl hu).imp λU H Q uu=>by obtain⟨O,Y,Qd,w,q,k⟩:=uu;exact⟨O,Y,_,w,q,λd v H1 q1 s1 r1=>⟨O,Y,_,w.mono s1,q1,λl H2 q2 s2=>⟨O,Y,_,w.mono (s1.trans s2),q2,λu H3 uu s3=>by
  obtain⟨z,e,hz,q3⟩:=uu;subst e;cases r1.str;exact⟨z,rfl,hz,k _ _ H3 q3 (s1.trans (s2.trans s3)) (.str _)⟩⟩⟩⟩
theorem BJ:∀{ys:List Str}{vs:List V}{us:List M3},ak Z H O vs (ys.map V8)->aF vs us->StrsAre us ys:=by
 intro ys
 induction ys with
 |nil=>intro vs us r rv;rw[WD]at r;cases r;cases rv;exact .nil
 |cons y ys ih=>
  intro vs us r rv;rw[V2]at r;cases r with
  |cons h r=>
   cases h;cases rv with
   |cons r1 r2=>
    obtain⟨t,rfl⟩:=r1;exact .cons y t (ih r r2)
def iu(to:DT)(t:DT):DT:=λY Q=>to Y λx=>∃z:Str,x= .str z/\t Y λy=>∃(ys:List Str),y= .list (ys.map .str)/\(ys.map (·.length)).sum+ys.length*z.length<=16777216/\Q (.str (Txt.join z ys))
def fK:Fa:=λds Q=>(∃i,ds=[.int i]/\Q (.int i))\/∃b,ds=[.bool b]/\Q (.int (if b then 1 else 0))
theorem w8:sX Z (λxs H Q=>(∃i,xs=[.int i]/\Q (.int i) H)\/∃k,xs=[.bl k]/\Q (.int (if k then 1 else 0)) H) fK:=λH O xs ds Qd R tr hs h k=>by
 rcases h with⟨i,e,q⟩|⟨b,e,q⟩<;>subst e
 ·cases hs with
  |cons h r=>cases r;cases h.int;exact .inl ⟨i,rfl,k _ _ H q (av.refl _) (.int _)⟩
 ·cases hs with
  |cons h r=>cases r;cases h.bl;exact .inr ⟨b,rfl,k _ _ H q (av.refl _) (.int _)⟩
def fL(t:DA):DA:=λY Q=>t Y λds=>∃xs,(ds=[.list xs]\/ds=[.tuple xs])/\Q xs
theorem OE{a:Mb}{t:DA}{np p:Pos}(hg:Gl X "list")(hm:X.mg "list"=none)(hv:N6 "list"=some (.type "list"))(ha:PA X [a] (nG X.K H0 O0 t))(he:MQ [a] X.env=(false,eval a X.env)::MQ [] X.env:=by rfl)(hpl:(Mj p (MQ [] X.env)).any (·.1)=false:=by rfl):FE X H0 O0 (.Call (.Name "list" np) [a] [] p) (fL t):=
 (lY ads hg hm hv ha (he:=he) (hpl:=hpl)).imp λU H Q uu=>by obtain⟨O,Y,Qd,w,q,k⟩:=uu;exact⟨O,Y,_,w,q,λds vs H1 uu s1 r1=>by
  obtain⟨xs,e,q1⟩:=uu;rcases e with e|e<;>subst e
  ·cases r1 with
   |cons h r=>
    cases r;obtain⟨a,us,rfl,h1,d1⟩:=h.lst;exact⟨a,us,rfl,.inl h1,λl hl=>k _ _ _ _ q1 s1 hl d1⟩
  ·cases r1 with
   |cons h r=>
    cases r;obtain⟨a,us,rfl,h1,d1⟩:=h.tup;exact⟨a,us,rfl,.inr h1,λl hl=>k _ _ _ _ q1 s1 hl d1⟩⟩
def iw(t:DT):DA:=λY Q=>t Y λd=>∃xs,d= .list xs/\Q xs.reverse
section
variable{X:Cx}{aeK:List (L9×Obj)}{U:St}{H:Hp}{s:M6}
theorem af.swap{p:L9}{o':HO}(I:af X aeK U H s)(mu:tX (H p))(new:cA X.prog X.w (ai H p o') s.heap p o'):af X aeK U (ai H p o') s:=by
 have hp:∃o,H p=some o:=by
  cases e:H p with
  |none=>rw[e]at mu;exact mu.elim
  |some o=>exact⟨o,rfl⟩
 obtain⟨o,ho⟩:=hp;have nn:∀{b:L9},H b=none->b≠p:=λhb z=>by rw[z,ho]at hb;cases hb
 have nt:∀{b:L9}{xs:List V},H b=some (.tup xs)->b≠p:=λhb z=>by rw[z]at hb;rw[hb]at mu;exact mu
 have nw:∀{b y:L9},H b=some (.own y)->b≠p:=λhb z=>by rw[z]at hb;rw[hb]at mu;exact mu
 have nf:∀{b:L9}{ob:Obj}{u:HO},H b=some (.frz ob u)->b≠p:=λhb z=>by rw[z]at hb;rw[hb]at mu;exact mu
 have nc:∀{b:L9}{q:Str},H b=some (.cod q)->b≠p:=λhb z=>by rw[z]at hb;rw[hb]at mu;exact mu
 have nb:∀{b:L9}{ps:Array M3},H b=some (.tbl ps)->b≠p:=λhb z=>by rw[z]at hb;rw[hb]at mu;exact mu
 have ub:=I.base;refine⟨I.ok,I.os,I.bare,⟨ub.keep,ub.slot,λb ob e n hx=>?_,ub.there,λb xs z=>?_,λb ob u z=>?_,λb ps z=>?_⟩,I.loc,I.cell,?_,λx c e=>?_,λq hq=>?_,λb u e=>?_,I.len⟩
 ·have:=ub.free b ob e n hx;rw[ar (nn this)];exact this
 ·have:=ub.tups b xs z;rw[ar (nt this)];exact this
 ·have:=ub.frzs b ob u z;rw[ar (nf this)];exact this
 ·obtain⟨m,this⟩:=ub.tbls b ps z;exact⟨m,by rw[ar (nb this)];exact this⟩
 ·rw[ar (nn I.free)];exact I.free
 ·have:=I.freeC x c e;rw[ar (nn this)];exact this
 ·obtain⟨a,b,c⟩:=I.pin q hq;exact⟨a,by rw[ar (nn b)];exact b,c⟩
 ·by_cases hb:b=p
  ·subst hb;rw[aV]at e;cases e;exact new
  ·rw[ar hb]at e;exact(I.hok b u e).stay (λ_ _ _ q=>q) (λc z=>by rw[ar (nw z)];exact z) (λc xs z=>by rw[ar (nt z)];exact z) λc xs z=>by rw[ar (nc z)];exact z
theorem af.open{p:L9}(I:af X aeK U H s)(e:H p=some (rB p)):∃n,af X aeK U (ai H p (.lst [.int n])) s:=by
 obtain⟨⟨n,t,k,h⟩,_,_⟩:=(show cA X.prog X.w H s.heap p (rB p) from I.hok p _ e);exact⟨n,I.swap (by rw[e];exact X8) ⟨(show 1<=MT by decide),[.int n t],k,.cons ⟨t,rfl⟩ .nil,h⟩⟩
theorem af.shut{p:L9}{n:Int}(I:af X aeK U H s)(e:H p=some (.lst [.int n])):af X aeK U (ai H p (rB p)) s:=by
 obtain⟨_,its,k,r,h⟩:=(show cA X.prog X.w H s.heap p (.lst [.int n]) from I.hok p _ e);cases r with
 |cons r1 r2=>
  cases r2;obtain⟨t,rfl⟩:=r1;refine I.swap (by rw[e];exact X8) ⟨⟨n,t,k,h⟩,⟨_,h⟩,λh1 h2 uu kk=>by obtain⟨n,t,k,z⟩:=uu;exact⟨n,t,k,kk _ z⟩⟩
theorem bE.pack{st:List MU}{t:TS}(h:bE X st t):bE X st (λD U H=>∃p,H p=some (rB p)/\∀n,t {nx:=λU' H'=>∃n',H' p=some (.lst [.int n'])/\D.nx U' (ai H' p (rB p)),rt:=λv H'=>∃n',H' p=some (.lst [.int n'])/\D.rt v (ai H' p (rB p))} U (ai H p (.lst [.int n]))):=by
 intro aeK s U H D I ⟨p,e,q⟩;obtain⟨n,I1⟩:=I.open e;refine aA (h aeK s U _ _ I1 (q n)) λf s1 z=>?_;cases f with
 |next=>obtain⟨U',H',J,n',e',q'⟩:=z;exact⟨U',_,J.shut e',q'⟩
 |ret u=>obtain⟨v,U',H',J,r,n',e',q'⟩:=z;exact⟨v,U',_,J.shut e',r,q'⟩
 |brk=>obtain⟨_,_,_,z⟩:=z;exact z.elim
 |cont=>obtain⟨_,_,_,z⟩:=z;exact z.elim
theorem bE.newPack{st:List MU}{t:TS}(h:bE X st t):bE X st (λD U H=>t {nx:=λ_ _=>False,rt:=λv H'=>∃p n,v= .ref p/\H' p=some (.lst [.int n])/\D.rt v (ai H' p (rB p))} U H):=by
 intro aeK s U H D I q;refine aA (h aeK s U _ _ I q) λf s1 z=>?_;cases f with
 |next=>obtain⟨_,_,_,z⟩:=z;exact z.elim
 |ret u=>obtain⟨v,U',H',J,r,p,n',e,e',q'⟩:=z;subst e;exact⟨_,U',_,J.shut e',r,q'⟩
 |brk=>obtain⟨_,_,_,z⟩:=z;exact z.elim
 |cont=>obtain⟨_,_,_,z⟩:=z;exact z.elim
end
def Gd:Fa:=λds Q=>∃z:Int,ds=[pV,.int z]/\0 < z/\z<=1000000/\∀i:Int,0<=i->i < z->Q (.int i)
def OF:Fa:=λds Q=>∃(ns:List Int)(i:Int),ds=[oU (ns.map .int),.int i]/\(∀z∈ns,XT z<=1048576)/\0<=i/\i<=64/\Q pV
theorem bN{α:Type}{a:α}{l:List α}:atI (a::l) 0=some a:=rS (j:=0) rfl
theorem cN{α:Type}{a b:α}{l:List α}:atI (a::b::l) 1=some b:=rS (j:=1) rfl
theorem dH{α:Type}{a b c:α}{l:List α}:atI (a::b::c::l) 2=some c:=rS (j:=2) rfl
theorem cO{α:Type}{a b c d:α}{l:List α}:atI (a::b::c::d::l) 3=some d:=rS (j:=3) rfl
theorem fM{α:Type}{a b c d e:α}{l:List α}:atI (a::b::c::d::e::l) 4=some e:=rS (j:=4) rfl
theorem fN:bP (.int i):=rfl
theorem ix:bP (.bool i):=rfl
theorem iy:bP .none:=rfl
theorem bT:Ws (.str x) (.str y)=(x==y):=by simp[Ws]
theorem iz:Ws (.int x) (.int y)=(x==y):=by simp[Ws]
theorem iA:Ws (.bool x) (.bool y)=(x==y):=by simp[Ws]
theorem cQ:bP (.str x)↔V6 x=true:=by
 unfold bP ZQ;simp[Xm,Zu]
theorem t7:HT.sIx n d none=d:=rfl
theorem ui{n d:Nat}{i:Int}(h0:0<=i)(h1:i<=n):HT.sIx n d (some i)=i.toNat:=by
 obtain⟨j,rfl⟩:=Zi h0;rw[HT.sIx_nat,YW];omega
theorem rX{xs:List L7}{i:Int}(h0:0<=i)(h1:i<=xs.length):cM xs none (some i)=xs.take i.toNat:=by
 unfold cM;rw[t7,ui h0 h1];simp
theorem xp{xs:List L7}{i:Int}(h0:0<=i)(h1:i<=xs.length):cM xs (some i) none=xs.drop i.toNat:=by
 unfold cM;rw[t7,ui h0 h1,WU (by rw[YO];exact V4 _)]
theorem Ge{lo:Int}{n i:Nat}{x:L7}(h:(oK lo n)[i]?=some x):i < n/\x= .int (lo+i):=by
 unfold oK at h;rw[Wm]at h;by_cases hi:i < n
 ·rw[List.getElem?_range hi]at h;exact⟨hi,(Xt h).symm⟩
 ·rw[Yc (by simpa using hi)]at h;cases h
theorem xq{lo:Int}{n:Nat}:(oK lo n).length=n:=by unfold oK;simp
section
variable{κ:Type}[DecidableEq κ]
def mr(kvs:List (κ×V))(k:κ):Option V:=(kvs.find? λkv=>decide (kv.1=k)).map (·.2)
def putK(kvs:List (κ×V))(k:κ)(v:V):List (κ×V):=
 if (kvs.any λkv=>decide (kv.1=k))=true then kvs.map (λkv=>if kv.1=k then(kv.1,v) else kv) else kvs++[(k,v)]
theorem vC{p:κ×V}(e:p.1=k):mr (p::r) k=some p.2:=by simp[mr,XN,e]
theorem uj{p:κ×V}(e:¬p.1=k):mr (p::r) k=mr r k:=by simp[mr,XN,e]
theorem Gf(k:κ):∀kvs:List (κ×V),(kvs.any λkv=>decide (kv.1=k))=(mr kvs k).isSome
 | []=>rfl
 |p::r=>by
  rw[WY];by_cases e:p.1=k
  ·simp only[vC e,decide_eq_true e,Bool.true_or,Rq]
  ·rw[uj e,decide_eq_false e,Xk];exact Gf k r
theorem BK(kvs:List (κ×V))(k:κ)(v:V):(putK kvs k v).length<=kvs.length+1:=by
 unfold putK;split
 ·rw[V0];omega
 ·rw[Wt,V5,WB];omega
theorem mF.isSome_eq(r:mF o u):o.isSome=u.isSome:=by
 cases o with
 |none=>cases u with
  |none=>rfl
  |some _=>exact(show False from r).elim
 |some _=>cases u with
  |none=>exact(show False from r).elim
  |some _=>rfl
theorem mF.getD(r:mF o u)(rd:aG d d'):aG (o.getD d) (u.getD d'):=by
 cases o with
 |none=>cases u with
  |none=>exact rd
  |some _=>exact(show False from r).elim
 |some _=>cases u with
  |none=>exact(show False from r).elim
  |some _=>exact r
theorem KV.val(r:KV kvs vs)(k:κ):mF (mr kvs k) (valueAt vs k):=by
 unfold KV at r
 induction r with
 |nil=>exact X8
 | @cons p q ps qs h t ih=>
  obtain⟨h1,h2⟩:=h;by_cases e:p.1=k
  ·have e':q.1=k:=h1.symm.trans e;have b:valueAt (q::qs) k=some q.2:=by simp[valueAt,XN,e']
   rw[vC e,b];exact h2
  ·have e':¬q.1=k:=λz=>e (h1.trans z);have b:valueAt (q::qs) k=valueAt qs k:=by simp[valueAt,XN,e']
   rw[uj e,b];exact ih
theorem KV.any(r:KV kvs vs)(k:κ):(kvs.any λkv=>decide (kv.1=k))=vs.any λkv=>decide (kv.1=k):=by
 unfold KV at r
 induction r with
 |nil=>rfl
 |cons h t ih=>rw[WY,WY,ih,h.1]
theorem KV.repl(r:KV kvs vs)(k:κ)(ry:aG y u):
 KV (kvs.map λkv=>if kv.1=k then(kv.1,y) else kv) (vs.map λkv=>if kv.1=k then(kv.1,u) else kv):=by
 unfold KV at r⊢
 induction r with
 |nil=>exact .nil
 | @cons p q ps qs h t ih=>
  rw[V2,V2];refine .cons ?_ ih;obtain⟨h1,h2⟩:=h;by_cases e:p.1=k
  ·rw[M8 e,M8 (h1.symm.trans e)];exact⟨h1,ry⟩
  ·rw[M4 e,M4 (λz=>e (h1.trans z))];exact⟨h1,h2⟩
theorem KV.put(r:KV kvs vs)(k:κ)(ry:aG y u):KV (putK kvs k y) (stored vs k u):=by
 unfold putK stored;rw[r.any k];by_cases e:(vs.any λkv=>decide (kv.1=k))=true
 ·rw[M8 e,M8 e];exact r.repl k ry
 ·rw[M4 e,M4 e];exact TJ r ⟨rfl,ry⟩
theorem KV.keys{kvs:List (κ×V)}{vs:List (κ×M3)}(r:KV kvs vs):kvs.map (·.1)=vs.map (·.1):=by
 unfold KV at r
 induction r with
 |nil=>rfl
 |cons h t ih=>rw[V2,V2,ih,h.1]
theorem KV.length{kvs:List (κ×V)}{vs:List (κ×M3)}(r:KV kvs vs):kvs.length=vs.length:=QQ r
end
theorem rY(r:aG (kV k) u):(cK P w).is k u=true:=by
 cases k with
 |inl i=>obtain⟨t,e⟩:=(show ∃t,u=YJ i t from r);subst e;exact Me P w i t
 |inr x=>obtain⟨t,e⟩:=(show ∃t,u=Zd x t from r);subst e;exact Mf P w x t
theorem Gg:∀{ks:List aj}{us:List M3},aF (ks.map kV) us->ItemsAre (cK P w) ks us
 | [],_,r=>by rw[WD]at r;cases r;exact .nil
 |k::ks,_,r=>by
  rw[V2]at r;cases r with
  |cons h t=>exact .cons (rY h) (Gg t)
abbrev KT(H:Hp):List (List aj×V)->List (List aj×L9×M3)->Prop:=Paired λp q=>p.1=q.1/\H q.2.1=some (.tup (p.1.map kV))/\aG p.2 q.2.2
theorem KT.val(r:KT H kvs xs)(k:List aj):mF (mr kvs k) ((atKey xs k).map (·.2)):=by
 induction r with
 |nil=>exact X8
 | @cons p q ps qs h t ih=>
  obtain⟨h1,_,h2⟩:=h;by_cases e:p.1=k
  ·have e':q.1=k:=h1.symm.trans e;have b:atKey (q::qs) k=some q.2:=by simp[atKey,XN,e']
   rw[vC e,b];exact h2
  ·have e':¬q.1=k:=λz=>e (h1.trans z);have b:atKey (q::qs) k=atKey qs k:=by simp[atKey,XN,e']
   rw[uj e,b];exact ih
theorem KT.repl(r:KT H kvs xs)(k:List aj)(ry:aG y u):
 KT H (kvs.map λkv=>if kv.1=k then(kv.1,y) else kv) (xs.map (putAt k u)):=by
 induction r with
 |nil=>exact .nil
 | @cons p q ps qs h t ih=>
  rw[V2,V2];refine .cons ?_ ih;obtain⟨h1,h2,h3⟩:=h;unfold putAt;by_cases e:p.1=k
  ·rw[M8 e,M8 (h1.symm.trans e)];exact⟨h1,h2,ry⟩
  ·rw[M4 e,M4 (λz=>e (h1.trans z))];exact⟨h1,h2,h3⟩
theorem KT.put(r:KT H kvs xs)(k:List aj)(hb:H b=some (.tup (k.map kV)))(ry:aG y u):
 KT H (putK kvs k y) (storedH xs k b u):=by
 have e:(kvs.any λkv=>decide (kv.1=k))=(atKey xs k).isSome:=by
  rw[Gf,(r.val k).isSome_eq,Z1]
 unfold putK storedH;rw[e];by_cases q:(atKey xs k).isSome=true
 ·rw[M8 q,M8 q];exact r.repl k ry
 ·rw[M4 q,M4 q];exact TJ r ⟨rfl,hb,ry⟩
theorem KT.keeps{H H':Hp}(r:KT H kvs xs)(ht:∀b ys,H b=some (.tup ys)->H' b=some (.tup ys)):KT H' kvs xs:=
 Paired.mapP r λ_ _ z=>⟨z.1,ht _ _ z.2.1,z.2.2⟩
theorem Gh(ok:bQ P w H h)(e:Rd H a u):cA P w H h a u:=e.ok ok
theorem rH(ok:bQ P w H h)(e:Rd H a (.dK kvs)):kvs.length<=MT/\(a==Nd)=false/\∃vs,KV kvs vs/\h.DictOf (cK P w) a vs:=
 show cA P w H h a (.dK kvs) from Gh ok e
theorem adN(ok:bQ P w H h)(e:H a=some (.dK kvs)):kvs.length<=MT/\(a==Nd)=false/\∃vs,KV kvs vs/\h.DictOf (cK P w) a vs:=rH ok (.inl e)
theorem tj{ks:List aj}(ok:bQ P w H h)(e:H a=some (.tup (ks.map kV))):(OV (cK P w)).is h ks a:=by
 obtain⟨_,its,r,o,h1,h2,n,h3⟩:=(show cA P w H h a (.tup (ks.map kV)) from ok a _ e);exact⟨o,its.toArray,n,h1,h2,h3,by simpa using Gg r⟩
theorem rZ(ok:bQ P w H h)(e:Rd H a (.dT kvs)):kvs.length<=MT/\(a==Nd)=false/\
 ∃xs,KT H kvs xs/\h.DictOfH (OV (cK P w)) a xs:=by
 obtain⟨z,y,xs,r,o,es,ep,h1,h2,h3,h4,h5⟩:=(show cA P w H h a (.dT kvs) from Gh ok e);refine⟨z,y,xs,r,o,es,ep,h1,h2,h3,h4,λx hx=>?_,h5⟩;have all:∀{l:List (List aj×V)}{m:List (List aj×L9×M3)},KT H l m->∀x∈m,(OV (cK P w)).is h x.1 x.2.1:=by
  intro l m q
  induction q with
  |nil=>intro x hx;exact nomatch hx
  | @cons p q ps qs hq t ih=>
   intro x hx;rcases Wc.mp hx with e|hx
   ·subst e;exact tj ok (by rw[<-hq.1];exact hq.2.1)
   ·exact ih x hx
 exact all r x hx
theorem aeq(ok:bQ P w H h)(e:H a=some (.dT kvs)):kvs.length<=MT/\(a==Nd)=false/\
 ∃xs,KT H kvs xs/\h.DictOfH (OV (cK P w)) a xs:=rZ ok (.inl e)
def iB(H:Hp)(a:L9)(y:V)(r:Option V):Prop:=
 (∃kvs k,Rd H a (.dK kvs)/\y=kV k/\r=mr kvs k)\/∃kvs k b,Rd H a (.dT kvs)/\y= .ref b/\H b=some (.tup (k.map kV))/\r=mr kvs k
def tm(H:Hp)(a:L9)(y v:V)(H':Hp):Prop:=
 (∃kvs k,H a=some (.dK kvs)/\y=kV k/\kvs.length < MT/\H'=ai H a (.dK (putK kvs k v)))\/
 ∃kvs k b,H a=some (.dT kvs)/\y= .ref b/\H b=some (.tup (k.map kV))/\kvs.length < MT/\H'=ai H a (.dT (putK kvs k v))
theorem iB.k{H:Hp}{a:L9}{kvs:List (aj×V)}{k:aj}(e:H a=some (.dK kvs)):iB H a (kV k) (mr kvs k):= .inl ⟨kvs,k,.inl e,rfl,rfl⟩
theorem tm.k{H:Hp}{a:L9}{kvs:List (aj×V)}{k:aj}(e:H a=some (.dK kvs))(hl:kvs.length < MT):tm H a (kV k) v (ai H a (.dK (putK kvs k v))):= .inl ⟨kvs,k,e,rfl,hl,rfl⟩
section
variable{X:Cx}{aeK:List (L9×Obj)}{U:St}{H:Hp}{s:M6}{a:L9}{y v:V}{u r:M3}{o:Option V}{A:N0}{E:M3->M6->Prop}
theorem af.big(I:af X aeK U H s):Nd < s.heap.objs.size:=by
 have h:Mt < s.heap.objs.size:=(I.mod.glob.keeps I.bk).lt;exact Pa MA h
theorem ad5{Q:M3->M6->Prop}(hu:A.units+1 < Mq)(I:af X aeK U H s)(g:iB H a y (some v))(ry:aG y u)(h:∀w' s',af X aeK U H s'->aG v w'->Q w' s'):
 MD (MK X.prog X.w) A (Na (.ref a) u) Q E s:=by
 rcases g with⟨kvs,k,e,ey,l⟩|⟨kvs,k,b,e,ey,eb,l⟩
 ·subst ey;obtain⟨z,hd,vs,rel,dd⟩:=rH I.hok e;obtain⟨w',hw,rw'⟩:=mF.some_of (v:=v) (o:=valueAt vs k) (by rw[l];exact rel.val k);exact wpAny_getItem_of (rY ry) dd.mapOf hw (h w' _ (I.tok _) rw')
 ·subst ey;cases (show u=W5 b from ry);obtain⟨z,hd,xs,rel,dd⟩:=rZ I.hok e;obtain⟨w',hw,rw'⟩:=mF.some_of (v:=v) (o:=(atKey xs k).map (·.2)) (by rw[l];exact rel.val k);obtain⟨p,hp,hp2⟩:=Xl.mp hw;refine wpAny_getItem_heap (Ol hu) (tj I.hok eb) dd hp ?_;rw[hp2];exact h w' _ (I.tok _) rw'
theorem OJ{Q:M3->M6->Prop}(hu:A.units+1 < Mq)(I:af X aeK U H s)(g:iB H a y o)(ry:aG y u)(h:∀s',af X aeK U H s'->Q (.bool o.isSome) s'):
 MD (MK X.prog X.w) A (Mz .In u (.ref a)) Q E s:=by
 rcases g with⟨kvs,k,e,ey,l⟩|⟨kvs,k,b,e,ey,eb,l⟩
 ·subst ey;obtain⟨z,hd,vs,rel,dd⟩:=rH I.hok e;refine wpAny_in_of (rY ry) hd dd.mapOf ?_;rw[<-(rel.val k).isSome_eq,<-l];exact h _ (I.tok _)
 ·subst ey;cases (show u=W5 b from ry);obtain⟨z,hd,xs,rel,dd⟩:=rZ I.hok e;refine wpAny_in_heap (Ol hu) (tj I.hok eb) hd dd ?_;have q:=(rel.val k).isSome_eq;rw[Z1]at q;rw[<-q,<-l];exact h _ (I.tok _)
theorem aed{Q:M3->M6->Prop}(hu:A.units+1 < Mq)(I:af X aeK U H s)(g:iB H a y o)(ry:aG y u)(h:∀s',af X aeK U H s'->Q (.bool (!o.isSome)) s'):
 MD (MK X.prog X.w) A (Mz .NotIn u (.ref a)) Q E s:=by
 rcases g with⟨kvs,k,e,ey,l⟩|⟨kvs,k,b,e,ey,eb,l⟩
 ·subst ey;obtain⟨z,hd,vs,rel,dd⟩:=rH I.hok e;refine wpAny_notIn_of (rY ry) hd dd.mapOf ?_;rw[<-(rel.val k).isSome_eq,<-l];exact h _ (I.tok _)
 ·subst ey;cases (show u=W5 b from ry);obtain⟨z,hd,xs,rel,dd⟩:=rZ I.hok e;refine wpAny_notIn_heap (Ol hu) (tj I.hok eb) hd dd ?_;have q:=(rel.val k).isSome_eq;rw[Z1]at q;rw[<-q,<-l];exact h _ (I.tok _)
theorem Gi{h':Md}{t':Nat}(I:af X aeK U H s)(mu:tX (H a))(hs:YU a s.heap h')(he:∃q,h'.get? a=some q)(new:cA X.prog X.w (ai H a ob) h' a ob):
 af X aeK U (ai H a ob) {s with heap:=h',toks:=t'}:=
 I.write (x:=a) (e:=a) mu (.inl rfl) (λb q hb z=>(hs.2 b hb).trans z) he new
theorem Gj{h':Md}{kvs:List (aj×V)}(z:kvs.length<=MT)(hd:(a==Nd)=false)(rel:KV kvs vs)(dd:h'.DictOf (cK P w) a vs):
 cA P w H' h' a (.dK kvs):=⟨z,hd,vs,rel,dd⟩
theorem aaO{Q:Unit->M6->Prop}(hu:A.units+1 < Mq)(I:af X aeK U H s)(g:tm H a y v H')(ry:aG y u)(rv:aG v r)(h:∀s',af X aeK U H' s'->Q () s'):
 MD (MK X.prog X.w) A (setItem (.ref a) u r) Q E s:=by
 rcases g with⟨kvs,k,e,ey,l,eH⟩|⟨kvs,k,b,e,ey,eb,l,eH⟩
 ·subst ey eH;obtain⟨z,hd,vs,rel,dd⟩:=adN I.hok e;have hz:vs.length<=MT:=by rw[<-rel.length];exact z
  have hl:(putK kvs k v).length<=MT:=by have:=BK kvs k v;omega
  refine wpAny_setItem_pairs (hsz:=hz) (rY ry) dd λh' dd' hs=>h _ ?_;have he:∃q,h'.get? a=some q:=let ⟨q,_,_,hq,_⟩:=dd';⟨q,hq⟩
  exact Gi I (by rw[e];exact X8) hs he (Gj hl hd (rel.put k rv) dd')
 ·subst ey eH;cases (show u=W5 b from ry);obtain⟨z,hd,xs,rel,dd⟩:=aeq I.hok e;have hz:xs.length<=MT:=by rw[<-QQ rel];exact z
  have hl:(putK kvs k v).length<=MT:=by have:=BK kvs k v;omega
  refine wpAny_setItem_heap (hsz:=hz) (Ol hu) (tj I.hok eb) dd λh' dd' hs=>h _ ?_;obtain⟨q,es,ep,hq,h2,h3,h4,_,h5⟩:=dd';refine Gi I (by rw[e];exact X8) hs ⟨q,hq⟩ ⟨hl,hd,_,(rel.put k eb rv).keeps λc ys ec=>?_,q,es,ep,hq,h2,h3,h4,h5⟩;rw[ar (Mg ec e (λz=>nomatch z))];exact ec
end
def xt(i:Mb):Prop:=∀ov iv,Og i false ov iv=operate [ov,iv] (Na ov iv)
theorem ON{prog:N4}{w:Mp}{A:N0}{E:M3->M6->Prop}{s:M6}{env:Env}{value slice:Mb}{T id:String}{Q:M3->M6->Prop}
 (hl:typeLookup (.type T) "__getitem__"=pure (some (.builtin id)))(hs:xt slice)
 (h:MD (MK prog w) A (eval value env) (λo s₁=>MD (MK prog w) A (eval slice env) (λi s₂=>s₂.TypeIs o T/\MD (MK prog w) A (Na o i) Q E s₂) E s₁) E s):
 MD (MK prog w) A (eval (.Subscript value slice pos) env) Q E s:=by
 refine Subscript_ (NB h (λo s₁ h₁=>NB h₁ (λi s₂ h₂=>?_) λ_ _ x=>x) λ_ _ x=>x);obtain⟨hT,h₂⟩:=h₂;unfold QO;refine M5 ?_;rw[getitemInPython_of_ne hT.not_modules];refine M5 (wpAny_specialOf hT hl ?_);have fin:MD (MK prog w) A (Og slice false o i) (λr s₃=>MD (MK prog w) A (letTemporaryGo value o r >>=λ_=>pure r) Q E s₃) E s₂:=by
  rw[hs o i];exact wpAny_operating (NB h₂ (λr s₃ h₃=>M5 (wpAny_letTemporaryGo (MO h₃))) λ_ _ x=>x)
 first
  |exact MO (M5 fin)
  |exact M5 (MO (M5 fin))
  |exact M5 fin
theorem OO{aeK:List (L9×Obj)}{U:St}{s:M6}{a:L9}{o:Option V}(I:af X aeK U H s)(g:iB H a y o):s.TypeIs (.ref a) "dict":=by
 rcases g with⟨kvs,k,e,_,_⟩|⟨kvs,k,b,e,_,_,_⟩
 ·obtain⟨_,_,vs,_,dd⟩:=rH I.hok e;exact dd.typeIs
 ·obtain⟨_,_,xs,_,dd⟩:=rZ I.hok e;exact dd.typeIs
def rzT(td ty:TE):TE:=λU H Q=>td U H λx H1=>ty U H1 λy H2=>∃a v,x= .ref a/\iB H2 a y (some v)/\Q v H2
def aeo(ty td:TE):TE:=λU H Q=>ty U H λy H1=>td U H1 λx H2=>∃a o,x= .ref a/\iB H2 a y o/\Q (.bl o.isSome) H2
def OR(ty td:TE):TE:=λU H Q=>ty U H λy H1=>td U H1 λx H2=>∃a o,x= .ref a/\iB H2 a y o/\Q (.bl (!o.isSome)) H2
def Gk(td ty tv:TE):TS:=λD U H=>tv U H λv H1=>td U H1 λx H2=>ty U H2 λy H3=>∃a H4,x= .ref a/\tm H3 a y v H4/\D.nx U H4
theorem Gm(hu:X.A.units+1 < Mq)(ho:PE X o td)(hi:PE X i ty)(hs:xt i):PE X (.Subscript o i pos) (rzT td ty):=by
 intro aeK s U H Q I h;refine ON PySem.F.slot_dict_getitem.lookup hs (aA (ho aeK s U H _ I h) λu s1 ⟨x,H1,I1,rx,q1⟩=>aA (hi aeK s1 U H1 _ I1 q1) λiv s2 ⟨y,H2,I2,ry,a,v,ex,g,q2⟩=>?_);subst ex;obtain rfl:u=W5 a:=rx;exact⟨OO I2 g,ad5 hu I2 g ry λw' s3 I3 rw'=>⟨v,H2,I3,rw',q2⟩⟩
theorem adT(hu:X.A.units+1 < Mq)(hi:PE X i ty)(ho:PE X o td):PC X .In i o (aeo ty td):=by
 intro aeK s U H Q I h;refine aA (hi aeK s U H _ I h) λiv s1 ⟨y,H1,I1,ry,q1⟩=>aA (ho aeK s1 U H1 _ I1 q1) λu s2 ⟨x,H2,I2,rx,a,ov,ex,g,q2⟩=>?_;subst ex;obtain rfl:u=W5 a:=rx;exact OJ hu I2 g ry λs3 I3=>⟨.bl ov.isSome,H2,I3,rfl,q2⟩
theorem Gq(hu:X.A.units+1 < Mq)(hi:PE X i ty)(ho:PE X o td):PC X .NotIn i o (OR ty td):=by
 intro aeK s U H Q I h;refine aA (hi aeK s U H _ I h) λiv s1 ⟨y,H1,I1,ry,q1⟩=>aA (ho aeK s1 U H1 _ I1 q1) λu s2 ⟨x,H2,I2,rx,a,ov,ex,g,q2⟩=>?_;subst ex;obtain rfl:u=W5 a:=rx;exact aed hu I2 g ry λs3 I3=>⟨.bl (!ov.isSome),H2,I3,rfl,q2⟩
theorem BL(hu:X.A.units+1 < Mq)(ho:PE X o td)(hi:PE X i ty)(hv:PE X value tv)(hs:N3 value (some (.Subscript o i pos')) pos.line X.env=pure false):
 PS X (.Assign [.Subscript o i pos'] value pos) (Gk td ty tv):=by
 intro aeK s U H D I h;refine wpAny_Assign_Subscript (aA (hv aeK s U H _ I h) λr s1 ⟨v,H1,I1,rv,q1⟩=>aA (ho aeK s1 U H1 _ I1 q1) λu s2 ⟨x,H2,I2,rx,q2⟩=>aA (hi aeK s2 U H2 _ I2 q2) λiv s3 ⟨y,H3,I3,ry,a,H4,ex,g,q3⟩=>?_) hs;subst ex;obtain rfl:u=W5 a:=rx;exact aaO hu I3 g ry rv λs4 I4=>⟨U,H4,I4,q3⟩
theorem Gr(h:Md)(hb:Nd < h.objs.size):cA P w H (h.push {cls:= .type "dict",data:= .dict #[]}) h.objs.size (.dK []):=
 ⟨Xe _,beq_eq_false_iff_ne.mpr (Ne.symm (WI hb)),[],.nil,Vr h⟩
def ad4:TE:=λ_ H Q=>∀p,H p=none->Q (.ref p) (ai H p (.dK []))
theorem OU:PE X (.Dict [] [] pos) ad4:=λaeK s U H Q I h=>
 wpAny_Dict_empty ⟨.ref s.heap.objs.size,_,I.laid (a:=s.heap.objs.size) (o:= .dK []) (t':=s.toks) (λ_ _ q=>V3 _ q) (V4 _) (Gr s.heap I.big),rfl,h _ (I.hok.fresh (V4 _))⟩
def tq(kvs more:List (aj×V)):List (aj×V):=more.foldl (λacc kv=>putK acc kv.1 kv.2) kvs
theorem KV.merge:∀{more:List (aj×V)}{rs:List (aj×M3)}{kvs:List (aj×V)}{vs:List (aj×M3)},KV more rs->KV kvs vs->KV (tq kvs more) (merged vs rs):=by
 intro more rs kvs vs r;unfold KV at r
 induction r generalizing kvs vs with
 |nil=>intro q;exact q
 | @cons p q ps qs h t ih=>
  intro r0;have e:KV (putK kvs p.1 p.2) (stored vs q.1 q.2):=by
   have:=r0.put p.1 h.2;rw[<-h.1];exact this
  exact ih e
theorem Gs:∀(more kvs:List (aj×V)),(tq kvs more).length<=kvs.length+more.length
 | [],kvs=>by show kvs.length<=kvs.length+0;omega
 |p::r,kvs=>by
  have h1:=Gs r (putK kvs p.1 p.2);have h2:=BK kvs p.1 p.2;show(tq (putK kvs p.1 p.2) r).length<=_;rw[V5];omega
structure M1 (X:Cx) (o:Mb) (m:Str) (apos:Pos) (e:Mb) (cpos:Pos):Prop where
 base:Ny o m X.env (eval o X.env)=eval o X.env
 few:((Mj cpos (MQ [e] X.env)).all (λx=>!x.1) && (Nl cpos (Np [] X.env)).all (λx=>x.1.isSome)
  && decide (([e]:List Mb).length+([]:List Ng).length+(if ([]:List Ng).isEmpty then 0 else 1) < 30))=true
 line:(apos.endLine==cpos.line)=true
 trees:Mj cpos (MQ [e] X.env)=[(false,eval e X.env)]
structure M2 (X:Cx) (o:Mb) (m:Str) (apos:Pos) (e f:Mb) (cpos:Pos):Prop where
 base:Ny o m X.env (eval o X.env)=eval o X.env
 few:((Mj cpos (MQ [e,f] X.env)).all (λx=>!x.1) && (Nl cpos (Np [] X.env)).all (λx=>x.1.isSome)
  && decide (([e,f]:List Mb).length+([]:List Ng).length+(if ([]:List Ng).isEmpty then 0 else 1) < 30))=true
 line:(apos.endLine==cpos.line)=true
 trees:Mj cpos (MQ [e,f] X.env)=[(false,eval e X.env),(false,eval f X.env)]
def BM(H:Hp)(a:L9):Prop:=(∃kvs,Rd H a (.dK kvs))\/∃kvs,Rd H a (.dT kvs)
theorem Gu{aeK:List (L9×Obj)}{U:St}{s:M6}{a:L9}(I:af X aeK U H s)(d:BM H a):
 s.TypeIs (.ref a) "dict"/\(∀b,W5 a= .ref b->∃ob,s.heap.get? b=some ob/\ob.dict=none)/\(a==Nd)=false:=by
 rcases d with⟨kvs,e⟩|⟨kvs,e⟩
 ·obtain⟨_,hd,vs,_,dd⟩:=rH I.hok e;refine⟨dd.typeIs,λb q=>?_,hd⟩;cases q;obtain⟨ob,_,_,h1,h2,_⟩:=dd;exact⟨ob,h1,h2.2.1⟩
 ·obtain⟨_,hd,xs,_,dd⟩:=rZ I.hok e;refine⟨dd.typeIs,λb q=>?_,hd⟩;cases q;obtain⟨ob,_,_,h1,h2,_⟩:=dd;exact⟨ob,h1,h2.2.1⟩
section
variable{X:Cx}{aeK:List (L9×Obj)}{U:St}{H:Hp}{s:M6}{a:L9}{y d:V}{u r:M3}{o:Option V}{A:N0}{E:M3->M6->Prop}
theorem aep{Q:M3->M6->Prop}(hu:A.units+1 < Mq)(I:af X aeK U H s)(g:iB H a y o)(ry:aG y u)(h:∀w' s',af X aeK U H s'->aG (o.getD .non) w'->Q w' s'):
 MD (MK X.prog X.w) A (NC (.builtin "dict.get") [.ref a,u]) Q E s:=by
 rcases g with⟨kvs,k,e,ey,l⟩|⟨kvs,k,b,e,ey,eb,l⟩
 ·subst ey;obtain⟨z,hd,vs,rel,dd⟩:=rH I.hok e;refine call_meetsIn YR dd.typeIs Zq (SU _ _) (meets_dict_get (cK X.prog X.w) a (rY ry) hd) ⟨_,dd.mapOf,h _ _ (I.tok _) ?_⟩;rw[l];exact(rel.val k).getD rfl
 ·subst ey;cases (show u=W5 b from ry);obtain⟨z,hd,xs,rel,dd⟩:=rZ I.hok e;refine call_meetsIn YR dd.typeIs Zq (SU _ _) (meetsH_dict_get (OV (cK X.prog X.w)) a b hd) ⟨Ol hu,k,xs,tj I.hok eb,dd,h _ _ (I.tok _) ?_⟩;rw[l];exact(rel.val k).getD rfl
theorem aer{Q:M3->M6->Prop}(hu:A.units+1 < Mq)(I:af X aeK U H s)(g:iB H a y o)(ry:aG y u)(rd:aG d r)(h:∀w' s',af X aeK U H s'->aG (o.getD d) w'->Q w' s'):
 MD (MK X.prog X.w) A (NC (.builtin "dict.get") [.ref a,u,r]) Q E s:=by
 rcases g with⟨kvs,k,e,ey,l⟩|⟨kvs,k,b,e,ey,eb,l⟩
 ·subst ey;obtain⟨z,hd,vs,rel,dd⟩:=rH I.hok e;refine call_meetsIn YR dd.typeIs Zq (UW _ _ _) (meets_dict_get_default (cK X.prog X.w) a (rY ry) hd r) ⟨_,dd.mapOf,h _ _ (I.tok _) ?_⟩;rw[l];exact(rel.val k).getD rd
 ·subst ey;cases (show u=W5 b from ry);obtain⟨z,hd,xs,rel,dd⟩:=rZ I.hok e;refine call_meetsIn YR dd.typeIs Zq (UW _ _ _) (meetsH_dict_get_default (OV (cK X.prog X.w)) a b hd r) ⟨Ol hu,k,xs,tj I.hok eb,dd,h _ _ (I.tok _) ?_⟩;rw[l];exact(rel.val k).getD rd
end
def OX(td ty:TE):TE:=λU H Q=>td U H λx H1=>∃a,x= .ref a/\BM H1 a/\ty U H1 λy H2=>∃o,iB H2 a y o/\Q (o.getD .non) H2
def OY(td ty tx:TE):TE:=λU H Q=>td U H λx H1=>∃a,x= .ref a/\BM H1 a/\ty U H1 λy H2=>tx U H2 λz H3=>∃o,iB H3 a y o/\Q (o.getD z) H3
theorem Gv(hu:X.A.units+1 < Mq)(ho:PE X o td)(he:PE X e ty)(m:M1 X o "get" apos e cpos):PE X (.Call (.Attribute o "get" apos) [e] [] cpos) (OX td ty):=by
 intro aeK s U H Q I h;refine wpAny_Call_method m.base m.few m.line Ry YR UG (aA (ho aeK s U H _ I h) λu s1 ⟨x,H1,I1,rx,a,ex,d,q1⟩=>?_);subst ex;obtain rfl:u=W5 a:=rx;obtain⟨t1,t2,_⟩:=Gu I1 d;refine⟨t1,t2,?_⟩;rw[m.trees];refine Z4 rfl (RD (ZN (aA (he aeK s1 U H1 _ I1 q1) λiv s2 ⟨y,H2,I2,ry,ov,g,q2⟩=>Qo ?_)));exact aep hu I2 g ry λw' s3 I3 rw'=>⟨_,H2,I3,rw',q2⟩
theorem abg(hu:X.A.units+1 < Mq)(ho:PE X o td)(he:PE X e ty)(hf:PE X f tx)(m:M2 X o "get" apos e f cpos):PE X (.Call (.Attribute o "get" apos) [e,f] [] cpos) (OY td ty tx):=by
 intro aeK s U H Q I h;refine wpAny_Call_method m.base m.few m.line Ry YR UG (aA (ho aeK s U H _ I h) λu s1 ⟨x,H1,I1,rx,a,ex,d,q1⟩=>?_);subst ex;obtain rfl:u=W5 a:=rx;obtain⟨t1,t2,_⟩:=Gu I1 d;refine⟨t1,t2,?_⟩;rw[m.trees];refine Z4 rfl (RD (ZN (aA (he aeK s1 U H1 _ I1 q1) λiv s2 ⟨y,H2,I2,ry,q2⟩=>
  ZN (aA (hf aeK s2 U H2 _ I2 q2) λfv s3 ⟨z,H3,I3,rz,ov,g,q3⟩=>Qo ?_))))
 exact aer hu I3 g ry rz λw' s4 I4 rw'=>⟨_,H3,I4,rw',q3⟩
def iC(a b c d:Str)(t:DT):DT:=λY Q=>t Y λy=>(y= .str a/\Q (.str c))\/(y= .str b/\Q (.str d))
def litsOf:List Mb->Option (List L7)
 | []=>some []
 | .Constant (.int i) _ _::r=>(litsOf r).map (.int i::·)
 | .Constant (.str x) _ _::r=>(litsOf r).map (.str x::·)
 |_::_=>none
def eD(ds:List L7):DA:=λ_ Q=>Q ds
theorem xv:∀{es:List Mb}{ds:List L7},litsOf es=some ds->PA X es (oJ X.K H0 O0 (eD ds))
 | [],ds,h=>by cases h;exact ah
 |e::r,ds,h=>by
  cases e with
  |Constant c j p=>
   cases c with
   |int i=>
    have h':(litsOf r).map (.int i::·)=some ds:=h;cases q:litsOf r with
    |none=>rw[q]at h';cases h'
    |some ms=>rw[q]at h';cases h';exact aa ag (xv q)
   |str x=>
    have h':(litsOf r).map (.str x::·)=some ds:=h;cases q:litsOf r with
    |none=>rw[q]at h';cases h'
    |some ms=>rw[q]at h';cases h';exact aa aZ (xv q)
   |_=>cases h
  |_=>cases h
def litsE:Mb->Option (List L7)
 | .List es _=>litsOf es
 |_=>none
theorem Gw(h:litsE e=some ds):FE X H0 O0 e (d5 (eD ds)):=by
 cases e with
 |List es p=>exact g8 (xv h)
 |_=>cases h
theorem O3:V6 x=true↔∀c∈x.cps.toList,c < 0x110000:=by
 unfold V6;rw[<-Array.all_toList,Zy];simp
theorem Gx(x y:Str):(x++y).cps=x.cps++y.cps:=rfl
theorem Gy(x y:Str):(x++y).length=x.length+y.length:=by
 show(x.cps++y.cps).size=_;rw[Array.size_append];rfl
def uk:Str:="abcdefghijklmnopqrstuvwxyz"
theorem BN:uk.cps.toList.length=26:=MN
structure cx (n:Nat) (d:L7):Prop where
 can:d.canLay0=true
 dep:d.depth<=n
theorem cx.shp(h:cx n d)(hn:n<=64):ZQ d=true:=by
 unfold ZQ;rw[h.can,decide_eq_true (Wy h.dep hn)];rfl
theorem cx.mono(h:cx n d)(hn:n<=m):cx m d:=⟨h.can,Wy h.dep hn⟩
theorem pe(h:V6 x=true):cx 1 (.str x):=⟨by simpa [Xm]using h,by simp[Zu]⟩
theorem xy:cx 1 (.int i):=⟨by simp[Xm],by simp[Zu]⟩
theorem O4:cx 1 (.bool i):=⟨by simp[Xm],by simp[Zu]⟩
theorem xA:∀{ds:List L7},(∀d∈ds,cx n d)->X0 ds=true/\ZI ds<=n
 | [],_=>⟨by simp[X0],by simp[ZI]⟩
 |d::r,h=>by
  obtain⟨a,b⟩:=xA (ds:=r) λe he=>h e (by simp[he]);have c:=h d MC;refine⟨by rw[X0,c.can,a];rfl,?_⟩;rw[ZI];exact Nat.max_le.mpr ⟨c.dep,b⟩
theorem nP(h:∀d∈ds,cx n d):cx (n+1) (.tuple ds):=by
 obtain⟨a,b⟩:=xA h;refine⟨by simpa [Xm]using a,?_⟩;rw[Zu];omega
def PU(X:Cx)(e:Mb)(te:TE):Prop:=∀(i:Nat)(x:Str)(pos' spos:Pos)(hN:X.N.Nodup)(hxi:X.N[i]?=some x)(hx:oR X.env.scope x)(hsw:N3 e (some (.Name x pos')) spos.line X.env=pure true)
 (hfn:X.fn x=true\/X.env.scope.names.lookup x=some .local),PS X (.Assign [.Name x pos'] e spos) (vb te (oF i))
theorem PU.imp{t u:TE}(h:PU X e t)(i:∀U H Q,u U H Q->t U H Q):PU X e u:=λi' x p1 p2 hN hxi hx hsw hfn=>(h i' x p1 p2 hN hxi hx hsw hfn).imp λD U H z=>i U H _ z
section
section
variable{tg iter elt:Mb}{ifs:List Mb}{scope:ND}{N':List Str}{k:Nat}{fr:List Nat}{g:TG}{dg:DG}{t:DT}{ta:DA}{tc:DB}{te:DT}{pos p ps:Pos}
theorem Gz{wi:TI}{tc:TT}{te:TE}(hc:X.calm=true)(S:aU X.env.scope X.N N' k fr scope)(hi:PI X tg iter wi)
 (hg:∀fp C s H,PG (bG X scope N' fp C s H) tg g)(hf:∀fp C s H,nv (bG X scope N' fp C s H) ifs tc)(he:∀fp C s H,PE (bG X scope N' fp C s H) elt te)
 (hs:∀x,NO iter X.env x=pure x:=by intro _;rfl):PU X (.ListComp elt [⟨tg,iter,ifs,0⟩] scope pos) (rV wi g tc te k fr):=
 λ_ _ _ _ hN hxi hx hsw hfn=>adZ hN hxi hx hc S hi hg hf he hsw hs hfn
theorem adY(hc:X.calm=true)(S:aU X.env.scope X.N N' k fr scope)(hi:DF X H0 O0 iter t)(gd:GD X.K g dg)(hk:pZ g k)(hfr:fr.Nodup)
 (hg:∀fp C s H,PG (bG X scope N' fp C s H) tg g)(hf:∀fp C s H,nv (bG X scope N' fp C s H) ifs (bZ X.K H0 O0 tc))(he:∀fp C s H,PE (bG X scope N' fp C s H) elt (up X.K H0 O0 te))
 (hs:∀x,NO iter X.env x=pure x:=by intro _;rfl):PU X (.ListComp elt [⟨tg,iter,ifs,0⟩] scope pos) (ue X.K H0 O0 (dS t dg tc te k fr)):=
 (Gz hc S (ve hi) hg hf he hs).imp λU H Q uu=>by obtain⟨O,Y,Qd,w,q,kk⟩:=uu;exact⟨O,Y,_,w,q,λd v H1 uu s1 r1=>by
  obtain⟨xs,e,hz,q1⟩:=uu;subst e;obtain⟨a,vs,rfl,hq,rr⟩:=r1.lst;refine⟨a,rfl,⟨_,hq⟩,λD hD=>tf (d6.list hq) gd hfr (λv _ H' R h=>hk fr U v H' R h) (λ_ _ _ z=>z) (λ_ _ _ z=>z) (λD H' hD s' o e=>s' _ _ e (lQ e hD)) rr (w.mono s1) (by rw[rr.length];exact hz) q1 (λds us p H' z s' hp r'=>kk ds us p H' z (s1.trans s') hp r') D hD⟩⟩
end
theorem tu{pos pos':Pos}(hN:X.N.Nodup)(hi:X.N[i]?=some x)(hx:oR X.env.scope x)(he:PU X e (ue X.K H0 O0 t))(hs:N3 e (some (.Name x pos')) pos.line X.env=pure true:=by rfl)(hf:X.fn x=true\/X.env.scope.names.lookup x=some .local:=by first|exact .inl rfl|exact .inr rfl|assumption):
 PS X (.Assign [.Name x pos'] e pos) (bp X.K H0 O0 (dG i (dL t))):=
 (he _ _ _ _ hN hi hx hs hf).imp λD U H ⟨O,Y,E,w,q,k1,k2,k3,k4⟩=>⟨O,Y,_,w,q,λds vs p H1 q1 s1 hp r1=>
  k1 O _ _ _ q1 ((w.mono (s1.trans (av.new hp))).set (.lst (.inl aV) (vv w s1 hp) (r1.mono (av.new hp)))) (.same (s1.trans (av.new hp)))⟩
end
def GA(z:Str):List L7:=z.cps.toList.map λc=>.str ⟨#[c]⟩
section
def iD(t:DT)(g:DG)(tc:DB)(te:DT)(k:Nat)(fr:List Nat):DA:=λY Q=>t Y λd=>∃z,d= .str z/\z.length<=MT/\mV g tc te (bJ k fr Y) (GA z) Q
def fO(ta:DA)(g:DG)(tc:DB)(te:DT)(k:Nat)(fr:List Nat):DA:=λY Q=>ta Y λds=>∃i j:Int,ds=[.int i,.int j]/\-(2 ^ 62)<=i/\j - i < MT/\i < 2 ^ 62/\-(2 ^ 62)<=j/\j < 2 ^ 62/\mV g tc te (bJ k fr Y) (oK i (j - i).toNat) Q
section
variable{tg iter elt:Mb}{ifs:List Mb}{scope:ND}{N':List Str}{k:Nat}{fr:List Nat}{g:TG}{dg:DG}{t:DT}{ta:DA}{tc:DB}{te:DT}{pos p ps:Pos}
theorem aei(hc:X.calm=true){a b:Mb}(S:aU X.env.scope X.N N' k fr scope)(hgl:Gl X "range")(hm:X.mg "range"=none)(ha:PA X [a,b] (nG X.K H0 O0 ta))(gd:GD X.K g dg)(hk:pZ g k)(hfr:fr.Nodup)
 (hg:∀fp C s H,PG (bG X scope N' fp C s H) tg g)(hf:∀fp C s H,nv (bG X scope N' fp C s H) ifs (bZ X.K H0 O0 tc))(he:∀fp C s H,PE (bG X scope N' fp C s H) elt (up X.K H0 O0 te))
 (hst:MQ [a,b] X.env=[(false,eval a X.env),(false,eval b X.env)]:=by rfl)(hst2:MQ [b] X.env=[(false,eval b X.env)]:=by rfl)(hs:∀x,NO (.Call (.Name "range" p) [a,b] [] ps) X.env x=pure x:=by intro _;rfl):
 FE X H0 O0 (.ListComp elt [⟨tg,(.Call (.Name "range" p) [a,b] [] ps),ifs,0⟩] scope pos) (fO ta dg tc te k fr):=
 (t9 hc S (E6 hgl hm ha hst hst2) hg hf he hs).imp λU H Q uu=>by obtain⟨O,Y,Qd,w,q,kk⟩:=uu;exact⟨O,Y,_,w,q,λds vs H1 uu s1 r1=>by
  obtain⟨i,j,e,b1,b2,b3,b4,b5,q1⟩:=uu;subst e;cases r1 with
  |cons r1 r2=>
   cases r2 with
   |cons r2 r3=>
    cases r3;cases r1.int;cases r2.int;exact⟨i,j,rfl,⟨b1,b3,b4,b5⟩,λD hD=>tf (P:=λ_=>True) d6.rng gd hfr (λv _ H' R h=>hk fr U v H' R h) (λ_ _ _ z=>z) (λ_ _ _ z=>z) (λ_ _ _ _=>trivial) (ak.rng _) (w.mono s1) (by rw[V0,YX];omega) q1 (λds us p H' z s' hp r'=>kk ds us p H' z (s1.trans s') hp r') D hD⟩⟩
end
def BO(Z:VZ)(neg:Bool):R2:=λx y H Q=>∃O dx ds dy,Sh Z H O x dx/\Sh Z H O y dy/\(dy= .list ds\/dy= .tuple ds)/\bP dx/\X0 ds=true/\Q (.bl (if neg then !(ds.any λd=>Ws d dx) else ds.any λd=>Ws d dx)) H
theorem xB(hd:bP d)(hr:bf k A):A.units+1+min (ZI xs) d.depth < Mq:=by
 have:=SeqAt.depth_of_shaped hd;have h1:min (ZI xs) d.depth<=d.depth:=Sz _ _;have:=hr.un;omega
theorem vD(hr:bf k X.A):bR X (Mz .In) (BO X.K false):=by
 intro aeK s U H x y v u Q I rx ry h;obtain⟨O,dx,ds,dy,hx,hy,e,sx,sy,q⟩:=h;obtain⟨as,ra⟩:=pW I hx.all (X5 sx) rx;rcases e with e|e<;>subst e
 ·obtain⟨bs,rb⟩:=pW I hy.all (by simpa [Xm]using sy) ry;exact SeqAt.in_list_reads rb ra sy (X5 sx) (xB sx hr) (bL I q rfl)
 ·obtain⟨bs,rb⟩:=pW I hy.all (by simpa [Xm]using sy) ry;exact SeqAt.in_tuple_reads rb ra sy (X5 sx) (xB sx hr) (bL I q rfl)
theorem BP(hr:bf k X.A):bR X (Mz .NotIn) (BO X.K true):=by
 intro aeK s U H x y v u Q I rx ry h;obtain⟨O,dx,ds,dy,hx,hy,e,sx,sy,q⟩:=h;obtain⟨as,ra⟩:=pW I hx.all (X5 sx) rx;rcases e with e|e<;>subst e
 ·obtain⟨bs,rb⟩:=pW I hy.all (by simpa [Xm]using sy) ry;exact SeqAt.notIn_list_reads rb ra sy (X5 sx) (xB sx hr) (bL I q rfl)
 ·obtain⟨bs,rb⟩:=pW I hy.all (by simpa [Xm]using sy) ry;exact SeqAt.notIn_tuple_reads rb ra sy (X5 sx) (xB sx hr) (bL I q rfl)
def fP(neg:Bool):L7->L7->(L7->Prop)->Prop:=λx y Q=>∃ds,(y= .list ds\/y= .tuple ds)/\bP x/\X0 ds=true/\Q (.bool (if neg then !(ds.any λd=>Ws d x) else ds.any λd=>Ws d x))
theorem r6:dF Z (BO Z neg) (fP neg):=λH O x y dx dy Qd R _ hx hy uu k=>by obtain⟨ds,e,a,b,q⟩:=uu;exact⟨O,dx,ds,dy,hx,hy,e,a,b,k _ _ H q (av.refl _) (.bl _)⟩
def iE:Fa:=λds Q=>∃z:Str,ds=[.str z]/\z.length<=MT/\Q (.int z.length)
def iF:L7->L7->(L7->Prop)->Prop:=λx y Q=>∃i j:Str,x= .str i/\y= .str j/\Q (.bool (decide (i.cps.toList < j.cps.toList)))
def iG:L7->L7->(L7->Prop)->Prop:=λx y Q=>∃i j:Str,x= .str i/\y= .str j/\Q (.bool (!(Builtin.Str.occurrences j i 0 j.length 1).isEmpty))
theorem O7{prog:N4}{w:Mp}{A:N0}{E:M3->M6->Prop}{s:M6}{t sl:L9}{items:Array M3}{vl vu:M3}{lo hi:Option Int}{Q:M3->M6->Prop}(ht:IsTup s.heap t items)(hs:s.heap.IsSliceOf sl vl vu .none)(pl:IsPart vl lo)(pu:IsPart vu hi)
 (hw:HT.sIx items.size 0 lo=0/\HT.sIx items.size items.size hi=items.size)(h:Q (.ref t) s):MD (MK prog w) A (Na (.ref t) (.ref sl)) Q E s:=by
 obtain⟨os,hos,hcs,hds⟩:=id hs;have hTs:s.TypeIs (.ref sl) "slice":=⟨os,hos,hcs⟩;unfold Na
 try with_reducible refine N9 ?_
 first|refine M5 (MO ?_)|skip
 refine M5 (R6 ht.typeIs MA ?_);refine M5 (Of (name:=VY "__getitem__") ht.typeIs Yf
  (Nk Yf ht.typeIs UB ?_ (Tg _ _)))
 show MD _ _ (ZA (.ref t) >>=_) _ _ s;refine M5 (tupleItemsOf_ ht ?_);refine M5 (OG hTs ?_);rw[M8 MA];refine M5 (HT.sliceApplied_gen hs pl pu ?_);show MD _ _ (if (((HT.sIx items.size 0 lo:Nat):Int)==0 && (1:Int)==1 && (HT.sIx items.size items.size hi - HT.sIx items.size 0 lo)==items.size)=true then _ else _) _ _ s;rw[M8 (by rw[hw.1,hw.2];simp)];unfold SK;refine M5 (M5 (OG ht.typeIs (MO ?_)));rw[M8 MA];exact M5 (OI (MO ⟨_,rfl,MO h⟩))
def aah(Z:VZ):V->Option Int->Option Int->Hp->VK->Prop:=λx lo hi H Q=>∃a xs,x= .ref a/\bo Z H a xs/\
 ((HT.sIx xs.length 0 lo=0/\HT.sIx xs.length xs.length hi=xs.length)->Q x H)/\(¬(HT.sIx xs.length 0 lo=0/\HT.sIx xs.length xs.length hi=xs.length)->∀p,H p=none->Q (.ref p) (ai H p (.tup (rA xs lo hi))))
theorem O9:vq X (aah X.K):=by
 intro aeK s U H x v vl vu lo hi sl Q I rx hs pl pu h;obtain⟨a,xs,rfl,hx,q1,q2⟩:=h;by_cases hw:HT.sIx xs.length 0 lo=0/\HT.sIx xs.length xs.length hi=xs.length
 ·cases rx;obtain⟨its,r,ht,hz⟩:=I.tuple hx;have hlen:its.toArray.size=xs.length:=by rw[Wh];exact r.length.symm
  refine⟨"tuple",_,Yf.lookup,ht.typeIs,?_⟩;exact O7 ht hs pl pu (by rw[hlen];exact hw) ⟨.ref a,H,I,rfl,q1 hw⟩
 ·exact adG aeK s U H _ v vl vu lo hi sl Q I rx hs pl pu ⟨a,xs,rfl,hx,hw,q2 hw⟩
theorem aaj{xs:List L7}(h:HT.sIx xs.length 0 l=0/\HT.sIx xs.length xs.length u=xs.length):cM xs l u=xs:=by
 unfold cM;rw[h.1,h.2];simp
def fQ(t:DT)(tl th:DO):DT:=λY Q=>t Y λd=>tl Y λl=>th Y λu=>∃xs,d= .tuple xs/\Q (.tuple (cM xs l u))
theorem vE{e:Mb}{lo hi:Option Mb}{t:DT}{tl th:DO}(h:DF X H0 O0 e t)(hl:PO X lo (rG X.K H0 O0 tl))(hu:PO X hi (rG X.K H0 O0 th)):DE X H0 O0 (.Subscript e (.Slice lo hi none p2) pos) (fQ t tl th):=
 (Bl O9 h hl hu).imp λU H Q ⟨O,Y,Qd,w,q,k⟩=>⟨O,Y,_,w,q,λd v H1 q1 s1 r1=>⟨O,Y,_,w.mono s1,q1,λl H2 q2 s2=>⟨O,Y,_,w.mono (s1.trans s2),q2,λu H3 uu s3=>by
  obtain⟨xs,e,q3⟩:=uu;subst e;have r3:=r1.mono (s2.trans s3);have r4:=r3;obtain⟨a,vs,rfl,h1,d1⟩:=r4.tup;refine⟨a,vs,rfl,h1,λhw=>?_,λ_ p hp=>k _ _ _ q3 (s1.trans (s2.trans (s3.trans (av.new hp)))) (.tup (.inl aV) (vv w (s1.trans (s2.trans s3)) hp) ((d1.cut l u).mono (av.new hp)))⟩;rw[d1.length]at hw;rw[aaj hw]at q3;cases r3 with
  |dt r3=>exact k _ _ _ q3 (s1.trans (s2.trans s3)) r3⟩⟩⟩
def me(a b:Str):Bool:=decide (a.cps.toList<=b.cps.toList)
def mL(l:List Str):List Str:=l.mergeSort me
theorem GB(a b c:Str)(h:me a b=true)(h':me b c=true):me a c=true:=
 decide_eq_true (List.le_trans (of_decide_eq_true h) (of_decide_eq_true h'))
theorem Pb(a b:Str):(me a b || me b a)=true:=by
 rcases List.le_total a.cps.toList b.cps.toList with h|h
 ·unfold me;rw[decide_eq_true h];rfl
 ·unfold me;rw[decide_eq_true h,Bool.or_true]
theorem GC{a b:Str}(h:a.cps.toList=b.cps.toList):a=b:=by
 cases a;cases b;congr 1;exact Array.ext' h
theorem BQ(h:me a b=true)(h':me b a=true):a=b:=GC (Vi (of_decide_eq_true h) (of_decide_eq_true h'))
theorem rJ(l:List Str):(mL l).Perm l:=List.mergeSort_perm l me
theorem GF(l:List Str):(mL l).Pairwise λa b=>me a b=true:=List.pairwise_mergeSort GB Pb l
theorem GG{l m:List Str}(h:m.Perm l)(p:m.Pairwise λa b=>me a b=true):m=mL l:=
 List.Perm.eq_of_pairwise (λa b _ _ x y=>BQ x y) p (GF l) (h.trans (rJ l).symm)
theorem GH:∀(p:Str)(l:List Str),risingS p l=true->(p::l).Pairwise λa b=>me a b=true
 |p,[],_=>by simp
 |p,x::r,h=>by
  rw[risingS,Xs,WJ,ltCps_eq,decide_eq_false_iff_not]at h;have h1:me p x=true:=decide_eq_true (RR.mp h.1);have h2:=GH x r h.2;rw[XO];refine⟨λy hy=>?_,h2⟩;rcases Wc.mp hy with z|z
  ·rw[z];exact h1
  ·exact GB p x y h1 ((XO.mp h2).1 y z)
theorem GI:∀(l:List Str),sortedS l=true->l.Pairwise λa b=>me a b=true
 | [],_=>.nil
 |x::r,h=>GH x r h
theorem GJ:∀{ys:List Str}{us:List M3},aF (ys.map V.str) us->StrsAre us ys:=by
 intro ys
 induction ys with
 |nil=>intro us rv;cases rv;exact .nil
 |cons y ys ih=>
  intro us rv;rw[V2]at rv;cases rv with
  |cons r1 r2=>obtain⟨t,rfl⟩:=r1;exact .cons y t (ih r2)
theorem BR:∀{ys:List Str}{us:List M3},StrsAre us ys->aF (ys.map V.str) us
 |_,_,.nil=>.nil
 |_,_,.cons y t r=>.cons ⟨t,rfl⟩ (BR r)
theorem aaM:l6 X (.builtin "sorted") (λxs H Q=>∃p ss,xs=[.ref p]/\bb X.K H p (ss.map V.str)/\ss.length < 64/\∀l,H l=none->Q (.ref l) (ai H l (.lst ((mL ss).map V.str)))):=by
 intro aeK s U H xs us Q I r h;obtain⟨p,ss,rfl,hq,h64,q⟩:=h;obtain⟨u,rfl,rx⟩:=mH r;cases rx;obtain⟨its,rv,pl,hz⟩:=I.list hq;have hlen:=rv.length;rw[V0]at hlen;refine sorted_strs pl.isList (GJ rv) L8 λout ss' a1 a2 a3=>?_;obtain⟨e,he⟩:=sortedAll_at s.heap its out;have es:ss'=mL ss:=GG a2 (GI _ a3);subst es;have hl2:(mL ss).length=ss.length:=a2.length_eq;refine⟨.ref _,_,I.laid (t':=s.toks) (o:= .lst ((mL ss).map V.str)) (λb ob q=>sortedAll_old q) (Yj _) ?_,rfl,q _ (I.hok.fresh (Yj _))⟩;refine⟨by rw[V0,hl2];exact Wy (YT h64) MA,out.toList,e,BR a1,?_⟩;rw[he]
theorem ak.strs:∀{ss:List Str}{vs:List V},ak Z H O vs (ss.map V8)->vs=ss.map V.str
 | [],_,r=>by rw[WD]at r;cases r;rfl
 |b::bs,_,r=>by
  rw[V2]at r;cases r with
  |cons h r=>cases h;rw[V2,ak.strs r]
theorem ak.ofStrs:∀(ss:List Str),ak Z H O (ss.map V.str) (ss.map V8)
 | []=>.nil
 |s::r=>.cons (.str s) (ak.ofStrs r)
def fR(t:DA):DA:=λY Q=>t Y λds=>∃ss:List Str,ds=[.list (ss.map .str)]/\ss.length < 64/\Q ((mL ss).map .str)
theorem aeu{a:Mb}{t:DA}{np p:Pos}(hg:Gl X "sorted")(hm:X.mg "sorted"=none)(hv:N6 "sorted"=some (.builtin "sorted"))(ha:PA X [a] (nG X.K H0 O0 t))(he:MQ [a] X.env=(false,eval a X.env)::MQ [] X.env:=by rfl)(hpl:(Mj p (MQ [] X.env)).any (·.1)=false:=by rfl):FE X H0 O0 (.Call (.Name "sorted" np) [a] [] p) (fR t):=
 (dA aaM hg hm hv ha (he:=he) (hpl:=hpl)).imp λU H Q uu=>by obtain⟨O,Y,Qd,w,q,k⟩:=uu;exact⟨O,Y,_,w,q,λds vs H1 uu s1 r1=>by
  obtain⟨ss,e,h64,q1⟩:=uu;subst e;cases r1 with
  |cons h r=>
   cases r;obtain⟨a,us,rfl,h1,d1⟩:=h.lst;cases d1.strs;exact⟨a,ss,rfl,h1,h64,λl hl=>k _ _ _ _ q1 s1 hl (ak.ofStrs _)⟩⟩
end
end L2
namespace PySem.SeqAt
open AutoSeq1 (wpAny_loadPart')
open MeetsSeq
theorem GK(l:L9)(es:Array Pw)(n:Nat)(dd:Option L9)(sl:Array (Option M3))(b:Str)(u:Tok):
 Meets (Builtin.«dict.__eq__» ⟨[.ref l,.str b u],[]⟩) (λ_ R s=>s.heap.get? l=some {cls:= .type "dict",dict:=dd,data:= .dict es n,slots:=sl}/\R (.ok (.ret .notImplemented)) s):=
 .of_wp λprog w A R s h=>by obtain⟨hp,g,d,tk,os⟩:=s;obtain⟨hl,h⟩:=h;have f1:=F.sub_str_dict;wp_walk using QD hl;exact⟨_,rfl,h⟩
theorem GL(b:Str)(u:Tok)(l:L9)(c:M3)(es:Array Pw)(n:Nat)(dd:Option L9)(sl:Array (Option M3)):
 Meets (Builtin.«str.__eq__» ⟨[.str b u,.ref l],[]⟩) (λ_ R s=>s.heap.get? l=some {cls:=c,dict:=dd,data:= .dict es n,slots:=sl}/\R (.ok (.ret .notImplemented)) s):=
 .of_wp λprog w A R s h=>by obtain⟨hp,g,d,tk,os⟩:=s;obtain⟨hl,h⟩:=h;wp_walk using QD hl,wpAny_load hl;exact⟨_,rfl,h⟩
theorem RcAt.dict_str(b:Str)(u:Tok)(ho:s.heap.get? l=some o)(hc:o.cls= .type "dict")(hd:o.data= .dict es n)(hu:A.units < Mq):RcAt A s (.ref l) (.str b u) false:=λprog w E Q h=>by
 obtain⟨cls,dd,data,sl⟩:=o;simp only at hc hd;subst hc hd;exact rc_eq_decline_or (k:=false) ⟨_,ho,rfl⟩ (Oa s b u) MA F.sub_str_dict F.slot_dict_eq F.slot_str_eq_refl
  (λ_ hq=>OT F.slot_dict_eq ⟨_,ho,rfl⟩ F.entry_dict_eq (F.args_dict_eq_2 _ _) (GK l es n dd sl b u) ⟨ho,hq⟩)
  (λ_ hq=>OT F.slot_str_eq_refl (Oa s b u) F.entry_str_eq (F.args_str_eq_2 _ _) (GL b u l (.type "dict") es n dd sl) ⟨ho,hq⟩)
  (λ_ hq=>P1 (rfl:isSame (.ref l) (.str b u)=pure false) hq) (.inr hu) h
theorem RcAt.str_dict(b:Str)(u:Tok)(ho:s.heap.get? l=some o)(hc:o.cls= .type "dict")(hd:o.data= .dict es n)(hu:A.units < Mq):RcAt A s (.str b u) (.ref l) false:=λprog w E Q h=>by
 obtain⟨cls,dd,data,sl⟩:=o;simp only at hc hd;subst hc hd;exact rc_eq_decline_or (k:=false) (Oa s b u) ⟨_,ho,rfl⟩ MA F.sub_dict_str F.slot_str_eq F.slot_dict_eq_refl
  (λ_ hq=>OT F.slot_str_eq (Oa s b u) F.entry_str_eq (F.args_str_eq_2 _ _) (GL b u l (.type "dict") es n dd sl) ⟨ho,hq⟩)
  (λ_ hq=>OT F.slot_dict_eq_refl ⟨_,ho,rfl⟩ F.entry_dict_eq (F.args_dict_eq_2 _ _) (GK l es n dd sl b u) ⟨ho,hq⟩)
  (λ_ hq=>P1 (rfl:isSame (.str b u) (.ref l)=pure false) hq) (.inr hu) h
theorem EqAt.str_dict(b:Str)(u:Tok)(ho:s.heap.get? l=some o)(hc:o.cls= .type "dict")(hd:o.data= .dict es n)(hu:A.units < Mq):EqAt A s (.str b u) (.ref l) false:=λprog w E Q h=>by
 unfold eqBool;refine N9 ?_;refine QE (λhab=>absurd (eq_of_beq hab) nofun) (λ_=>?_);exact M5 (RcAt.str_dict b u ho hc hd hu prog w E _ (Nu h))
end PySem.SeqAt
namespace L2
open PySem PySem.Spec PyProof.Rows PySem.W
section
variable{X:Cx}{aeK:List (L9×Obj)}{U:St}{H:Hp}{s:M6}
def mf:L7->Bool
 | .dict [(.none,_)]=>false
 |_=>true
theorem abK(I:af X aeK U H s){O:Ex}{v:V}{d:L7}{u:M3}(h:Dt X.K H O v d)(ht:mf d=true)(r:aG v u)(y:Str)(t:Tok)(hu:X.A.units < Mq):SeqAt.RcAt X.A s u (.str y t) (Ws d (.str y)):=by
 cases h with
 |non=>cases (show u=Yn from r);simpa [Ws]using SeqAt.RcAt.none_str y t
 |bl b=>cases (show u=Y3 b from r);simpa [Ws]using SeqAt.RcAt.bool_str b y t
 |int i=>obtain⟨k,e⟩:=(show ∃t,u=YJ i t from r);cases e;simpa [Ws]using SeqAt.RcAt.int_str i k y t
 |str x=>obtain⟨k,e⟩:=(show ∃t,u=Zd x t from r);cases e;simpa [Ws]using SeqAt.RcAt.str_str x k y t
 | @tup a xs ds h n rr=>
  cases (show u=W5 a from r);obtain⟨its,rv,p,_⟩:=I.tuple (.inl h);simpa [Ws]using Tv y t (show s.heap.IsTuple a its.toArray from p) hu
 | @tupK a xs ds h rr=>
  cases (show u=W5 a from r);obtain⟨its,rv,p,_⟩:=I.tuple h.of0;simpa [Ws]using Tv y t (show s.heap.IsTuple a its.toArray from p) hu
 | @lst a xs ds h n rr=>
  cases (show u=W5 a from r);obtain⟨its,rv,p,_⟩:=I.list (.inl h);simpa [Ws]using SeqAt.RcAt.list_str y t p.isList hu
 |pack h n=>exact absurd ht (by simp[mf])
 |purse h n=>exact absurd ht (by simp[mf])
 |scr h r=>exact absurd ht (by simp[mf])
 |obj h e n r=>exact absurd ht (by simp[mf])
 | @dct0 a h n=>
  cases (show u=W5 a from r);obtain⟨_,_,_,_,o,es,ep,e,c,dd,_⟩:=(show cA X.prog X.w H s.heap a (.dK []) from I.hok a _ h);simpa [Ws]using SeqAt.RcAt.dict_str y t e c.1 dd hu
 | @dic a ob kv ks kp ds h e1 e2 n rr=>
  cases (show u=W5 a from r);obtain⟨_,_,_,_,o,es,ep,e,c,dd,_⟩:=(show cA X.prog X.w H s.heap a (.dK kv) from(I.hok a _ h).2);simpa [Ws]using SeqAt.RcAt.dict_str y t e c.1 dd hu
theorem Pf(I:af X aeK U H s){A:N0}{O:Ex}{v:V}{d:L7}{u:M3}(h:Dt X.K H O v d)(ht:mf d=true)(r:aG v u)(y:Str)(t:Tok)(hu:A.units < Mq):SeqAt.EqAt A s (.str y t) u (Ws (.str y) d):=by
 cases h with
 |non=>cases (show u=Yn from r);simpa [Ws]using SeqAt.EqAt.str_none y t
 |bl b=>cases (show u=Y3 b from r);simpa [Ws]using SeqAt.EqAt.str_bool y t b
 |int i=>obtain⟨k,e⟩:=(show ∃t,u=YJ i t from r);cases e;simpa [Ws]using Rm y t i k
 |str x=>obtain⟨k,e⟩:=(show ∃t,u=Zd x t from r);cases e;simpa [Ws]using SeqAt.EqAt.str_str y t x k
 | @tup a xs ds h n rr=>
  cases (show u=W5 a from r);obtain⟨its,rv,p,_⟩:=I.tuple (.inl h);simpa [Ws]using Ti y t (show s.heap.IsTuple a its.toArray from p) hu
 | @tupK a xs ds h rr=>
  cases (show u=W5 a from r);obtain⟨its,rv,p,_⟩:=I.tuple h.of0;simpa [Ws]using Ti y t (show s.heap.IsTuple a its.toArray from p) hu
 | @lst a xs ds h n rr=>
  cases (show u=W5 a from r);obtain⟨its,rv,p,_⟩:=I.list (.inl h);simpa [Ws]using SeqAt.EqAt.str_list y t p.isList hu
 |pack h n=>exact absurd ht (by simp[mf])
 |purse h n=>exact absurd ht (by simp[mf])
 |scr h r=>exact absurd ht (by simp[mf])
 |obj h e n r=>exact absurd ht (by simp[mf])
 | @dct0 a h n=>
  cases (show u=W5 a from r);obtain⟨_,_,_,_,o,es,ep,e,c,dd,_⟩:=(show cA X.prog X.w H s.heap a (.dK []) from I.hok a _ h);simpa [Ws]using SeqAt.EqAt.str_dict y t e c.1 dd hu
 | @dic a ob kv ks kp ds h e1 e2 n rr=>
  cases (show u=W5 a from r);obtain⟨_,_,_,_,o,es,ep,e,c,dd,_⟩:=(show cA X.prog X.w H s.heap a (.dK kv) from(I.hok a _ h).2);simpa [Ws]using SeqAt.EqAt.str_dict y t e c.1 dd hu
end
def GN(Z:VZ):R2:=λx y H Q=>∃O dx z,Dt Z H O x dx/\mf dx=true/\y= .str z/\Q (.bl (Ws dx (.str z))) H
theorem mv(hr:bf k X.A):bR X (Mz .Eq) (GN X.K):=by
 intro aeK s U H x y v u Q I rx ry h;obtain⟨O,dx,z,hx,ht,rfl,q⟩:=h;obtain⟨t,rfl⟩:=ry;have hc:Mz .Eq v (.str z t)=richCompare .Eq v (.str z t):=rfl;rw[hc];exact abK I hx ht rx z t hr.units0 X.prog X.w X.xe _ (bL I q rfl)
def cZ:L7->L7->(L7->Prop)->Prop:=λx y Q=>∃z,y= .str z/\mf x=true/\Q (.bool (Ws x (.str z)))
theorem mw:dF Z (GN Z) cZ:=λH O x y dx dy Qd R _ hx hy uu k=>by
 obtain⟨z,e,ht,q⟩:=uu;subst e;cases hy.str;exact⟨_,dx,z,hx.all,ht,rfl,k _ _ H q (av.refl _) (.bl _)⟩
theorem Pg(dx:L7)(hS:StrsAre its zs):its.any (λy=>Ws (.str (strOf y)) dx)=zs.any λz=>Ws (.str z) dx:=by
 induction hS with
 |nil=>rfl
 |cons y t r ih=>rw[WY,WY,ih];rfl
def GO(Z:VZ):R2:=λx y H Q=>∃(O:Ex)(dx:L7)(zs:List Str)(a:L9),Dt Z H O x dx/\mf dx=true/\y= .ref a/\bo Z H a (zs.map V.str)/\Q (.bl (zs.any λz=>Ws (.str z) dx)) H
theorem GP(hr:bf k X.A):bR X (Mz .In) (GO X.K):=by
 intro aeK s U H x y v u Q I rx ry h;obtain⟨O,dx,zs,a,hx,ht,rfl,ha,q⟩:=h;cases ry;obtain⟨its,rv,p,_⟩:=I.tuple ha;have hS:=GJ rv;have hl:=Pg dx hS;refine SeqAt.in_tupleAt (λy=>Ws (.str (strOf y)) dx) (show s.heap.IsTuple a its.toArray from p) (λy hy=>?_) (by rw[List.any_toArray,hl];exact bL I q rfl);obtain⟨z,t,rfl⟩:=hS.all y (by simpa using hy);exact Pf I hx ht rx z t (by show X.A.units+1 < Mq;have:=hr.un;omega)
def fS:L7->L7->(L7->Prop)->Prop:=λx y Q=>∃zs:List Str,y= .tuple (zs.map .str)/\mf x=true/\Q (.bool (zs.any λz=>Ws (.str z) x))
theorem GQ:dF Z (GO Z) fS:=λH O x y dx dy Qd R _ hx hy uu k=>by
 obtain⟨zs,e,ht,q⟩:=uu;subst e;obtain⟨a,vs,rfl,hs,r⟩:=hy.tup;cases r.strs;exact⟨_,dx,zs,a,hx.all,ht,rfl,hs,k _ _ H q (av.refl _) (.bl _)⟩
theorem bU:Gd [pV,.int z] Q↔(0 < z/\z<=1000000/\∀i:Int,0<=i->i < z->Q (.int i)):=by
 constructor
 ·rintro⟨z',e,a,b,c⟩;simp only[Wx,WT,and_true,true_and]at e;subst e;exact⟨a,b,c⟩
 ·rintro⟨a,b,c⟩;exact⟨z,rfl,a,b,c⟩
def BS:L7->Bool | .tuple _=>true|_=>false
theorem GR(d:L7):kitOne Z (.type (BH d)) (.type "tuple")=some (BS d):=by cases d<;>rfl
theorem xC{g:DG}{te:DT}{Q:List L7->Prop}(f:L7->L7)
 (h:∀x∈xs,∀R:L7->Prop,R (f x)->g x δ0 λδ2=>te δ2 R)(q:Q (xs.map f)):mV g cL te δ0 xs Q:=by
 refine⟨λi acc=>acc=(xs.take i).map f,rfl,?_,?_⟩
 ·rintro i x acc hx rfl;have:=h x (W0 hx) (λy=>(xs.take i).map f++[y]=(xs.take (i+1)).map f) (by rw[XA,hx];simp);simpa [cL]using this
 ·rintro acc rfl;rw[WU (V4 _)];exact q
theorem Ph{g:DG}{tc:DB}{Q:List L7->Prop}(f:L7->Option L7)
 (h:∀x∈xs,∀(R:L7->Prop) (S:Prop),(match f x with|some y=>R y|none=>S)->g x δ0 λδ2=>tc δ2 λok=>if ok=true then te δ2 R else S)(q:Q (xs.filterMap f)):mV g tc te δ0 xs Q:=by
 refine⟨λi acc=>acc=(xs.take i).filterMap f,rfl,?_,?_⟩
 ·rintro i x acc hx rfl;refine h x (W0 hx) (λy=>(xs.take i).filterMap f++[y]=(xs.take (i+1)).filterMap f) ((xs.take i).filterMap f=(xs.take (i+1)).filterMap f) ?_;rw[XA,hx];cases e:f x with
  |none=>simp[e]
  |some y=>simp[e]
 ·rintro acc rfl;rw[WU (V4 _)];exact q
theorem GS{g:DG}{te:DT}{Q:List L7->Prop}(P:L7->Prop)
 (h:∀x∈xs,∀R:L7->Prop,(∀y,P y->R y)->g x δ0 λδ2=>te δ2 R)(q:∀ys,ys.length=xs.length->(∀y∈ys,P y)->Q ys):mV g cL te δ0 xs Q:=by
 refine⟨λi acc=>acc.length=i/\∀y∈acc,P y,⟨rfl,MC⟩,?_,?_⟩
 ·rintro i x acc hx ⟨hl,ha⟩;have:=h x (W0 hx) (λy=>(acc++[y]).length=i+1/\∀z∈acc++[y],P z) (λy hy=>⟨by simp[hl],λz hz=>by
   rcases Wo.mp hz with m|m
   ·exact ha z m
   ·rw[WH]at m;rw[m];exact hy⟩)
  simpa [cL]using this
 ·rintro acc ⟨hl,ha⟩;exact q acc hl ha
theorem Pj{g:DG}{te:DT}{p:Bool->Prop}{gg:List Bool->Bool}(f:L7->Bool)
 (h:∀x∈xs,∀R:L7->Prop,R (.bool (f x))->g x δ0 λδ2=>te δ2 R)(q:p (gg (xs.map f))):mV g cL te δ0 xs λds=>∃bs:List Bool,ds=bs.map Ya/\p (gg bs):=
 xC (λx=>.bool (f x)) h ⟨xs.map f,by rw[Wk];rfl,q⟩
theorem iH{P:List Str->Prop}:(∃zs,[V8 a]=X3 V8 zs/\P zs)↔P [a]:=by
 refine⟨λ⟨zs,e,h⟩=>?_,λh=>⟨_,rfl,h⟩⟩
 match zs,e with
 | [x],e=>simp at e;rw[e];exact h
theorem iI{P:List Str->Prop}:(∃zs,[V8 a,V8 b]=X3 V8 zs/\P zs)↔P [a,b]:=by
 refine⟨λ⟨zs,e,h⟩=>?_,λh=>⟨_,rfl,h⟩⟩
 match zs,e with
 | [x,y],e=>simp at e;rw[e.1,e.2];exact h
theorem iJ{P:List Str->Prop}:(∃zs,[V8 a,V8 b,V8 c]=X3 V8 zs/\P zs)↔P [a,b,c]:=by
 refine⟨λ⟨zs,e,h⟩=>?_,λh=>⟨_,rfl,h⟩⟩
 match zs,e with
 | [x,y,z],e=>simp at e;rw[e.1,e.2.1,e.2.2];exact h
theorem fT:mf (.str x)=true:=rfl
theorem iK:mf (.int x)=true:=rfl
theorem iL:mf (.bool x)=true:=rfl
theorem iM:mf (.tuple x)=true:=rfl
theorem iN:mf (.list x)=true:=rfl
theorem aan(l u:Option Int)(n:Nat):SS l u 1 n=(XB (HT.sIx n n u - HT.sIx n 0 l)).map (HT.sIx n 0 l+·):=by
 unfold SS sliceRange;have c:∀(o:Option Int)(d:Nat),(match o with|none=>(d:Int)|some i=>max 0 (min (if i < 0 then i+(n:Int) else i) (n:Int)))=((HT.sIx n d o:Nat):Int):=by
  intro o d;cases o with
  |none=>rfl
  |some v=>
   show max 0 (min (if v < 0 then v+(n:Int) else v) (n:Int))=(((if v < 0 then(v+(n:Int)).toNat else min v.toNat n):Nat):Int);by_cases hv:v < 0
   ·rw[M8 hv,M8 hv];omega
   ·rw[M4 hv,M4 hv];omega
 have c0:=c l 0;have c1:=c u n;simp only[show(1:Int) > 0 by decide,if_true]at c0 c1⊢;simp only[Int.natCast_zero]at c0;have key:∀a b:Int,a=((HT.sIx n 0 l:Nat):Int)->b=((HT.sIx n n u:Nat):Int)->((XB (if a < b then(b - a+1 - 1)/ 1 else 0).toNat).map λ(k:Nat)=>(a+1*(k:Int)).toNat)=(XB (HT.sIx n n u - HT.sIx n 0 l)).map (HT.sIx n 0 l+·):=by
  intro a b ea eb;have e:(if a < b then(b - a+1 - 1)/ 1 else 0).toNat=HT.sIx n n u - HT.sIx n 0 l:=by
   rw[Ul];split<;>omega
  rw[e];refine Y0 λk _=>?_;show(a+1*(k:Int)).toNat=_;omega
 exact key _ _ c0 c1
def um(xs:List Nat)(l u:Option Int):List Nat:=(xs.drop (HT.sIx xs.length 0 l)).take (HT.sIx xs.length xs.length u - HT.sIx xs.length 0 l)
theorem BU(x:Str)(l u:Option Int):(Txt.slice x l u).cps.toList=um x.cps.toList l u:=by
 have hl:x.cps.toList.length=x.length:=by rw[WA];rfl
 unfold Txt.slice;rw[aan,V0,YX];unfold um;rw[hl];split
 ·rename_i h;have h2:HT.sIx x.length x.length u - HT.sIx x.length 0 l=x.length:=by simpa using h
  have h3:HT.sIx x.length x.length u<=x.length:=HT.sIx_le _ _ (V4 _) u;by_cases hz:x.length=0
  ·have:x.cps.toList=[]:=U4.mp L8;rw[this];simp
  ·have h4:HT.sIx x.length 0 l=0:=L8
   rw[h2,h4,UH,WU L8]
 ·rw[pick_run]
theorem Pm{xs:List Nat}{i:Int}(h0:0<=i)(h1:i<=xs.length):um xs none (some i)=xs.take i.toNat:=by
 unfold um;rw[t7,ui h0 h1];simp
theorem Pn{xs:List Nat}{i:Int}(h0:0<=i)(h1:i<=xs.length):um xs (some i) none=xs.drop i.toNat:=by
 unfold um;rw[t7,ui h0 h1,WU (by rw[YO];exact V4 _)]
theorem GU(x:Str):x.length=x.cps.toList.length:=by rw[WA];rfl
def units:List Str:=["days","months","years"]
theorem mW:∀d∈([]:List L7),cx n d:=λd hd=>by simp at hd
theorem cq(h:cx n d)(hr:∀e∈r,cx n e):∀e∈d::r,cx n e:=λe he=>by
 rcases Wc.mp he with z|z
 ·rw[z];exact h
 ·exact hr e z
theorem nQ(h:V6 x=true)(hn:1<=n:=by decide):cx n (.str x):=(pe h).mono hn
theorem GV(hn:1<=n:=by decide):cx n (.int x):=xy.mono hn
theorem BV{n:Nat}{ms:List Str}(h:∀m∈ms,V6 m=true)(hn:1<=n:=by decide):∀d∈ms.map V8,cx n d:=λd hd=>by
 obtain⟨m,hm,rfl⟩:=Wb.mp hd;exact(pe (h m hm)).mono hn
theorem iO:cM (a::l) (some 1) none=l:=by
 rw[xp MA (by simp only[V5];omega)];rfl
theorem iP:cM (a::b::l) (some 2) none=l:=by
 rw[xp MA (by simp only[V5];omega)];rfl
theorem iQ:cM (a::b::c::l) (some 3) none=l:=by
 rw[xp MA (by simp only[V5];omega)];rfl
theorem iR:cM (a::b::c::d::l) (some 4) none=l:=by
 rw[xp MA (by simp only[V5];omega)];rfl
theorem iS:cM (a::l) none (some 1)=[a]:=by
 rw[rX MA (by simp only[V5];omega)];rfl
theorem iT:cM (a::b::l) none (some 2)=[a,b]:=by
 rw[rX MA (by simp only[V5];omega)];rfl
theorem iU:cM (a::b::c::l) none (some 3)=[a,b,c]:=by
 rw[rX MA (by simp only[V5];omega)];rfl
theorem iV:cM (a::b::c::d::l) none (some 4)=[a,b,c,d]:=by
 rw[rX MA (by simp only[V5];omega)];rfl
theorem iW:cM (a::b::c::l) (some 1) (some 3)=[b,c]:=by
 unfold cM;rw[ui MA (by simp only[V5];omega),ui MA (by simp only[V5];omega)];rfl
end L2
namespace PySem
open Builtin
open AutoSeq1 (wpAny_loadPart')
end PySem
namespace L2
open PySem PySem.Spec PyProof.Rows PySem.W
def iX:L7->L7->(L7->Prop)->Prop:=λx y Q=>∃xs,x= .tuple xs/\y= .int 2/\xs≠[]/\xs.length<=1000/\Q (.tuple (xs++xs))
def iY:DT:=λ_ Q=>Q (.dict [])
def fU(t:DT):DT:=λY Q=>t Y λd=>∃i,d= .int i/\Q (.int (-i))
theorem BW(h:DE X H0 O0 e t):DE X H0 O0 (.UnaryOp .USub e pos) (fU t):=
 (MG MJ h).imp λU H Q uu=>by obtain⟨O,Y,Qd,w,q,k⟩:=uu;exact⟨O,Y,_,w,q,λd v H1 uu s1 r1=>by obtain⟨i,e,q1⟩:=uu;subst e;cases r1;exact⟨i,rfl,k _ _ H1 q1 s1 (.int _)⟩⟩
def iZ(t:DT):DT:=λY Q=>t Y λd=>∃z:Str,d= .str z/\z.length<=1000000/\Q (.str (Txt.upper z))
def i3(t:DT):DT:=λY Q=>t Y λd=>∃xs,d= .tuple xs/\Q (.tuple xs.reverse)
theorem i4:cM xs none (some (-1))=xs.dropLast:=by
 unfold cM;rw[t7];have e:HT.sIx xs.length xs.length (some (-1))=xs.length - 1:=by
  simp only[HT.sIx];rw[M8 MA];omega
 rw[e,UH,Nat.sub_zero,List.dropLast_eq_take]
theorem Po:N3 (.List a b) x n env=pure false:=rfl
theorem BX:N3 (.BinOp a b c d) x n env=pure false:=rfl
theorem se:N3 (.Call a b c d) x n env=pure false:=rfl
theorem p7:N3 (.Subscript a b c) x n env=pure false:=rfl
theorem aaA:N3 (.IfExp a b c d) x n env=pure false:=rfl
def i5(F:List L7->(List L7->Prop)->Prop)(t:DA):DA:=λY Q=>t Y λds=>F ds Q
def i6(t:DA):DA:=λY Q=>t Y λds=>ds.length<=1000/\Q (ds++ds)
theorem abB{g:DG}{tc:DB}{Q:List L7->Prop}
 (h:∀x∈xs,∀(R:L7->Prop) (S:Prop),R x->S->g x δ0 λδ2=>tc δ2 λok=>if ok=true then te δ2 R else S)(q:∀ys,ys.Sublist xs->Q ys):mV g tc te δ0 xs Q:=by
 refine⟨λi acc=>acc.Sublist (xs.take i),MC,?_,?_⟩
 ·rintro i x acc hx ha;have et:xs.take (i+1)=xs.take i++[x]:=by rw[XA,hx];rfl
  refine h x (W0 hx) (λy=>(acc++[y]).Sublist (xs.take (i+1))) (acc.Sublist (xs.take (i+1))) ?_ ?_
  ·show(acc++[x]).Sublist (xs.take (i+1));rw[et];exact ha.append (Z2 _)
  ·rw[et];exact ha.trans (List.sublist_append_left _ _)
 ·rintro acc ha;rw[WU (V4 _)]at ha;exact q acc ha
theorem i7:(VY "paper"==VY "happens")=false:=MN
theorem i8:(VY "paper"==VY "rule")=false:=MN
theorem i9:(VY "paper"==VY "end")=false:=MN
theorem ja:(VY "paper"==VY "hold")=false:=MN
theorem jb:(VY "paper"==VY "lift")=false:=MN
theorem jc:(VY "paper"==VY "leave")=false:=MN
theorem jd:(VY "happens"==VY "paper")=false:=MN
theorem je:(VY "happens"==VY "rule")=false:=MN
theorem jf:(VY "happens"==VY "end")=false:=MN
theorem jg:(VY "happens"==VY "hold")=false:=MN
theorem jh:(VY "happens"==VY "lift")=false:=MN
theorem ji:(VY "happens"==VY "leave")=false:=MN
theorem jj:(VY "rule"==VY "paper")=false:=MN
theorem jk:(VY "rule"==VY "happens")=false:=MN
theorem jm:(VY "rule"==VY "end")=false:=MN
theorem jn:(VY "rule"==VY "hold")=false:=MN
theorem jo:(VY "rule"==VY "lift")=false:=MN
theorem jq:(VY "rule"==VY "leave")=false:=MN
theorem jr:(VY "end"==VY "paper")=false:=MN
theorem jt:(VY "end"==VY "happens")=false:=MN
theorem ju:(VY "end"==VY "rule")=false:=MN
theorem jv:(VY "end"==VY "hold")=false:=MN
theorem jw:(VY "end"==VY "lift")=false:=MN
theorem jx:(VY "end"==VY "leave")=false:=MN
theorem jy:(VY "hold"==VY "paper")=false:=MN
theorem jz:(VY "hold"==VY "happens")=false:=MN
theorem jA:(VY "hold"==VY "rule")=false:=MN
theorem jB:(VY "hold"==VY "end")=false:=MN
theorem jC:(VY "hold"==VY "lift")=false:=MN
theorem jD:(VY "hold"==VY "leave")=false:=MN
theorem jE:(VY "lift"==VY "paper")=false:=MN
theorem jF:(VY "lift"==VY "happens")=false:=MN
theorem jG:(VY "lift"==VY "rule")=false:=MN
theorem jH:(VY "lift"==VY "end")=false:=MN
theorem jI:(VY "lift"==VY "hold")=false:=MN
theorem jJ:(VY "lift"==VY "leave")=false:=MN
theorem jK:(VY "leave"==VY "paper")=false:=MN
theorem jL:(VY "leave"==VY "happens")=false:=MN
theorem jM:(VY "leave"==VY "rule")=false:=MN
theorem jN:(VY "leave"==VY "end")=false:=MN
theorem jO:(VY "leave"==VY "hold")=false:=MN
theorem jP:(VY "leave"==VY "lift")=false:=MN
def jQ:Fa:=λds Q=>∃i:Int,ds=[.int i]/\i.natAbs.log2 < 1920/\Q (.str (toString i))
def jR:Fa:=λds Q=>∃(z:Str)(n:Int),ds=[.str z]/\PySem.intText? z=some n/\z.length<=640/\Q (.int n)
def jS(to t:DT):DT:=λY Q=>to Y λx=>∃z:Str,x= .str z/\t Y λy=>∃i:Int,y= .int i/\PadOk i=true/\Q (.str (Txt.zfill z i))
def jT(to t:DT):DA:=λY Q=>to Y λx=>∃z:Str,x= .str z/\t Y λy=>∃y':Str,y= .str y'/\(y'.length==0)=false/\z.length<=1000000/\Q ((Txt.split z y').map .str)
def fV:List DT->Str->DT
 | [],out=>λ_ Q=>out.length<=MT/\Q (.str out)
 |t::ts,out=>λY Q=>t Y λd=>∃z:Str,d= .str z/\z.length<=MT/\(out++z).length<=MT/\fV ts (out++z) Y Q
def fW:DS:=λ_ _=>False
theorem aez{st:MU}:PS X st (bp X.K H0 O0 fW):=adh.imp λD U H uu=>by obtain⟨O,Y,E,w,q,_,_,_,_⟩:=uu;exact q.elim
def GW(ns:List Int):List L7:=ns.map .int
def jU:L7->L7->(L7->Prop)->Prop:=λx y Q=>(∃i j:Int,x= .int i/\y= .int j/\Q (.bool (decide (i < j))))\/(∃i j:Str,x= .str i/\y= .str j/\Q (.bool (decide (i.cps.toList < j.cps.toList))))\/
 (∃ns ms:List Int,x= .tuple (GW ns)/\y= .tuple (GW ms)/\Q (.bool (HT.lexLt ns ms)))
section
variable{α:Type}{P:α->Prop}
theorem fX{a:L7}{r:Dl}{P:L7->Prop}:dO 0 (some (Sl.v a)::r) P=P a:=rfl
theorem jV{x:Option Sl}{r:Dl}{i:Nat}{P:L7->Prop}:dO (i+1) (x::r) P=dO i r P:=rfl
theorem jW{a:List L7}{r:Dl}{P:List L7->Prop}:(∃d,(some (Sl.o a)::r)[0]?=some (some (Sl.o d))/\P d)=P a:=MC
theorem jX{x:Option Sl}{r:Dl}{i:Nat}{P:List L7->Prop}:(∃d,(x::r)[i+1]?=some (some (Sl.o d))/\P d)=(∃d,r[i]?=some (some (Sl.o d))/\P d):=MC
theorem jY{l:Dl}{P:List L7->Prop}:(∃d,(l.set i (some (Sl.o a)))[i]?=some (some (Sl.o d))/\P d)=(i < l.length/\P a):=by
 apply propext;rw[Vy];constructor
 ·rintro⟨d,e,p⟩;by_cases h:i < l.length
  ·rw[WE h]at e;cases e;exact⟨h,p⟩
  ·rw[Yc L8]at e;cases e
 ·rintro⟨h,p⟩;exact⟨a,by rw[WE h];rfl,p⟩
theorem jZ{l:Dl}{P:List L7->Prop}(h:i≠j):(∃d,(l.set i x)[j]?=some (some (Sl.o d))/\P d)=(∃d,l[j]?=some (some (Sl.o d))/\P d):=by rw[Wg h]
theorem j2{P:Bool->Prop}:(∃b,Ya a= .bool b/\P b)=P a:=MC
theorem j3{P:Int->Prop}:(∃b,Wa a= .int b/\P b)=P a:=MC
theorem j4{P:Str->Prop}:(∃b,V8 a= .str b/\P b)=P a:=MC
theorem j5{P:List L7->Prop}:(∃b,WG a= .tuple b/\P b)=P a:=MC
theorem j6{P:List L7->Prop}:(∃b,X2 a= .list b/\P b)=P a:=MC
theorem j7{P:Int->Int->Prop}:(∃i j,Wa a= .int i/\Wa b= .int j/\P i j)=P a b:=MC
theorem j8{P:Str->Str->Prop}:(∃i j,V8 a= .str i/\V8 b= .str j/\P i j)=P a b:=MC
theorem j9{P:List L7->List L7->Prop}:(∃i j,WG a= .tuple i/\WG b= .tuple j/\P i j)=P a b:=MC
theorem kc{P:List L7->List L7->Prop}:(∃i j,X2 a= .list i/\X2 b= .list j/\P i j)=P a b:=MC
theorem ke{P:L7->List L7->Prop}:(∃x y,a::r=x::y/\P x y)=P a r:=propext ⟨λuu=>by obtain⟨_,_,e,p⟩:=uu;cases e;exact p,λp=>⟨_,_,rfl,p⟩⟩
theorem kg{P:L7->L7->Prop}:(∃x y,[a,b]=[x,y]/\P x y)=P a b:=propext ⟨λuu=>by obtain⟨_,_,e,p⟩:=uu;cases e;exact p,λp=>⟨_,_,rfl,p⟩⟩
theorem kh{P:L7->Prop}:(∃ds i d,WG (a::r)= .tuple ds/\Wa 0= .int i/\atI ds i=some d/\P d)=P a:=by simp[bN]
theorem ki{P:L7->Prop}:(∃ds i d,WG (a::b::r)= .tuple ds/\Wa 1= .int i/\atI ds i=some d/\P d)=P b:=by simp[cN]
theorem kj{P:L7->Prop}:(∃ds i d,WG (a::b::c::r)= .tuple ds/\Wa 2= .int i/\atI ds i=some d/\P d)=P c:=by simp[dH]
theorem km{P:L7->Prop}:(∃ds i d,WG (a::b::c::e::r)= .tuple ds/\Wa 3= .int i/\atI ds i=some d/\P d)=P e:=by simp[cO]
theorem kn{P:L7->Prop}:(∃ds i d,X2 (a::r)= .list ds/\Wa 0= .int i/\atI ds i=some d/\P d)=P a:=by simp[bN]
theorem ko{P:L7->Prop}:(∃ds i d,X2 (a::b::r)= .list ds/\Wa 1= .int i/\atI ds i=some d/\P d)=P b:=by simp[cN]
theorem kq{P:L7->Prop}:(∃ds i d,X2 (a::b::c::r)= .list ds/\Wa 2= .int i/\atI ds i=some d/\P d)=P c:=by simp[dH]
theorem kr{P:L7->Prop}:(∃ds i d,WG xs= .tuple ds/\Wa k= .int i/\atI ds i=some d/\P d)=(∃d,atI xs k=some d/\P d):=MC
theorem ku{P:L7->Prop}:(∃ds i d,X2 xs= .list ds/\Wa k= .int i/\atI ds i=some d/\P d)=(∃d,atI xs k=some d/\P d):=MC
end
theorem kx{w v:Str}{r:List L7}{l:Dl}{Q:Bool->Prop}:cc (bM cZ (bM cY (dO 0) (dC (.int 0))) (dC (.str v))) (some (.v (.tuple (.str w::r)))::l) Q=Q (w==v):=by
 simp[cc,bM,cZ,cY,fX,dC,bN,mf,bT]
theorem kz{l:Dl}:cc (bM cZ (bM cY (dO 0) (dC (.int 0))) (dC (.str v))) (l.set (k+1) x) Q=cc (bM cZ (bM cY (dO 0) (dC (.int 0))) (dC (.str v))) l Q:=by
 simp only[cc,bM,dO,dC,Wg (show k+1≠0 by omega)]
def pf:aj->L7
 | .inl i=>.int i
 | .inr x=>.str x
def mX(kd:List (aj×L7))(k:aj):Option L7:=(kd.find? λp=>decide (p.1=k)).map (·.2)
def mh(kd:List (aj×L7))(k:aj)(d:L7):List (aj×L7):=if (kd.any λp=>decide (p.1=k))=true then kd.map (λp=>if p.1=k then(p.1,d) else p) else kd++[(k,d)]
theorem Dt.key(h:Dt Z H O v (pf k)):v=kV k:=by
 cases k with
 |inl i=>cases h;rfl
 |inr x=>cases h;rfl
theorem bu.val(h:bu Z H O kv kd)(k:aj):(mr kv k=none/\mX kd k=none)\/∃v d,mr kv k=some v/\mX kd k=some d/\Dt Z H O v d:=by
 induction h with
 |nil=>exact .inl ⟨rfl,rfl⟩
 | @cons j v d r s a _ ih=>
  by_cases e:j=k
  ·exact .inr ⟨v,d,vC e,by simp[mX,XN,e],a⟩
  ·rw[uj e,show mX ((j,d)::s) k=mX s k by simp[mX,XN,e]];exact ih
theorem bu.any(h:bu Z H O kv kd)(k:aj):(kv.any λp=>decide (p.1=k))=(kd.any λp=>decide (p.1=k)):=by
 induction h with
 |nil=>rfl
 |cons a _ ih=>simp only[WY,ih]
theorem bu.length(h:bu Z H O kv kd):kv.length=kd.length:=by
 induction h with
 |nil=>rfl
 |cons a _ ih=>simp only[V5,ih]
theorem bu.append(h:bu Z H O kv kd)(h':bu Z H O kv' kd'):bu Z H O (kv++kv') (kd++kd'):=by
 induction h with
 |nil=>exact h'
 |cons a _ ih=>exact .cons a ih
theorem bu.repl(h:bu Z H O kv kd)(k:aj)(hv:Dt Z H O v d):bu Z H O (kv.map λp=>if p.1=k then(p.1,v) else p) (kd.map λp=>if p.1=k then(p.1,d) else p):=by
 induction h with
 |nil=>exact .nil
 | @cons j u e r s a _ ih=>
  simp only[V2];by_cases z:j=k
  ·rw[M8 z,M8 z];exact .cons hv ih
  ·rw[M4 z,M4 z];exact .cons a ih
theorem bu.put(h:bu Z H O kv kd)(k:aj)(hv:Dt Z H O v d):bu Z H O (putK kv k v) (mh kd k d):=by
 unfold putK mh;rw[h.any k];split
 ·exact h.repl k hv
 ·exact h.append (.cons hv .nil)
abbrev rK:=Dl->(List (aj×L7)->Prop)->Prop
inductive GX(Z:VZ)(H0:Hp)(O0:Ex)(t:rK)(U:St)(H:Hp)(R:VK):Prop
 |mk (O:Ex) (Y:Dl) (Qd:List (aj×L7)->Prop):Wd Z H0 O0 H O U Y->t Y Qd->(∀kd kv p H',Qd kd->av H H'->H' p=none->bu Z H' O kv kd->R (.ref p) (ai H' p (.dK kv)))->GX Z H0 O0 t U H R
abbrev KE(X:Cx)(H0:Hp)(O0:Ex)(e:Mb)(t:rK):Prop:=PE X e (GX X.K H0 O0 t)
def fY:rK:=λ_ Q=>Q []
theorem GY:KE X H0 O0 (.Dict [] [] pos) fY:=OU.imp λU H Q uu=>by obtain⟨O,Y,Qd,w,q,k⟩:=uu;exact λp hp=>k [] [] p H q (av.refl _) hp .nil
def fZ(i:Nat)(t:rK):DS:=λE Y=>t Y λkd=>E.nx (Y.set i (some (.k kd)))
theorem GZ{pos pos':Pos}(hN:X.N.Nodup)(hi:X.N[i]?=some x)(hx:oR X.env.scope x)(he:KE X H0 O0 e t)(hs:N3 e (some (.Name x pos')) pos.line X.env=pure false:=by rfl)(hf:X.fn x=true\/X.env.scope.names.lookup x=some .local:=by first|exact .inl rfl|exact .inr rfl|assumption):
 PS X (.Assign [.Name x pos'] e pos) (bp X.K H0 O0 (fZ i t)):=
 (mR hN hi hx he hs hf).imp λD U H ⟨O,Y,E,w,q,k1,k2,k3,k4⟩=>⟨O,Y,_,w,q,λds vs p H1 q1 s1 hp r1=>k1 _ _ _ _ q1 ((w.mono s1).setK hp r1)
  ⟨λb o e _=>(s1.trans (av.new hp)) b o e,λb e n z=>z.elim n λy=>by
   cases q:H b with
   |none=>exact e q
   |some o=>have:=s1 _ _ q;rw[y,hp]at this;cases this⟩⟩
def gb(i:Nat)(tk tv:DT):DS:=λE Y=>tv Y λd=>∃kd,Y[i]?=some (some (.k kd))/\tk Y λy=>∃k,y=pf k/\kd.length < MT/\E.nx (Y.set i (some (.k (mh kd k d))))
theorem G0{pos pos':Pos}(hu:X.A.units+64 < Mq)(ho:PE X o (lW i))(he:DE X H0 O0 e tk)(hv:DE X H0 O0 v tv)(hs:N3 v (some (.Subscript o e pos')) pos.line X.env=pure false:=by rfl):
 PS X (.Assign [.Subscript o e pos'] v pos) (bp X.K H0 O0 (gb i tk tv)):=
 (BL L8 ho he hv hs).imp λD U H ⟨O,Y,E,w,q,k1,k2,k3,k4⟩=>⟨O,Y,_,w,q,λd u H1 uu s1 r1=>by
  obtain⟨kd,e,qk⟩:=uu;have w1:=w.mono s1;obtain⟨l,kv,h,a,b,c,r⟩:=w1.ownK e;refine⟨.ref l,h,O,Y,_,w1,qk,λy uy H2 ⟨k,ek,hl,q2⟩ s2 r2=>?_⟩;subst ek;obtain rfl:=r2.key;refine⟨l,_,rfl,tm.k (s2 _ _ c) (by rw[r.length];exact hl),k1 _ _ _ _ q2 ((w1.mono s2).putK e h ((r.mono s2).put k (r1.mono s2))) ⟨λb' o' z n=>?_,λ_ _ n=>n⟩⟩;rw[ar (λy=>n (by rw[y];exact a))];exact(s1.trans s2) _ _ z⟩
def gc(i:Nat)(tk:DT):DT:=λY Q=>∃kd,Y[i]?=some (some (.k kd))/\tk Y λy=>∃k d,y=pf k/\mX kd k=some d/\Q d
theorem bu.got(h:bu Z H O kv kd)(e:mX kd k=some d):∃v,mr kv k=some v/\Dt Z H O v d:=by
 rcases h.val k with⟨_,z⟩|⟨v,d',a,b,c⟩
 ·rw[e]at z;cases z
 ·rw[e]at b;cases b;exact⟨v,a,c⟩
theorem bu.none(h:bu Z H O kv kd):(mr kv k).isSome=(mX kd k).isSome:=by
 rcases h.val k with⟨y,z⟩|⟨v,d',a,b,c⟩
 ·rw[y,z];rfl
 ·rw[a,b];rfl
theorem aee(hu:X.A.units+64 < Mq)(ho:PE X o (lW i))(he:DE X H0 O0 e tk)(hs:xt e):DE X H0 O0 (.Subscript o e pos) (gc i tk):=
 (Gm L8 ho he hs).imp λU H Q uu=>by
  obtain⟨O,Y,Qd,w,⟨kd,e,q⟩,k⟩:=uu;obtain⟨l,kv,h,a,b,c,r⟩:=w.ownK e;refine⟨.ref l,h,O,Y,_,w,q,λy uy H2 ⟨ky,d,ek,ev,q2⟩ s2 r2=>?_⟩;subst ek;obtain rfl:=r2.key;obtain⟨v,hv,dv⟩:=r.got ev;exact⟨l,v,rfl,by rw[<-hv];exact iB.k (s2 _ _ c),k _ _ _ q2 s2 (dv.mono s2)⟩
def gf(i:Nat)(tk:DT):DT:=λY Q=>∃kd,Y[i]?=some (some (.k kd))/\tk Y λy=>∃k,y=pf k/\Q ((mX kd k).getD .none)
theorem aeA{apos cpos:Pos}(hu:X.A.units+64 < Mq)(ho:PE X o (lW i))(he:DE X H0 O0 e tk)(m:M1 X o "get" apos e cpos):DE X H0 O0 (.Call (.Attribute o "get" apos) [e] [] cpos) (gf i tk):=
 (Gv L8 ho he m).imp λU H Q uu=>by
  obtain⟨O,Y,Qd,w,⟨kd,e,q⟩,k⟩:=uu;obtain⟨l,kv,h,a,b,c,r⟩:=w.ownK e;refine⟨.ref l,h,l,rfl,.inl ⟨kv,.inl c⟩,O,Y,_,w,q,λy uy H2 ⟨ky,ek,q2⟩ s2 r2=>?_⟩;subst ek;obtain rfl:=r2.key;refine⟨_,iB.k (s2 _ _ c),k _ _ _ q2 s2 ?_⟩;rcases r.val ky with⟨y,z⟩|⟨v,d',a',b',c'⟩
  ·rw[y,z];exact .non
  ·rw[a',b'];exact c'.mono s2
def kA(neg:Bool)(i:Nat)(tk:DT):DT:=λY Q=>tk Y λy=>∃k,y=pf k/\∃kd,Y[i]?=some (some (.k kd))/\Q (.bool (if neg then !(mX kd k).isSome else(mX kd k).isSome))
open PySem PySem.Spec PyProof.Rows PySem.W PySem.Calls
theorem aex{A:N0}{s:M6}{Q:M3->M6->Prop}
 (Z:KdlSrc prog w T r d n P OK)(hh:A.handled=none)(hok:OK s.heap)(hn:n < 64)(hP:∀vs:List M3,vs.length=n->(∀j v,vs[j]?=some v->P j v)->StrsAre vs ss)
 (h:∀(h' h2:Md) (tk:Nat) (out:Array M3) (e:Nat) (ss':List Str),(∀b o,s.heap.get? b=some o->h'.get? b=some o)->(∀b o,h'.get? b=some o->h2.get? b=some o)->h2.get? h'.objs.size=some (Ml "list" out e)->StrsAre out.toList ss'->ss'.Perm ss->sortedS ss'=true->Q (.ref h'.objs.size) {s with heap:=h2,toks:=tk}):
 MD (MK prog w) A (NC (.builtin "sorted") [.ref r]) Q E s:=by
 refine ZJ kind_sorted plain_sorted entry_sorted (args_sorted1 _) ?_;unfold Builtin.«sorted»;refine M5 (m:=checkCount "sorted" 1 1 _) (MO ?_);refine M5 (kdu_collect (A:=A.in1) Z hh hok (Wy (YT hn) MA) λh' tk acc hk hacc=>?_);have hl:acc.toList.length=n:=by rw[WA];exact hacc.1
 refine M5 (P5 ?_);have hS:=hP acc.toList hl (λj v e=>hacc.2 j v (by rw[<-Zv];exact e));have hoL:(h'.push (Ml "list" acc.toList.toArray 0)).get? h'.objs.size=some (Ml "list" acc.toList.toArray 0):=Wv _ rfl;refine M5 (N9 (Nk Pu ⟨_,hoL,rfl⟩ Py (list_sort_treeK (s:={s with heap:=h'.push (Ml "list" acc.toList.toArray 0),toks:=tk}) strKind_oneLt hoL hS.keysOf (λv₁ v₂ rest e=>keyKind_strs (by rw[<-e];exact hS)) (by rw[hl];exact hn) λst' a1 a2=>⟨_,rfl,?_⟩) (args_list_sort _)));obtain⟨ss',h1,h2,h3⟩:=sorted_out_str hS a1 a2;obtain⟨e,he⟩:=sortedHeap_at (n:=0) (vs:=acc.toList) (out:=(arrOf st').map (·.2)) hoL;refine MO ⟨_,rfl,h h' _ tk _ e ss' hk (λb o q=>?_) he h1 h2 h3⟩;have hlt:b < h'.objs.size:=Wl q;rw[sortedHeap_old (WI hlt) (by rw[size_push'];exact Ye hlt),Sr _ _ _ (WI hlt)];exact q
theorem G1:∀{ss:List Str}{vs:List M3},vs.length=ss.length->(∀(j:Nat)(v:M3),vs[j]?=some v->∃x:Str,ss[j]?=some x/\(cK P w).is (.inr x) v=true)->StrsAre vs ss
 | [],[],_,_=>.nil
 |x::ss,v::vs,hl,h=>by
  obtain⟨y,e,k⟩:=h 0 v rfl;cases e;rcases pN (k:= .inr x) (v:=v) k with⟨i,t,e,_⟩|⟨z,t,e,ev⟩
  ·cases e
  ·cases e;subst ev;exact .cons x t (G1 (by simpa using hl) λj v e=>h (j+1) v e)
theorem Pz:l6 X (.builtin "sorted") (λxs H Q=>X.calm=true/\∃a kv ss,xs=[.ref a]/\Rd H a (.dK kv)/\kv.map (·.1)=ss.map X6/\ss.length < 64/\∀l,H l=none->Q (.ref l) (ai H l (.lst ((mL ss).map V.str)))):=by
 intro aeK s U H xs us Q I r h;obtain⟨hc,a,kv,ss,rfl,ha,hk,h64,q⟩:=h;obtain⟨u,rfl,rx⟩:=mH r;cases rx;obtain⟨hz,lo,vs,rel,dd⟩:=rH I.hok ha;obtain⟨ep,da⟩:=dd.dictAt;have hlen:vs.length=ss.length:=by rw[<-rel.length,<-V0 (f:=(·.1)),hk,V0]
 refine aex (ss:=ss) (kdl_dict (kvs:=vs) (ep:=ep) lo) (I.ok.hd hc) da L8 (λus hl hp=>G1 (P:=X.prog) (w:=X.w) L8 λj v e=>?_) λh' h2 tk out e ss' k1 k2 at2 s1 s2 s3=>?_
 ·obtain⟨k,x,ek,kk⟩:=hp j v e;have e1:(vs.map (·.1))[j]?=some k:=by rw[Wm,ek];rfl
  rw[<-rel.keys,hk,Wm]at e1;cases es:ss[j]? with
  |none=>rw[es]at e1;cases e1
  |some y=>rw[es]at e1;cases e1;exact⟨y,rfl,kk⟩
 ·have es:ss'=mL ss:=GG s2 (GI _ s3);subst es;have hl2:(mL ss).length=ss.length:=s2.length_eq;have I1:af X aeK U H {s with heap:=h',toks:=tk}:=I.kept (t':=tk) k1;refine⟨.ref _,_,I1.laid (t':=tk) (o:= .lst ((mL ss).map V.str)) k2 (V4 _) ?_,rfl,q _ (I1.hok.fresh (V4 _))⟩;refine⟨by rw[V0,hl2];exact Wy (YT h64) MA,out.toList,e,BR s1,?_⟩;rw[at2]
theorem bu.keys(h:bu Z H O kv kd):kv.map (·.1)=kd.map (·.1):=by
 induction h with
 |nil=>rfl
 |cons a _ ih=>simp only[V2,ih]
section
variable{X:Cx}{H0:Hp}{O0:Ex}
def gh(i:Nat):DA:=λY Q=>∃kd,Y[i]?=some (some (.k kd))/\∃ss:List Str,kd.map (·.1)=ss.map X6/\ss.length < 64/\Q ((mL ss).map .str)
theorem aaf{i:Nat}{o:Mb}{np p:Pos}(hc:X.calm=true)(hg:Gl X "sorted")(hm:X.mg "sorted"=none)(hv:N6 "sorted"=some (.builtin "sorted"))(ho:PE X o (lW i))(he:MQ [o] X.env=(false,eval o X.env)::MQ [] X.env:=by rfl)(hpl:(Mj p (MQ [] X.env)).any (·.1)=false:=by rfl):
 FE X H0 O0 (.Call (.Name "sorted" np) [o] [] p) (gh i):=
 (dA Pz hg hm hv (bj ho cm he) (he:=he) (hpl:=hpl)).imp λU H Q uu=>by
  obtain⟨O,Y,Qd,w,⟨kd,e,ss,ek,h64,q⟩,k⟩:=uu;obtain⟨l,kv,h,a,b,c,r⟩:=w.ownK e;exact⟨.ref l,h,hc,l,kv,ss,rfl,.inl c,by rw[r.keys];exact ek,h64,λp hp=>k _ _ _ _ q (av.refl _) hp (ak.ofStrs _)⟩
end
section
theorem kB{a:List (aj×L7)}{r:Dl}{P:List (aj×L7)->Prop}:(∃d,(some (Sl.k a)::r)[0]?=some (some (Sl.k d))/\P d)=P a:=MC
theorem kC{x:Option Sl}{r:Dl}{i:Nat}{P:List (aj×L7)->Prop}:(∃d,(x::r)[i+1]?=some (some (Sl.k d))/\P d)=(∃d,r[i]?=some (some (Sl.k d))/\P d):=MC
theorem kD{l:Dl}{P:List (aj×L7)->Prop}:(∃d,(l.set i (some (Sl.k a)))[i]?=some (some (Sl.k d))/\P d)=(i < l.length/\P a):=by
 apply propext;rw[Vy];constructor
 ·rintro⟨d,e,p⟩;by_cases h:i < l.length
  ·rw[WE h]at e;cases e;exact⟨h,p⟩
  ·rw[Yc L8]at e;cases e
 ·rintro⟨h,p⟩;exact⟨a,by rw[WE h];rfl,p⟩
theorem kE{l:Dl}{P:List (aj×L7)->Prop}(h:i≠j):(∃d,(l.set i x)[j]?=some (some (Sl.k d))/\P d)=(∃d,l[j]?=some (some (Sl.k d))/\P d):=by rw[Wg h]
theorem kF{P:aj->Prop}:(∃k,V8 x=pf k/\P k)=P (.inr x):=propext ⟨λuu=>by obtain⟨k,e,p⟩:=uu;cases k with|inl i=>cases e|inr y=>cases e;exact p,λp=>⟨_,rfl,p⟩⟩
theorem kG{P:aj->Prop}:(∃k,Wa x=pf k/\P k)=P (.inl x):=propext ⟨λuu=>by obtain⟨k,e,p⟩:=uu;cases k with|inr i=>cases e|inl y=>cases e;exact p,λp=>⟨_,rfl,p⟩⟩
end
def mM:L7->Bool
 | .none=>true
 |_=>false
def gi:L7->L7->(L7->Prop)->Prop:=λx y Q=>y= .none/\Q (.bool (mM x))
def gj:L7->L7->(L7->Prop)->Prop:=λx y Q=>y= .none/\Q (.bool (!mM x))
theorem Sh.isN(h:Sh Z H O x d):decide (x= .non)=mM d:=by
 cases h with
 |dt h=>cases h<;>simp[mM]
 |_=>simp[mM]
theorem tw:dF Z (λx y H Q=>y= .non/\Q (.bl (decide (x= .non))) H) gi:=λH O x y dx dy Qd R _ hx hy uu k=>by
 obtain⟨e,q⟩:=uu;subst e;refine⟨hy.non,?_⟩;rw[hx.isN];exact k _ _ H q (av.refl _) (.bl _)
theorem xD:dF Z (λx y H Q=>y= .non/\Q (.bl (!decide (x= .non))) H) gj:=λH O x y dx dy Qd R _ hx hy uu k=>by
 obtain⟨e,q⟩:=uu;subst e;refine⟨hy.non,?_⟩;rw[hx.isN];exact k _ _ H q (av.refl _) (.bl _)
def kH:Fa:=λds Q=>∃i:Int,ds=[.int i]/\Q (.int (if i < 0 then -i else i))
def kI:L7->L7->(L7->Prop)->Prop:=λx y Q=>∃ds i d,x=oU ds/\y= .int i/\atI ds i=some d/\Q d
def kJ(t:DT)(tl th:DO):DA:=λY Q=>t Y λd=>tl Y λl=>th Y λu=>∃xs,d=oU xs/\Q (cM xs l u)
def kK:L7->L7->(L7->Prop)->Prop:=λx y Q=>∃(z:Str)(n:Int),x= .str z/\y= .int n/\MulOk z n/\Q (.str (Txt.mul z n))
structure Rw where
 w:Str
 n:Int
 nm:Str
 r:List L7
def Rw.enc(x:Rw):L7:= .tuple (.str x.w:: .int x.n:: .str x.nm::x.r)
def nR(ws:List Str)(day:Int)(x:Rw):Prop:=x.w∈ws/\x.n<=day
instance {ws:List Str} {day:Int} {x:Rw}:Decidable (nR ws day x):=by unfold nR;infer_instance
abbrev Ls:=List (Str×Rw)
def ph(L:Ls):List (aj×L7):=L.map λp=>(.inr p.1,p.2.enc)
def mx(L:Ls)(nm:Str):Option Rw:=(L.find? λp=>decide (p.1=nm)).map (·.2)
def xE(L:Ls)(nm:Str)(x:Rw):Ls:=if (L.any λp=>decide (p.1=nm))=true then L.map (λp=>if p.1=nm then(p.1,x) else p) else L++[(nm,x)]
theorem qE:((X6 a:aj)=X6 b)↔a=b:=⟨λh=>by cases h;rfl,λh=>by rw[h]⟩
theorem BY(nm:Str):∀L:Ls,mX (ph L) (.inr nm)=(mx L nm).map Rw.enc
 | []=>rfl
 |p::L=>by
  have ih:=BY nm L;unfold mX mx ph at*;by_cases h:p.1=nm
  ·simp[XN,h]
  ·have h':¬((X6 p.1:aj)=X6 nm):=λz=>h (qE.mp z);simp only[V2,XN,decide_eq_false h,decide_eq_false h'];exact ih
theorem G2(L:Ls)(nm:Str)(x:Rw):mh (ph L) (.inr nm) x.enc=ph (xE L nm x):=by
 have ha:(ph L).any (λp=>decide (p.1=(X6 nm:aj)))=L.any λp=>decide (p.1=nm):=by
  unfold ph;rw[ZR];congr 1;funext p;simp only[YE,qE]
 unfold mh xE;rw[ha];split
 ·unfold ph;rw[Wk,Wk];apply Y0;intro p _;simp only[YE,qE];split<;>rfl
 ·unfold ph;simp
structure my (ws:List Str) (day:Int) (xs:List Rw) (L:Ls):Prop where
 nd:(L.map (·.1)).Nodup
 it:∀p∈L,p.1=p.2.nm/\p.2∈xs/\nR ws day p.2/\∀y∈xs,nR ws day y->y.nm=p.1->y.n<=p.2.n
 al:∀y∈xs,nR ws day y->∃p∈L,p.1=y.nm
 le:L.length<=xs.length
theorem my.nil(ws:List Str)(day:Int):my ws day [] []:=⟨QY,(λp h=>by cases h),(λp h=>by cases h),V4 _⟩
theorem xF(h:mx L nm=some y):∃p∈L,p.1=nm/\p.2=y:=by
 unfold mx at h;cases e:L.find? (λp=>decide (p.1=nm)) with
 |none=>rw[e]at h;cases h
 |some p=>
  rw[e]at h;cases h;exact⟨p,List.mem_of_find?_eq_some e,by simpa using List.find?_some e,rfl⟩
theorem G3(h:mx L nm=none):∀p∈L,p.1≠nm:=by
 intro p hp e;unfold mx at h;rw[Option.map_eq_none_iff,ZS]at h;exact h p hp (by simpa using e)
theorem my.skip(h:my ws day xs L)(hx:¬nR ws day x):my ws day (xs++[x]) L:=by
 refine⟨h.nd,λp hp=>?_,λy hy ho=>?_,by have:=h.le;simp;omega⟩
 ·obtain⟨a,b,c,d⟩:=h.it p hp;refine⟨a,by simp[b],c,λy hy ho e=>?_⟩;rcases Wo.mp hy with z|z
  ·exact d y z ho e
  ·rw[WH]at z;subst z;exact absurd ho hx
 ·rcases Wo.mp hy with z|z
  ·exact h.al y z ho
  ·rw[WH]at z;subst z;exact absurd ho hx
theorem my.keep(h:my ws day xs L)(hl:mx L x.nm=some y0)(hn:¬y0.n < x.n):my ws day (xs++[x]) L:=by
 obtain⟨p0,hp0,e0,rfl⟩:=xF hl;have uq:∀p∈L,p.1=x.nm->p=p0:=λp hp e=>by
  have nd:=h.nd;clear h hl hn
  induction L with
  |nil=>cases hp
  |cons q L ih=>
   rw[V2,XW]at nd;rcases Wc.mp hp with a|a<;>rcases Wc.mp hp0 with b|b
   ·rw[a,b]
   ·exact absurd (Wb.mpr ⟨p0,b,by rw[e0,<-e,a]⟩) nd.1
   ·exact absurd (Wb.mpr ⟨p,a,by rw[e,<-e0,b]⟩) nd.1
   ·exact ih b a nd.2
 refine⟨h.nd,λp hp=>?_,λy hy ho=>?_,by have:=h.le;simp;omega⟩
 ·obtain⟨a,b,c,d⟩:=h.it p hp;refine⟨a,by simp[b],c,λy hy ho e=>?_⟩;rcases Wo.mp hy with z|z
  ·exact d y z ho e
  ·rw[WH]at z;subst z;rw[uq p hp e.symm];omega
 ·rcases Wo.mp hy with z|z
  ·exact h.al y z ho
  ·rw[WH]at z;subst z;exact⟨p0,hp0,e0⟩
theorem my.put(h:my ws day xs L)(ho:nR ws day x)(hl:∀y,mx L x.nm=some y->y.n < x.n):my ws day (xs++[x]) (xE L x.nm x):=by
 unfold xE;split
 ·rename_i ha;obtain⟨p0,hp0,e0⟩:=Yq.mp ha;have e0:p0.1=x.nm:=of_decide_eq_true e0;have hmx:∀y∈xs,nR ws day y->y.nm=x.nm->y.n<=x.n:=λy hy ho' e=>by
   cases hk:mx L x.nm with
   |none=>exact absurd e0 (G3 hk p0 hp0)
   |some z=>
    obtain⟨p,hp,ep,rfl⟩:=xF hk;have:=(h.it p hp).2.2.2 y hy ho' (by rw[ep];exact e);have:=hl _ hk;omega
  refine⟨?_,λp hp=>?_,λy hy ho'=>?_,by have:=h.le;simp;omega⟩
  ·rw[Wk,show((λp:Str×Rw=>p.1)∘ λp=>if p.1=x.nm then(p.1,x) else p)=λp=>p.1 by funext p;simp only[YE];split<;>rfl];exact h.nd
  ·obtain⟨q,hq,rfl⟩:=Wb.mp hp;by_cases z:q.1=x.nm
   ·rw[M8 z];refine⟨z,MC,ho,λy hy ho' e=>?_⟩;rcases Wo.mp hy with m|m
    ·exact hmx y m ho' (by rw[e];exact z)
    ·rw[WH]at m;subst m;exact T7 _
   ·rw[M4 z];obtain⟨a,b,c,d⟩:=h.it q hq;refine⟨a,by simp[b],c,λy hy ho' e=>?_⟩;rcases Wo.mp hy with m|m
    ·exact d y m ho' e
    ·rw[WH]at m;subst m;exact absurd e.symm z
  ·rcases Wo.mp hy with m|m
   ·obtain⟨p,hp,e⟩:=h.al y m ho';refine⟨_,Wb.mpr ⟨p,hp,rfl⟩,?_⟩;split<;>exact e
   ·rw[WH]at m;subst m;refine⟨_,Wb.mpr ⟨p0,hp0,rfl⟩,?_⟩;rw[M8 e0];exact e0
 ·rename_i ha;have hno:∀p∈L,p.1≠x.nm:=λp hp e=>ha (Yq.mpr ⟨p,hp,decide_eq_true e⟩);refine⟨?_,λp hp=>?_,λy hy ho'=>?_,by have:=h.le;simp;omega⟩
  ·rw[Ww];refine Yl.mpr ⟨h.nd,MC,λa ha' b hb=>?_⟩;simp only[V2,WD,WH]at hb;obtain⟨p,hp,rfl⟩:=Wb.mp ha';rw[hb];exact hno p hp
  ·rcases Wo.mp hp with m|m
   ·obtain⟨a,b,c,d⟩:=h.it p m;refine⟨a,by simp[b],c,λy hy ho' e=>?_⟩;rcases Wo.mp hy with z|z
    ·exact d y z ho' e
    ·rw[WH]at z;subst z;exact absurd e.symm (hno p m)
   ·rw[WH]at m;subst m;refine⟨rfl,MC,ho,λy hy ho' e=>?_⟩;rcases Wo.mp hy with z|z
    ·obtain⟨p,hp,e'⟩:=h.al y z ho';exact absurd (e'.trans e) (hno p hp)
    ·rw[WH]at z;subst z;exact T7 _
  ·rcases Wo.mp hy with m|m
   ·obtain⟨p,hp,e⟩:=h.al y m ho';exact⟨p,by simp[hp],e⟩
   ·rw[WH]at m;subst m;exact⟨(y.nm,y),MC,rfl⟩
structure pj (ws:List Str) (day:Int) (xs res:List Rw):Prop where
 up:(res.map (·.nm)).Pairwise λa b=>me a b=true
 nd:(res.map (·.nm)).Nodup
 it:∀x∈res,x∈xs/\nR ws day x/\∀y∈xs,nR ws day y->y.nm=x.nm->y.n<=x.n
 al:∀y∈xs,nR ws day y->∃x∈res,x.nm=y.nm
 le:res.length<=xs.length
theorem BZ{L:Ls}(h:nm∈L.map (·.1)):∃x,mx L nm=some x:=by
 cases e:mx L nm with
 |some x=>exact⟨x,rfl⟩
 |none=>
  obtain⟨p,hp,e'⟩:=Wb.mp h;exact absurd e' (G3 e p hp)
def xG(L:Ls):List Rw:=(mL (L.map (·.1))).filterMap (mx L)
theorem aeG(h:my ws day xs L):(xG L).map (·.nm)=mL (L.map (·.1)):=by
 unfold xG;have key:∀l:List Str,(∀a∈l,a∈L.map (·.1))->(l.filterMap (mx L)).map (·.nm)=l:=by
  intro l
  induction l with
  |nil=>intro _;rfl
  |cons a l ih=>
   intro hl;obtain⟨x,hx⟩:=BZ (hl a MC);obtain⟨p,hp,e,rfl⟩:=xF hx;rw[XS,hx];show p.2.nm::_=_;rw[ih λb hb=>hl b (by simp[hb]),<-(h.it p hp).1,e]
 exact key _ λa ha=>(rJ _).mem_iff.mp ha
theorem my.res(h:my ws day xs L):pj ws day xs (xG L):=by
 have hn:=aeG h;refine⟨by rw[hn];exact GF _,by rw[hn];exact(rJ _).nodup_iff.mpr h.nd,λx hx=>?_,λy hy ho=>?_,by rw[<-V0 (f:=λx:Rw=>x.nm),hn,(rJ _).length_eq,V0];exact h.le⟩
 ·obtain⟨a,ha,e⟩:=Yy.mp hx;obtain⟨p,hp,e1,rfl⟩:=xF e;obtain⟨b1,b2,b3,b4⟩:=h.it p hp;exact⟨b2,b3,λy hy ho e=>b4 y hy ho (by rw[b1];exact e)⟩
 ·obtain⟨p,hp,e⟩:=h.al y hy ho;have:p.1∈(xG L).map (·.nm):=by rw[hn];exact(rJ _).mem_iff.mpr (Wb.mpr ⟨p,hp,rfl⟩)
  obtain⟨x,hx,e'⟩:=Wb.mp this;exact⟨x,hx,e'.trans e⟩
theorem aeC(t:OC)(n:Nat):(t.orStandIn n).led=t.led:=by unfold Sa;split<;>rfl
theorem PH(t:OC)(es:Array (Int×M3))(h:Int)(x:M3):(layNew t es h x).2.1.led=t.led:=by
 unfold layNew;split
 ·exact aeC _ _
 ·rfl
theorem aeb(t:OC)(es:Array (Int×M3))(n:Nat):(OQ t es n).2.1.led=t.led:=by
 unfold OQ U1 SV;cases So (Tf n - 1) (es.map (·.1)) with
 |none=>rfl
 |some ow=>simp only[bind,UP,pure];split<;>rfl
abbrev n6(w:Mp):Bool:=w.params.followText "set-order"
def aen(ss:List Str)(x:Str):List Str:=if x∈ss then ss else ss++[x]
theorem PL(a:M3){Q₁:M3->M6->Prop}
 (h:Q₁ (.ref s.heap.objs.size) {s with heap:=s.heap.push {cls:= .type "set",dict:=none,data:= .set #[] 0 (.fresh 0 0 (!n6 w))}}):
 NS (MK P w) A (.call (.builtin "set.__new__") ⟨[.type "set",a],[]⟩) (wants Q₁ E) s:=by
 refine codeAny_of_tree ?_;show MD _ A.in1 (checkBuiltinCall "set.__new__" ⟨[.type "set",a],[]⟩ >>=λ_=>again (.builtin "set.__new__" ⟨[.type "set",a],[]⟩)) _ _ s;refine M5 (P1 (PySem.F.newCall_set_1 a) (MO ⟨Nw Te _,Nx PySem.F.entry_set_new ?_⟩));rw[X9 Te _];unfold Builtin.«set.__new__» Builtin.Frozenset.newClass;have hsb:=sub_set_self;obtain⟨hp,g,d,tk,os⟩:=s;dsimp only
 wp_walk
 refine P9 (MO ?_);dsimp only;simp only[newObj];exact M5 (wpAny_alloc (MO (MO h)))
theorem qF:Slot "set_iterator" "__next__" "set_iterator.__next__":=
 .of (owner:="set_iterator") (n:="__next__") (by rw[typeLookup_type,QU];kernel_rfl) MN MN MN
  (by first|exact .inl MN|exact .inr MN) (by rw[isSubtype_type];kernel_rfl)
theorem xH:entryFor table "set_iterator.__next__"=some Builtin.«set_iterator.__next__»:=entryFor_of_tree (by kernel_rfl)
theorem G4:Manifest.owners.lookup (String.ofList ['r','o','t','a','r','e','t','i','_','t','e','s'].reverse)=some Manifest.sig_set_iterator:=by kernel_rfl
theorem xI(a:M3):argsOk "set_iterator.__next__" ⟨[a],[]⟩:=by
 unfold argsOk;rw[signature?_of (id:="set_iterator.__next__") (n:=['_','_','t','x','e','n','_','_']) (o:=['r','o','t','a','r','e','t','i','_','t','e','s']) (by kernel_rfl) G4];kernel_rfl
theorem PM:entryFor table "set.__iter__"=some Builtin.«frozenset.__iter__»:=entryFor_alias (id':="frozenset.__iter__") (by kernel_rfl) rfl MN (by kernel_rfl)
theorem B0{α:Type}:∀{l:List α}{i:Nat}(h:i < l.length),(l[i]::l.eraseIdx i).Perm l
 |a::l,0,h=>.refl _
 |a::l,i+1,h=>by
  have:=B0 (l:=l) (i:=i) (by simpa using h);simp only[List.getElem_cons_succ,List.eraseIdx_cons_succ];exact(List.Perm.swap _ _ _).trans (this.cons a)
theorem G5{α:Type}(next:Nat->Nat):∀(f k:Nat)(left:List α)(out:Array α),f=left.length->(pickOrder.go next f k left out).toList.Perm (out.toList++left)
 |0,k,left,out,e=>by
  rw[Vm e.symm];unfold pickOrder.go;simp
 |f+1,k,left,out,e=>by
  unfold pickOrder.go;have hlt:next k % left.length < left.length:=Nat.mod_lt _ L8;rw[WE hlt];refine(G5 next f (k+1) _ _ (by rw[Uz hlt];omega)).trans ?_;rw[UN,XX];exact List.Perm.append_left _ (B0 hlt)
theorem PN{α:Type}(next:Nat->Nat)(xs:Array α):(Ow next xs).toList.Perm xs.toList:=by
 have:=G5 next xs.size 0 xs.toList #[] MC;simpa [Ow]using this
theorem G6{α:Type}:∀(n:Nat)(xs:List α)(s:M6)(Q:List α->M6->Prop),n=xs.length->(∀ys d,ys.Perm xs->Q ys {s with drawn:=d})->MD (MK P w) A (drawOrder n xs) Q E s
 |0,xs,s,Q,e,q=>by
  rw[Vm e.symm]at q⊢;unfold drawOrder;exact MO (q [] s.drawn (.refl _))
 |n+1,[],s,Q,e,q=>by cases e
 |n+1,x::xs,s,Q,e,q=>by
  unfold drawOrder;refine M5 ?_;intro Γ p hΓ;refine⟨MC,?_⟩;generalize hi:(MK P w).w.draws .order (s.drawn.get .order)% (x::xs).length=i;have hlt:i < (x::xs).length:=by rw[<-hi];exact Nat.mod_lt _ MC
  have key:MD (MK P w) A (match (x::xs)[i]? with|some y=>(do return y::(<-drawOrder n ((x::xs).eraseIdx i)))|none=>unsupported "internal:drawOrder") Q E {s with drawn:=s.drawn.bump .order}:=by
   rw[WE hlt];refine M5 (G6 n _ _ _ (by rw[Uz hlt];simp at e⊢;omega) λys d hp=>MO (q _ d ?_));exact(hp.cons _).trans (B0 hlt)
  exact key
def n8(h:Md)(it:L9)(f:M3)(i:Nat)(a:L9)(n ep:Nat):Prop:=∃o,h.get? it=some o/\o.cls= .type "set_iterator"/\o.data= .fields #[f,.int i 0,.ref a,.int n 0,.int ep 0]
theorem n8.typeIs{s:M6}(x:n8 s.heap it f i a n ep):s.TypeIs (.ref it) "set_iterator":=let ⟨o,h,c,_⟩:=x;⟨o,h,c⟩
theorem G7{Q:Option (M3×Nat)->M6->Prop}(hb:n6 w=true)(o1:s.heap.get? a=some o)(d1:o.data= .set es ep t)(f1:t.fits es.size=true)
 (h:Q (((Ow (w.params.setOrder a ep) es)[i]?).map λe=>(e.2,slot)) s):MD (MK P w) A (O6 a slot i ep) Q E s:=by
 unfold O6 setWalk setsByText;refine M5 (Ov o1 d1 f1 (M5 (M5 (P9 (MO ?_)))));rw[M8 (show(MK P w).w.params.followText "set-order"=true from hb)];rw[M4 MC];refine M5 (M5 (Ov o1 d1 f1 (M5 (M5 (P9 (MO ?_))))));rw[M8 (show(MK P w).w.params.followText "set-order"=true from hb)];exact M5 (P9 (MO (MO h)))
theorem PQ{it:L9}{slot slot' i:Nat}{x:M3}{Q:Option M3->M6->Prop}(hit:n8 s.heap it (.int slot 0) i a es.size ep)(o1:s.heap.get? a=some o)(d1:o.data= .set es ep t)(f1:t.fits es.size=true)
 (nx:∀E' Q',Q' (some (x,slot')) s->MD (MK P w) A.in1 (O6 a slot i ep) Q' E' s)
 (hQ:∀h',n8 h' it (.int slot' 0) (i+1) a es.size ep->YU it s.heap h'->Q (some x) {s with heap:=h'}):MD (MK P w) A (NF (.ref it)) Q E s:=by
 obtain⟨u,u1,c1,e1⟩:=id hit;unfold NF;refine M5 (PK (Of (name:=VY "__next__") hit.typeIs qF (Nk qF hit.typeIs xH ?_ (xI _))));unfold Builtin.«set_iterator.__next__»;refine M5 (m:=slotArgs _ _ _) (MO (M5 (Px u1 e1 ?_)));show MD _ _ (setEntries a >>=_) _ _ s;refine M5 (PX o1 d1 f1 ?_);rw[M4 MC];show MD _ _ (O6 a ((slot:Int)).toNat ((i:Int)).toNat ((ep:Int)).toNat >>=_) _ _ s;simp only[YW];refine M5 (nx _ _ ?_);show MD _ _ (setField (.ref it) 0 (NY (slot':Int)) >>=_) _ _ s;refine M5 (P6 u1 e1 MC ?_);have g1:=X7 (VW (·.setIfInBounds 0 (NY (slot':Int)))) u1 (Zw (YB e1 _));have k1:=YB e1 (·.setIfInBounds 0 (NY (slot':Int)));refine M5 (P6 g1 k1 MC (MO ⟨x,rfl,MO (hQ _ ?_ ((XU ..).trans (XU ..)))⟩));refine⟨_,X7 _ g1 (Zw (YB k1 _)),(Qk ..).trans ((Qk ..).trans c1),?_⟩;rw[YB k1];simp[NY]
theorem aaL{it pl:L9}{i k:Nat}{hk:Int}{x:M3}{ol:Obj}{ps:Array M3}{nl:Nat}{Q:Option M3->M6->Prop}(hit:n8 s.heap it (.ref pl) i a es.size ep)(o1:s.heap.get? a=some o)(d1:o.data= .set es ep t)(f1:t.fits es.size=true)
 (l1:s.heap.get? pl=some ol)(l2:ol.data= .seq ps nl)(p1:ps[i]?=some (.int (k:Int) 0))(x1:es[k]?=some (hk,x))
 (hQ:∀h',n8 h' it (.ref pl) (i+1) a es.size ep->YU it s.heap h'->Q (some x) {s with heap:=h'}):MD (MK P w) A (NF (.ref it)) Q E s:=by
 obtain⟨u,u1,c1,e1⟩:=id hit;unfold NF;refine M5 (PK (Of (name:=VY "__next__") hit.typeIs qF (Nk qF hit.typeIs xH ?_ (xI _))));unfold Builtin.«set_iterator.__next__»;refine M5 (m:=slotArgs _ _ _) (MO (M5 (Px u1 e1 ?_)));show MD _ _ (setEntries a >>=_) _ _ s;refine M5 (PX o1 d1 f1 ?_);rw[M4 MC];show MD _ _ (seqItems? (.ref pl) >>=_) _ _ s;refine M5 (P8 l1 l2 ?_);simp only[YW,p1];refine M5 ?_;unfold setNextDrawn;refine M5 (Ov o1 d1 f1 ?_);simp only[YW];rw[M4 MC,x1];refine MO (M5 (P6 u1 e1 MC (MO ⟨x,rfl,MO (hQ _ ?_ (XU ..))⟩)));refine⟨_,X7 _ u1 (Zw (YB e1 _)),(Qk ..).trans c1,?_⟩;rw[YB e1];simp[NY]
theorem aaK{it:L9}{slot i:Nat}{Q:Option M3->M6->Prop}(hh:A.handled=none)(hit:n8 s.heap it (.int slot 0) i a es.size ep)(o1:s.heap.get? a=some o)(d1:o.data= .set es ep t)(f1:t.fits es.size=true)
 (nx:∀E' Q',Q' none s->MD (MK P w) A.in1 (O6 a slot i ep) Q' E' s)
 (hQ:∀h',Ts it s.heap h'->Q none {s with heap:=h'}):MD (MK P w) A (NF (.ref it)) Q E s:=by
 obtain⟨u,u1,c1,e1⟩:=id hit;unfold NF;refine M5 (PK (Of (name:=VY "__next__") hit.typeIs qF (Nk qF hit.typeIs xH ?_ (xI _))));unfold Builtin.«set_iterator.__next__»;refine M5 (m:=slotArgs _ _ _) (MO (M5 (Px u1 e1 ?_)));show MD _ _ (setEntries a >>=_) _ _ s;refine M5 (PX o1 d1 f1 ?_);rw[M4 MC];show MD _ _ (O6 a ((slot:Int)).toNat ((i:Int)).toNat ((ep:Int)).toNat >>=_) _ _ s;simp only[YW];refine M5 (nx _ _ ?_);show MD _ _ (setField (.ref it) 2 .none >>=_) _ _ s;refine M5 (P6 u1 e1 MC ?_);refine M5 (m:=newExc (.type "StopIteration") []) ?_;simp only[newExc,newTuple];refine M5 (NM ?_ (by size_fits));refine M5 (m:=QN _ _) (P1 (a:=Yn) (by first|rfl | (simp only[QN];rfl)) ?_);refine NM ?_ (by size_fits);simp only[raiseNew];refine M5 (wpAny_handled ?_);rw[show A.in1.handled=none from hh];refine M5 (MO (wpAny_throw ?_));refine M5 (RI (T:="StopIteration") (b:=true) ⟨_,Wv _ rfl,rfl⟩ isSubtype_stop ?_);exact MO (hQ _ (((XU ..).extBut.push _).push _))
theorem adV{Q:Option M3->M6->Prop}(hh:A.handled=none)(hit:n8 s.heap it (.ref pl) i a es.size ep)(o1:s.heap.get? a=some o)(d1:o.data= .set es ep t)(f1:t.fits es.size=true)
 (l1:s.heap.get? pl=some ol)(l2:ol.data= .seq ps nl)(p1:ps[i]?=none)
 (hQ:∀h',Ts it s.heap h'->Q none {s with heap:=h'}):MD (MK P w) A (NF (.ref it)) Q E s:=by
 obtain⟨u,u1,c1,e1⟩:=id hit;unfold NF;refine M5 (PK (Of (name:=VY "__next__") hit.typeIs qF (Nk qF hit.typeIs xH ?_ (xI _))));unfold Builtin.«set_iterator.__next__»;refine M5 (m:=slotArgs _ _ _) (MO (M5 (Px u1 e1 ?_)));show MD _ _ (setEntries a >>=_) _ _ s;refine M5 (PX o1 d1 f1 ?_);rw[M4 MC];show MD _ _ (seqItems? (.ref pl) >>=_) _ _ s;refine M5 (P8 l1 l2 ?_);simp only[YW,p1];show MD _ _ (setField (.ref it) 0 (NY 0) >>=_) _ _ s;refine M5 (P6 u1 e1 MC ?_);have g1:=X7 (VW (·.setIfInBounds 0 (NY 0))) u1 (Zw (YB e1 _));have k1:=YB e1 (·.setIfInBounds 0 (NY 0));refine M5 (P6 g1 k1 MC ?_);refine M5 (m:=newExc (.type "StopIteration") []) ?_;simp only[newExc,newTuple];refine M5 (NM ?_ (by size_fits));refine M5 (m:=QN _ _) (P1 (a:=Yn) (by first|rfl | (simp only[QN];rfl)) ?_);refine NM ?_ (by size_fits);simp only[raiseNew];refine M5 (wpAny_handled ?_);rw[show A.in1.handled=none from hh];refine M5 (MO (wpAny_throw ?_));refine M5 (RI (T:="StopIteration") (b:=true) ⟨_,Wv _ rfl,rfl⟩ isSubtype_stop ?_);exact MO (hQ _ ((((XU ..).trans (XU ..)).extBut.push _).push _))
theorem G8:Slot "set_iterator" "__iter__" "set_iterator.__iter__":=
 .of (owner:="set_iterator") (n:="__iter__") (by rw[typeLookup_type,QU];kernel_rfl) MN MN MN
  (by first|exact .inl MN|exact .inr MN) (by rw[isSubtype_type];kernel_rfl)
theorem PY:entryFor table "set_iterator.__iter__"=some Builtin.«dict_keyiterator.__iter__»:=entryFor_alias (id':="dict_keyiterator.__iter__") (by kernel_rfl) rfl MN (by kernel_rfl)
theorem aec(a:M3):argsOk "set_iterator.__iter__" ⟨[a],[]⟩:=by
 unfold argsOk;rw[signature?_of (id:="set_iterator.__iter__") (n:=['_','_','r','e','t','i','_','_']) (o:=['r','o','t','a','r','e','t','i','_','t','e','s']) (by kernel_rfl) G4];kernel_rfl
theorem n8.at{h h':Md}(x:n8 h it f i a n ep)(e:∀o,h.get? it=some o->h'.get? it=some o):n8 h' it f i a n ep:=let ⟨o,ho,r⟩:=x;⟨o,e _ ho,r⟩
theorem G9{Q:M3->M6->Prop}(hit:n8 s.heap it f i a n ep)(h:Q (.ref it) s):MD (MK P w) A (pyIter (.ref it)) Q E s:=by
 refine wpAny_pyIter_slot hit.typeIs G8 (Nk G8 hit.typeIs PY ?_ (aec _));exact M5 (m:=slotArgs _ _ _) (MO (MO ⟨_,rfl,"set_iterator",_,hit.typeIs,qF.lookup,h⟩))
theorem Ha(hh:A.handled=none)(it:L9)(hne:a≠it)(d1:o.data= .set es ep t)(f1:t.fits es.size=true)(vs:List M3)(hl:vs.length=es.size)(sl:Nat->Nat)
 (nx:∀(s:M6) (i:Nat) (h:i < vs.length) E' Q',s.heap.get? a=some o->Q' (some (vs[i],sl (i+1))) s->MD (MK P w) A.in1 (O6 a (sl i) i ep) Q' E' s)
 (nd:∀(s:M6) E' Q',s.heap.get? a=some o->Q' none s->MD (MK P w) A.in1 (O6 a (sl es.size) es.size ep) Q' E' s):
 Walks P w A it [it,a] [it] es.size (λi v=>vs[i]?=some v) (λi h=>n8 h it (.int (sl i:Nat) 0) i a es.size ep/\h.get? a=some o) where
 sub:=λb hb=>by rw[WH]at hb;simp[hb]
 frame:=λ_ _ _ st hk=>⟨st.1.at λo e=>hk it MC o e,hk a MC o st.2⟩
 item:=λi s Q E hi st hQ=>by
  have hi':i < vs.length:=L8
  refine PQ st.1 st.2 d1 f1 (λE' Q' q=>nx s i hi' E' Q' st.2 q) λh' it' sb=>?_;exact hQ _ h' s.toks (by simp[hi']) ⟨it',by rw[sb.2 a hne];exact st.2⟩ λb u hb e=>sb.extBut b u (λz=>hb (by simp[z])) e
 done:=λs Q E st hQ=>aaK hh st.1 st.2 d1 f1 (λE' Q' q=>nd s E' Q' st.2 q) λh' he=>hQ h' s.toks λb u hb e=>he b u (λz=>hb (by simp[z])) e
 self:=λ_ _ _ _ st hQ=>G9 st.1 hQ
theorem P0(hh:A.handled=none)(it pl:L9)(hne:a≠it)(hnp:pl≠it)(d1:o.data= .set es ep t)(f1:t.fits es.size=true)(vs:List M3)(ks:List Nat){ol:Obj}(l2:ol.data= .seq (ks.map λ(k:Nat)=>YJ (k:Int) 0).toArray nl)
 (hl:ks.length=es.size)(hv:∀i k:Nat,ks[i]?=some k->∃h x,es[k]?=some (h,x)/\vs[i]?=some x):
 Walks P w A it [it,a,pl] [it] es.size (λi v=>vs[i]?=some v) (λi h=>n8 h it (.ref pl) i a es.size ep/\h.get? a=some o/\h.get? pl=some ol) where
 sub:=λb hb=>by rw[WH]at hb;simp[hb]
 frame:=λ_ _ _ st hk=>⟨st.1.at λo e=>hk it MC o e,hk a MC o st.2.1,hk pl MC ol st.2.2⟩
 item:=λi s Q E hi st hQ=>by
  have hi':i < ks.length:=L8
  obtain⟨h,x,e1,e2⟩:=hv i ks[i] (by simp[hi']);refine aaL st.1 st.2.1 d1 f1 st.2.2 l2 (k:=ks[i]) (by simp[hi']) e1 λh' it' sb=>?_;exact hQ _ h' s.toks e2 ⟨it',by rw[sb.2 a hne];exact st.2.1,by rw[sb.2 pl hnp];exact st.2.2⟩ λb u hb e=>sb.extBut b u (λz=>hb (by simp[z])) e
 done:=λs Q E st hQ=>adV hh st.1 st.2.1 d1 f1 st.2.2 l2 (by simp[hl]) λh' he=>hQ h' s.toks λb u hb e=>he b u (λz=>hb (by simp[z])) e
 self:=λ_ _ _ _ st hQ=>G9 st.1 hQ
theorem aem{Q:Bool->M6->Prop}(hT:s.TypeIs (.ref a) "set")(h:Q false s):MD (MK P w) A (VN (.ref a)) Q E s:=by
 unfold VN;refine M5 (wpAny_specialOf hT PySem.F.slot_set_len.lookup ?_);generalize hid:("set.__len__":String)=id0
 wp_delta
 rw[show splitId id0=some ("set","__len__") from by subst hid;decide+kernel];subst hid;refine M5 (RI (T:="set") (b:=true) hT (by rw[isSubtype_type];kernel_rfl) ?_);refine QE (λz=>absurd z MA) (λ_=>?_);refine QE (λ_=>?_) (λz=>absurd MN z);exact M5 (OG hT (MO h))
theorem af.drw(I:af X aeK U H s):af X aeK U H {s with drawn:=d}:=⟨I.ok,I.os,I.bare,I.base,I.loc,I.cell,I.free,I.freeC,I.pin,I.hok,I.len⟩
theorem P2:N6 "set"=some (.type "set"):=MN
def kL(t:DA):DA:=λY Q=>t Y λds=>∃ss:List Str,ds=[.list (ss.map .str)]/\ss.length < 64/\Q ((mL (ss.foldl aen [])).map .str)
def gm(i:Nat)(t:DA):DS:=λE Y=>∃ds,Y[i]?=some (some (.o ds))/\t Y λes=>ds.length+es.length<=MT/\E.nx (Y.set i (some (.o (ds++es))))
theorem xJ{apos cpos pos:Pos}(ho:PE X o (lW i))(he:FE X H0 O0 e t)(hbase:Ny o "extend" X.env (eval o X.env)=eval o X.env:=by rfl)
 (hfew:((Mj cpos (MQ [e] X.env)).all (λx=>!x.1) && (Nl cpos (Np [] X.env)).all (λx=>x.1.isSome) && decide ([e].length+([]:List Ng).length+(if ([]:List Ng).isEmpty then 0 else 1) < 30))=true:=by rfl)
 (hline:(apos.endLine==cpos.line)=true:=by rfl)(hst:MQ [e] X.env=(false,eval e X.env)::MQ [] X.env:=by rfl)(hplain:(Mj cpos (MQ [] X.env)).any (·.1)=false:=by rfl)
 (hs:N3 (.Call (.Attribute o "extend" apos) [e] [] cpos) none pos.line X.env=pure false:=by rfl):PS X (.Expr (.Call (.Attribute o "extend" apos) [e] [] cpos) pos) (bp X.K H0 O0 (gm i t)):=
 (wg (Bp Z0 ZT U2 NH ho (bj he cm hst) hbase hfew hline hst hplain) hs).imp λD U H uu=>by
  obtain⟨O,Y,E,w,⟨ds,e,q⟩,k1,k2,k3,k4⟩:=uu;obtain⟨l,vs,h,a,b,c,r⟩:=w.own e;refine⟨_,h,.inl ⟨rfl,_,bb.of c⟩,O,Y,_,w,q,λes ws p H1 q1 s1 hp r1=>?_⟩;have hl:H1 l=some (.lst vs):=s1 _ _ c;have np:l≠p:=λz=>by rw[z,hp]at hl;cases hl
  have S2:av H1 (ai H1 p (.lst ws)):=av.new hp;refine⟨l,p,vs,ws,rfl,rfl,by rw[ar np];exact hl,aV,by rw[r.length,r1.length];exact q1.1,?_⟩;exact k1 _ _ _ _ q1.2 (((w.mono s1).mono S2).putO (vs:=vs) e h (((r.mono s1).mono S2).append (r1.mono S2))) ⟨λb' o' z n=>by rw[ar (λy=>n (by rw[y];exact a))];exact S2 _ _ (s1 _ _ z),λ_ _ n=>n⟩
theorem B3:∀{ns:List Int}{us:List M3},aF (ns.map V.int) us->N2 us ns
 | [],_,r=>by rw[WD]at r;cases r;exact .nil
 |n::ns,_,r=>by
  rw[V2]at r;cases r with
  |cons r1 r2=>obtain⟨t,rfl⟩:=r1;exact .cons n t (B3 r2)
theorem ak.intsL:∀{ns:List Int}{vs:List V},ak Z H O vs (ns.map Wa)->vs=ns.map V.int
 | [],_,r=>by rw[WD]at r;cases r;rfl
 |b::bs,_,r=>by
  rw[V2]at r;cases r with
  |cons h r=>cases h;rw[V2,ak.intsL r]
def kM:Fa:=λds Q=>∃ns:List Int,ds=[.list (ns.map .int)]/\ns≠[]/\∀M,M∈ns->(∀a∈ns,a<=M)->Q (.int M)
def B4(o:Obj)(a:L9)(kv:List (aj×V)):It:=⟨λi H=>i < kv.length/\H a=some (.frz o (.dK kv)),λi H x H'=>H'=H/\∃p,kv[i]?=some p/\x=kV p.1,λi H=>kv.length<=i/\H a=some (.frz o (.dK kv))⟩
theorem Hb(ok:bQ P w H h)(e:H a=some (.frz o (.dK kv)))(d:o.data= .dict es ep):
 (a==Nd)=false/\∃vs,KV kv vs/\h.DictAt (cK P w) a vs ep:=by
 obtain⟨h1,_,hd,vs,rel,o',es',ep',g,r1,r2,r3⟩:=ok a _ e;rw[h1]at g;cases g;rw[d]at r2;cases r2;exact⟨hd,vs,rel,o,es,h1,r1,d,r3⟩
theorem KV.len{kv:List (aj×V)}{vs:List (aj×M3)}(r:KV kv vs):vs.length=kv.length:=r.length.symm
theorem ad8(it a:L9)(o:Obj)(es:Array Pw)(ep:Nat)(kv:List (aj×V))(d:o.data= .dict es ep):vc P w Z tg (B4 o a kv) [it] it (λi h=>h.IsKeyIter it a i kv.length ep) where
 mem:=MC
 obj:=λi h st b hb=>by
  have e:b=it:=by simpa using hb
  subst e;obtain⟨o,e,c,d⟩:=st;exact⟨o,e,λv z=>by rw[d]at z;cases z⟩
 keep:=λi h h' st k=>st.at λo e=>k it MC o e
 item:=by
  intro X hP hw hK hc i aeK s U H E I hf st hg;subst hP hw hK;obtain⟨hi,ha⟩:=hg;obtain⟨hd,vs,rel,da⟩:=Hb I.hok ha d;have hlen:=rel.len;obtain⟨f0,f1,f2,f3,f4,f5⟩:=hf it MC;obtain⟨⟨k0,v0⟩,hx⟩:∃p,vs[i]?=some p:=⟨vs[i]'L8,by simp[hlen,hi]⟩;refine wpAny_pyNext_dict_item (by rw[hlen];exact st) da hx λkey h' hkey st' sb=>?_;rw[hlen]at st';have I1:af X aeK U H {s with heap:=h'}:=I.turned (t':=s.toks) (λb o hb e=>(sb.2 b hb).trans e) f0 f1 f3 f4 f5;obtain⟨u,e,c,dd⟩:=id st';have ek:(kv[i]'hi).1=k0:=by
   have z:=congrArg (λl:List aj=>l[i]?) rel.keys;simp only[Wm,hx]at z;simpa [hi]using z
  refine⟨key,rfl,wk (s:={s with heap:=h'}) e c dd MA ⟨kV (kv[i]'hi).1,H,I1,?_,⟨rfl,_,by simp[hi],rfl⟩,st',λb hb=>(hf b hb).1⟩⟩;rw[ek];rcases pN (k:=k0) (v:=key) hkey with⟨j,t,e1,e2⟩|⟨j,t,e1,e2⟩
  ·rw[e1,e2];exact⟨t,rfl⟩
  ·rw[e1,e2];exact⟨t,rfl⟩
 done:=by
  intro X hP hw hK hc i aeK s U H E I hf st hg;subst hP hw hK;obtain⟨hi,ha⟩:=hg;obtain⟨hd,vs,rel,da⟩:=Hb I.hok ha d;have hlen:=rel.len;obtain⟨f0,f1,f2,f3,f4,f5⟩:=hf it MC;refine wpAny_pyNext_dict_end (I.ok.hd hc) (by rw[hlen];exact st) da (by simp[hlen,hi]) λh' he=>⟨rfl,?_⟩;exact I.turned (t':=s.toks) (λb o hb e=>he b o hb e) f0 f1 f3 f4 f5
 self:=λA i s Q E st h=>wpAny_pyIter_keyiter st h
theorem Wd.frzK(w:Wd Z H0 O0 H O U Y)(e:Y[i]?=some (some y0))(ho:y0.own)(h:U[i]?=some (some (.ref l)))(u:HO):
 ∃O',Wd Z H0 O0 (ai H l u) O' U (Y.set i none)/\aO H (ai H l u) O O'/\¬O' l:=by
 obtain⟨l',x1,a,b⟩:=w.adr e ho;rw[h]at x1;cases x1;have l0:H0 l=none:=(w.new l a).resolve_left b;have S:aO H (ai H l u) O (λx=>O x/\x≠l):=⟨λc q z n=>by rw[ar (λy=>n (by rw[y];exact a))];exact z,λ_ _ n z=>n z.1⟩;have li:i < Y.length:=(Wf.mp e).1;have ne:∀{j:Nat}{y:Sl},(Y.set i none)[j]?=some (some y)->j≠i:=λ{j y} q z=>by
  subst z;rw[WM li]at q;cases q
 refine⟨_,⟨λc q z=>?_,λx z=>⟨w.sub x z,λy=>b (by rw[<-y];exact z)⟩,λx z=>w.new x z.1,λx z=>by rw[ar z.2];exact w.trk x z.1,by simp[w.len],λj y q=>?_,λj k y z l' e1 y1 e2 z2 e3 e4=>?_⟩,S,λz=>z.2 rfl⟩
 ·have:c≠l:=λy=>by rw[y,l0]at z;cases z
  rw[ar this];exact w.same c q z
 ·by_cases hj:j=i
  ·subst hj;rw[WM li]at q;cases q;exact X8
  ·rw[Wg (Ne.symm hj)]at q;refine(w.sl j y q).go S (λb o ho' e' a1 a2 a3=>?_) (λb o u a1 a2 a3=>by have nb:b≠l:=λz=>w.nofrz e ho h o u (by rw[<-z];exact a3);exact⟨⟨a1,nb⟩,by rw[ar nb];exact a3⟩) λc o a1 a3=>by rw[ar (λz=>b (by rw[<-z];exact a1))];exact a3
   have nb:b≠l:=λz=>by
    subst z
    match y,ho',q with
    |some z,ho',q=>exact hj (w.dis j i z y0 _ q (by cases z<;>first|trivial|cases ho') e ho (nM e') h)
   exact⟨⟨a1,nb⟩,by rw[ar nb];exact a3⟩
 ·have n1:=ne e1;have n2:=ne e2;rw[Wg (Ne.symm n1)]at e1;rw[Wg (Ne.symm n2)]at e2;exact w.dis j k _ _ l' e1 y1 e2 z2 e3 e4
theorem d6.dk:d6 (B4 o a kv) (λH=>H a=some (.frz o (.dK kv))) (kv.map λp=>kV p.1):=by
 refine⟨λi H' s hi=>⟨by simpa using hi,s⟩,λi H' x H'' s hi y=>⟨y.1,?_⟩,λi H' s hi=>⟨by simpa using hi,s⟩⟩;obtain⟨_,p,hp,rfl⟩:=y;simp[hp]
def kN(i:Nat)(dg:DG)(tb:DS):DS:=λE Y=>∃kd,Y[i]?=some (some (.k kd))/\qC dg tb E (kd.map λp=>pf p.1) (Y.set i none)
def eF:List (DT×DT)->Dl->(List (L7×L7)->Prop)->Prop
 | [],_,Q=>Q []
 | (a,b)::r,Y,Q=>a Y λx=>b Y λy=>eF r Y λps=>Q ((x,y)::ps)
theorem bu.merge(h:bu Z H O more md):∀{kv:List (aj×V)}{kd:List (aj×L7)},bu Z H O kv kd->bu Z H O (tq kv more) (md.foldl (λa p=>mh a p.1 p.2) kd):=by
 induction h with
 |nil=>intro kv kd r;exact r
 |cons a _ ih=>intro kv kd r;exact ih (r.put _ a)
def kO(trs:List (DT×DT)):rK:=λY Q=>eF trs Y λps=>∃kd:List (aj×L7),ps=kd.map (λp=>(pf p.1,p.2))/\kd.length<=15/\(∀p∈kd,dD p.2=true)/\Q (kd.foldl (λa p=>mh a p.1 p.2) [])
def kP(i j k:Nat)(t:DA):DS:=λE Y=>t Y λds=>∃x y z,ds=[x,y,z]/\E.nx (((Y.set i (some (.v x))).set j (some (.v y))).set k (some (.v z)))
theorem sf(hc:X.calm=true)(S:aU X.env.scope X.N N' k fr scope)(hi:DF X H0 O0 iter t)(gd:GD X.K g dg)(hk:pZ g k)(hfr:fr.Nodup)
 (hg:∀fp C s H,PG (bG X scope N' fp C s H) tg g)(hf:∀fp C s H,nv (bG X scope N' fp C s H) ifs (bZ X.K H0 O0 tc))(he:∀fp C s H,PE (bG X scope N' fp C s H) elt (up X.K H0 O0 te))
 (hs:∀x,NO iter X.env x=pure x:=by intro _;rfl):PU X (.ListComp elt [⟨tg,iter,ifs,0⟩] scope pos) (ue X.K H0 O0 (dU t dg tc te k fr)):=
 (Gz hc S (A9 hi) hg hf he hs).imp λU H Q uu=>by obtain⟨O,Y,Qd,w,q,kk⟩:=uu;exact⟨O,Y,_,w,q,λd v H1 uu s1 r1=>by
  obtain⟨xs,e,hz,q1⟩:=uu;subst e;obtain⟨a,vs,rfl,hq,rr⟩:=r1.tup;refine⟨a,rfl,⟨_,hq⟩,λD hD=>tf (d6.tup hq) gd hfr (λv _ H' R h=>hk fr U v H' R h) (λ_ _ _ z=>z) (λ_ _ _ z=>z) (λD H' hD s' o e=>s' _ _ e (lQ e hD)) rr (w.mono s1) (by rw[rr.length];exact hz) q1 (λds us p H' z s' hp r'=>kk ds us p H' z (s1.trans s') hp r') D hD⟩⟩
structure uo (n:Nat) (lt:Nat->Nat->Bool) (I:M6->Prop) (cmp:Nat->Nat->(Bool->M6->Prop)->M6->Prop):Prop where
 as:∀i j C s,i < n->j < n->i≠j->I s->(∀s',I s'->C (lt i j) s')->cmp i j C s
structure qG (n:Nat) (lt:Nat->Nat->Bool):Prop where
 tot:∀i j,i < n->j < n->i≠j->lt i j=!lt j i
 tr:∀i j k,i < n->j < n->k < n->lt i j=true->lt j k=true->lt i k=true
structure cz (n:Nat) (p:Array Nat):Prop where
 perm:p.toList.Perm (XB n)
theorem cz.size(h:cz n p):p.size=n:=by rw[<-WA,h.perm.length_eq,YX]
theorem cz.lt(h:cz n p)(hk:k < n):p.getD k 0 < n:=by
 have hs:=h.size;have e:p.getD k 0=p[k]'L8:=by simp[Zb,show k < p.size by omega]
 rw[e];have:=h.perm.mem_iff.mp (UC.mpr (Array.getElem_mem (show k < p.size by omega)));simpa using this
theorem cz.ne(h:cz n p)(hi:i < n)(hj:j < n)(hij:i≠j):p.getD i 0≠p.getD j 0:=by
 have hs:=h.size;have nd:p.toList.Nodup:=h.perm.nodup_iff.mpr List.nodup_range;have ei:p.getD i 0=p.toList[i]'(by simp;omega):=by simp[Zb,show i < p.size by omega]
 have ej:p.getD j 0=p.toList[j]'(by simp;omega):=by simp[Zb,show j < p.size by omega]
 rw[ei,ej];intro e;exact hij ((Z7 nd).mp e)
theorem cz.bubble(h:cz n p)(a d:Nat):cz n (RT p a d):=⟨(UO.mp (bubble_perm p a d)).trans h.perm⟩
theorem cz.rev(h:cz n p)(i j:Nat):cz n (kas_rev p i j):=⟨(UO.mp (mirror_perm p i j _)).trans h.perm⟩
theorem B5(n:Nat):cz n (RL (XB n)):=⟨MC⟩
def Up(lt:Nat->Nat->Bool)(p:Array Nat)(k:Nat):Prop:=∀i j,i < j->j < k->lt (p.getD i 0) (p.getD j 0)=true
theorem Up.snoc(T:qG n lt)(hp:cz n p)(hk:k < n)(h:Up lt p k)(h0:0 < k)(hl:lt (p.getD (k - 1) 0) (p.getD k 0)=true):Up lt p (k+1):=by
 intro i j hij hj;rcases YA j k with z|z
 ·exact h i j hij z
 ·have:j=k:=L8
  subst this;rcases YA i (j - 1) with w|w
  ·exact T.tr _ _ _ (hp.lt L8) (hp.lt L8) (hp.lt hk) (h i (j - 1) w L8) hl
  ·have:i=j - 1:=L8
   subst this;exact hl
theorem B6(A:uo n lt I cmp)(T:qG n lt)(hp:cz n p){Q:Nat->M6->Prop}:∀(f m:Nat)(s:M6),1<=m->m+f=n->Up lt p m->I s->
 (∀k s',I s'->m<=k->k<=n->Up lt p k->(k < n->lt (p.getD k 0) (p.getD (k - 1) 0)=true)->Q k s')->(kas_asc p f m).kasWp cmp Q s
 |0,m,s,h1,hf,hu,hI,q=>q m s hI (V4 _) L8 hu (λz=>by omega)
 |f+1,m,s,h1,hf,hu,hI,q=>by
  have hm:m < n:=L8
  refine A.as _ _ _ s (hp.lt hm) (hp.lt L8) (hp.ne hm L8 L8) hI λs' hI'=>?_;cases hc:lt (p.getD m 0) (p.getD (m - 1) 0) with
  |true=>
   dsimp only;rw[M8 rfl];exact q m s' hI' (V4 _) L8 hu (λ_=>hc)
  |false=>
   dsimp only;rw[M4 MC];have hl:lt (p.getD (m - 1) 0) (p.getD m 0)=true:=by rw[T.tot _ _ (hp.lt L8) (hp.lt hm) (hp.ne L8 hm L8),hc];rfl
   exact B6 A T hp f (m+1) s' L8 L8 (hu.snoc T hp hm L8 hl) hI' λk s2 a b c d e=>q k s2 a L8 c d e
def Dn(lt:Nat->Nat->Bool)(p:Array Nat)(k:Nat):Prop:=∀i j,i < j->j < k->lt (p.getD j 0) (p.getD i 0)=true
theorem Dn.snoc(T:qG n lt)(hp:cz n p)(hk:k < n)(h:Dn lt p k)(h0:0 < k)(hl:lt (p.getD k 0) (p.getD (k - 1) 0)=true):Dn lt p (k+1):=by
 intro i j hij hj;rcases YA j k with z|z
 ·exact h i j hij z
 ·have:j=k:=L8
  subst this;rcases YA i (j - 1) with w|w
  ·exact T.tr _ _ _ (hp.lt hk) (hp.lt L8) (hp.lt L8) hl (h i (j - 1) w L8)
  ·have:i=j - 1:=L8
   subst this;exact hl
theorem Hc(A:uo n lt I cmp)(T:qG n lt)(hp:cz n p){Q:Array Nat×Nat×Nat->M6->Prop}:∀(f m:Nat)(s:M6),1<=m->m+f=n->Dn lt p m->I s->
 (∀k s',I s'->m<=k->k<=n->Dn lt p k->Q (p,k,0) s')->(kas_desc f p m 0).kasWp cmp Q s
 |0,m,s,h1,hf,hu,hI,q=>q m s hI (V4 _) L8 hu
 |f+1,m,s,h1,hf,hu,hI,q=>by
  have hm:m < n:=L8
  refine A.as _ _ _ s (hp.lt hm) (hp.lt L8) (hp.ne hm L8 L8) hI λs' hI'=>?_;cases hc:lt (p.getD m 0) (p.getD (m - 1) 0) with
  |true=>
   dsimp only;rw[M8 rfl,M4 MC];exact Hc A T hp f (m+1) s' L8 L8 (hu.snoc T hp hm L8 hc) hI' λk s2 a b c d=>q k s2 a L8 c d
  |false=>
   dsimp only;rw[M4 MC];refine A.as _ _ _ s' (hp.lt L8) (hp.lt hm) (hp.ne L8 hm L8) hI' λs2 hI2=>?_;have hl:lt (p.getD (m - 1) 0) (p.getD m 0)=true:=by rw[T.tot _ _ (hp.lt L8) (hp.lt hm) (hp.ne L8 hm L8),hc];rfl
   rw[hl];dsimp only;rw[M8 rfl];exact q m s2 hI2 (V4 _) L8 hu
theorem He{p:Array Nat}(hj:j<=p.size):(kas_rev p 0 j).getD k 0=if k < j then p.getD (j - 1 - k) 0 else p.getD k 0:=by
 have:=getElem?_mirror_all (xs:=p) (i:=0) (j:=j) hj k;unfold kas_rev;rw[Yd,this];by_cases h:k < j
 ·simp[h,Yd]
 ·simp[h,Yd]
theorem Dn.rev(hp:cz n p)(hk:k<=n)(h:Dn lt p k):Up lt (kas_rev p 0 k) k:=by
 intro i j hij hj;have hs:=hp.size;rw[He L8,He L8,M8 L8,M8 hj];exact h _ _ L8 L8
theorem ad7(A:uo n lt I cmp)(T:qG n lt)(h2:2<=n)(hp:cz n p){Q:Nat×Array Nat->M6->Prop}(hI:I s)
 (q:∀k p' s',I s'->1<=k->k<=n->cz n p'->Up lt p' k->Q (k,p') s'):(kas_count n p).kasWp cmp Q s:=by
 unfold kas_count;rw[ZK];refine B6 A T hp (n - 1) 1 s (V4 _) L8 (λi j a b=>by omega) hI λm s1 hI1 m1 m2 hu hs=>?_;by_cases hm:m=n
 ·subst hm;rw[M8 MC];exact q m p s1 hI1 m1 (V4 _) hp hu
 ·rw[M4 (by simpa using hm)];by_cases hm1:m > 1
  ·rw[M8 hm1];refine A.as _ _ _ s1 (hp.lt L8) (hp.lt L8) (hp.ne L8 L8 L8) hI1 λs2 hI2=>?_;rw[hu 0 (m - 1) L8 L8];dsimp only;rw[M8 rfl];exact q m p s2 hI2 m1 L8 hp hu
  ·rw[M4 hm1];have:m=1:=L8
   subst this;have h10:=hs L8;unfold kas_descPart;rw[ZK];refine Hc A T hp (n - (1+1)) (1+1) s1 L8 L8 (λi j a b=>?_) hI1 λk s2 hI2 k1 k2 hd=>?_
   ·have:i=0:=L8
    have:j=1:=L8
    subst_vars
    exact h10
   ·rw[M4 MC];unfold kas_tail3;rw[ZK];have hp':=hp.rev 0 k;refine B6 A T hp' (n - k) k s2 L8 L8 (hd.rev hp k2) hI2 λm s3 hI3 a b c d=>?_;exact q m _ s3 hI3 L8 b hp' c
theorem B7(A:uo n lt I cmp)(T:qG n lt)(hp:cz n p)(hk:k < n)(hu:Up lt p k){Q:Nat->M6->Prop}:∀(f l r:Nat)(s:M6),r - l<=f->l<=r->r<=k->I s->
 (∀i,i < l->lt (p.getD i 0) (p.getD k 0)=true)->(∀i,r<=i->i < k->lt (p.getD k 0) (p.getD i 0)=true)->
 (∀l s',I s'->l<=k->(∀i,i < l->lt (p.getD i 0) (p.getD k 0)=true)->(∀i,l<=i->i < k->lt (p.getD k 0) (p.getD i 0)=true)->Q l s')->(kas_place p k f l r).kasWp cmp Q s
 |0,l,r,s,hf,hlr,hrk,hI,h1,h2,q=>q l s hI L8 h1 (λi a b=>h2 i L8 b)
 |f+1,l,r,s,hf,hlr,hrk,hI,h1,h2,q=>by
  unfold kas_place;by_cases hge:l >= r
  ·rw[M8 hge];exact q l s hI L8 h1 (λi a b=>h2 i L8 b)
  ·rw[M4 hge];have hm:(l+r)/ 2 < k:=L8
   refine A.as _ _ _ s (hp.lt hk) (hp.lt L8) (hp.ne hk L8 L8) hI λs' hI'=>?_;cases hc:lt (p.getD k 0) (p.getD ((l+r)/ 2) 0) with
   |true=>
    dsimp only;rw[M8 rfl];refine B7 A T hp hk hu f l ((l+r)/ 2) s' L8 L8 L8 hI' h1 (λi a b=>?_) q;rcases YA ((l+r)/ 2) i with z|z
    ·exact T.tr _ _ _ (hp.lt hk) (hp.lt L8) (hp.lt L8) hc (hu _ _ z b)
    ·have:i=(l+r)/ 2:=L8
     rw[this];exact hc
   |false=>
    dsimp only;rw[M4 MC];have hl:lt (p.getD ((l+r)/ 2) 0) (p.getD k 0)=true:=by rw[T.tot _ _ (hp.lt L8) (hp.lt hk) (hp.ne L8 hk L8),hc];rfl
    refine B7 A T hp hk hu f ((l+r)/ 2+1) r s' L8 L8 hrk hI' (λi a=>?_) h2 q;rcases YA i ((l+r)/ 2) with z|z
    ·exact T.tr _ _ _ (hp.lt L8) (hp.lt L8) (hp.lt hk) (hu _ _ z hm) hl
    ·have:i=(l+r)/ 2:=L8
     rw[this];exact hl
theorem Hf{p:Array Nat}(hk:k < p.size)(hd:d<=k):(RT p k d).getD i 0=if i=k - d then p.getD k 0 else if k - d < i/\i<=k then p.getD (i - 1) 0 else p.getD i 0:=by
 rw[Yd,getElem?_bubble hk d hd i];by_cases h1:i=k - d
 ·rw[M8 h1,M8 h1,Yd]
 ·rw[M4 h1,M4 h1];by_cases h2:k - d < i/\i<=k
  ·rw[M8 h2,M8 h2,Yd]
  ·rw[M4 h2,M4 h2,Yd]
theorem Up.ins(T:qG n lt)(hp:cz n p)(hk:k < n)(hu:Up lt p k)(hl:l<=k)(h1:∀i,i < l->lt (p.getD i 0) (p.getD k 0)=true)(h2:∀i,l<=i->i < k->lt (p.getD k 0) (p.getD i 0)=true):Up lt (RT p k (k - l)) (k+1):=by
 have hs:=hp.size;intro i j hij hj;rw[Hf L8 L8,Hf L8 L8];have e:k - (k - l)=l:=L8
 rw[e];clear hs e hk;by_cases hi:i=l
 ·rw[M8 hi,M4 L8,M8 L8];exact h2 _ L8 L8
 ·rw[M4 hi];by_cases hi2:l < i/\i<=k
  ·rw[M8 hi2,M4 L8,M8 L8];exact hu _ _ L8 L8
  ·rw[M4 hi2];by_cases hj1:j=l
   ·rw[M8 hj1];exact h1 _ L8
   ·rw[M4 hj1];by_cases hj2:l < j/\j<=k
    ·rw[M8 hj2];exact hu _ _ L8 L8
    ·rw[M4 hj2];exact hu _ _ hij L8
theorem Hg(A:uo n lt I cmp)(T:qG n lt){Q:Array Nat->M6->Prop}:∀(f:Nat)(p:Array Nat)(k:Nat)(s:M6),k+f=n->cz n p->Up lt p k->I s->(∀p' s',I s'->cz n p'->Up lt p' n->Q p' s')->(kas_bin f p k).kasWp cmp Q s
 |0,p,k,s,hf,hp,hu,hI,q=>q p s hI hp (by rw[show n=k by omega];exact hu)
 |f+1,p,k,s,hf,hp,hu,hI,q=>by
  unfold kas_bin;rw[ZK];have hk:k < n:=L8
  refine B7 A T hp hk hu k 0 k s L8 L8 (V4 _) hI (λi z=>by omega) (λi a b=>by omega) λl s' hI' hl h1 h2=>?_;exact Hg A T f _ (k+1) s' L8 (hp.bubble _ _) (hu.ins T hp hk hl h1 h2) hI' q
theorem ad0(A:uo n lt I cmp)(T:qG n lt)(h2:2<=n){Q:Array Nat->M6->Prop}(hI:I s)(q:∀p s',I s'->cz n p->Up lt p n->Q p s'):(kas_sort n).kasWp cmp Q s:=by
 unfold kas_sort;rw[ZK];refine ad7 A T h2 (B5 n) hI λk p s1 hI1 k1 k2 hp hu=>?_;dsimp only;by_cases hk:k < n
 ·rw[M8 hk,show max k 1=k by omega];exact Hg A T (n - k) p k s1 L8 hp hu hI1 q
 ·rw[M4 hk];exact q p s1 hI1 hp (by rw[show n=k by omega];exact hu)
def aY(p q:Int×Str):Bool:=decide (p.1 < q.1) || (decide (p.1=q.1) && decide (p.2.cps.toList < q.2.cps.toList))
def p8(h:Md)(v:M3)(p:Int×Str):Prop:=∃a o n t u,v= .ref a/\h.get? a=some o/\o.cls= .type "tuple"/\o.data= .seq #[.int p.1 t,.str p.2 u] n
theorem P7{Q:Bool->M6->Prop}(hv:p8 s.heap v p)(hu:p8 s.heap u q)(h:Q (aY p q) s):MD (MK P w) A (keyLt' (tuples' true) v u) Q E s:=by
 obtain⟨a,oa,na,t1,t2,rfl,ha,_,da⟩:=hv;obtain⟨b,ob,nb,t3,t4,rfl,hb,_,db⟩:=hu;refine kat_lt ha da hb db (kat_cons ((OA P w).eqBool (intKind_is _ _ _ _) (intKind_is _ _ _ _) (kat_go (λe1=>?_) λe1=>?_)))
 ·have e1:p.1=q.1:=by simpa using e1
  refine kat_yes (kat_cons ((PySem.strKind P w).eqBool (strKind_is _ _ _ _) (strKind_is _ _ _ _) (kat_go (λe2=>?_) λe2=>?_)))
  ·have e2:p.2=q.2:=by simpa using e2
   refine kat_yes (kat_nil ?_);have:aY p q=false:=by unfold aY;rw[e1,e2];simp
   rw[this]at h;simpa using h
  ·have e2:p.2≠q.2:=by simpa using e2
   refine kat_no (kat_one _ _ ?_);have:aY p q=decide (p.2.cps.toList < q.2.cps.toList):=by unfold aY;simp[e1]
   rw[this]at h;exact lt_str h
 ·have e1:p.1≠q.1:=by simpa using e1
  refine kat_no ?_;show MD _ _ (oneLt' true _ _) _ _ _;refine oneLt_int ?_;have:aY p q=decide (p.1 < q.1):=by unfold aY;simp[e1]
  rw[this]at h;exact h
theorem Hh{kp:Nat->Int×Str}(hd:∀i j,i < n->j < n->kp i=kp j->i=j):qG n λi j=>aY (kp i) (kp j):=by
 have tl:∀a b:Str,a≠b->(decide (a.cps.toList < b.cps.toList))=!decide (b.cps.toList < a.cps.toList):=λa b h=>by
  by_cases z:a.cps.toList < b.cps.toList
  ·rw[decide_eq_true z,decide_eq_false (List.lt_asymm z)];rfl
  ·have z2:b.cps.toList<=a.cps.toList:=RR.mp z;have:b.cps.toList < a.cps.toList:=by
    rcases Classical.em (b.cps.toList < a.cps.toList) with y|y
    ·exact y
    ·exact absurd (GC (Vi (RR.mp y) z2)) h
   rw[decide_eq_false z,decide_eq_true this];rfl
 refine⟨λi j hi hj hij=>?_,λi j k hi hj hk h1 h2=>?_⟩
 ·have hne:kp i≠kp j:=λe=>hij (hd i j hi hj e);unfold aY;by_cases e:(kp i).1=(kp j).1
  ·have e2:(kp i).2≠(kp j).2:=λz=>hne (Prod.ext e z);simp only[e,Int.lt_irrefl,decide_false,Xk,decide_true,W9];exact tl _ _ e2
  ·have e':(kp j).1≠(kp i).1:=λz=>e z.symm;simp only[e,e',decide_false,Zs,Xj];by_cases z:(kp i).1 < (kp j).1
   ·rw[decide_eq_true z,decide_eq_false L8];rfl
   ·rw[decide_eq_false z,decide_eq_true L8];rfl
 ·unfold aY at h1 h2⊢;simp only[Zn,Xs,decide_eq_true_eq]at h1 h2⊢;rcases h1 with h1|⟨h1,h1'⟩<;>rcases h2 with h2|⟨h2,h2'⟩
  ·left;omega
  ·left;omega
  ·left;omega
  ·right;exact⟨h1.trans h2,Tb h1' h2'⟩
theorem Hi{ks:List M3}{kp:Nat->Int×Str}(hk:∀i v,ks[i]?=some v->p8 s.heap v (kp i))(h2:2<=ks.length){Q:SortKind->M6->Prop}(h:Q (tuples' true) s):MD (MK P w) A (keyKind' ks.toArray) Q E s:=by
 have key:∀(ks:List M3)(kp:Nat->Int×Str),(∀i v,ks[i]?=some v->p8 s.heap v (kp i))->∃fs:List M3,KatTups s.heap ks fs/\fs.length=ks.length/\∀v∈fs,∃n t,v=YJ n t:=by
  intro ks
  induction ks with
  |nil=>intro kp _;exact⟨[],KatTups.nil,rfl,MC⟩
  |cons v ks ih=>
   intro kp hk;obtain⟨fs,a,b,c⟩:=ih (λi=>kp (i+1)) λi v e=>hk (i+1) v (by simpa using e);obtain⟨ad,o,n,t,u,rfl,h1,h2,h3⟩:=hk 0 v rfl;refine⟨.int (kp 0).1 t::fs,KatTups.cons h1 h2 h3 rfl a,by simp[b],λx hx=>?_⟩;rcases Wc.mp hx with rfl|hx
   ·exact⟨_,_,rfl⟩
   ·exact c x hx
 obtain⟨fs,a,b,c⟩:=key ks kp hk;refine kat_kind (T:= .type "int") a L8 (λv hv=>?_) MA h;obtain⟨n,t,rfl⟩:=c v hv;exact .now
theorem Hj{ks:List M3}{kp:Nat->Int×Str}(hn:ks.length=n)(h2:2<=n)(hk:∀i v,ks[i]?=some v->p8 s.heap v (kp i))(hd:∀i j,i < n->j < n->kp i=kp j->i=j){G:Array Nat->M6->Prop}
 (q:∀p,cz n p->Up (λi j=>aY (kp i) (kp j)) p n->G p s):(kas_sort n).kasWp (kas_ask P w A (tuples' true) ks) G s:=by
 refine ad0 (lt:=λi j=>aY (kp i) (kp j)) (I:=λs'=>s'=s) ⟨λi j C s' hi hj hij e c=>?_⟩ (Hh hd) h2 rfl λp s' e hp hu=>by subst e;exact q p hp hu
 subst e;have ei:ks[i]?=some (ks.getD i .none):=by simp[show i < ks.length by omega]
 have ej:ks[j]?=some (ks.getD j .none):=by simp[show j < ks.length by omega]
 exact P7 (hk i _ ei) (hk j _ ej) (c _ rfl)
def Hk(kS D:L9)(s:M6)(out:List M3)(C:M6->Prop):Prop:=∀h' c,h'.get? D=some (Ml "list" out.toArray c)->(∀b u,b≠kS->b≠D->s.heap.get? b=some u->h'.get? b=some u)->C {s with heap:=h'}
theorem Hl{st:SortSt}{kS D:L9}{ks out:List M3}{e e1:Nat}{C:Pe->M6->Prop}(hk:s.heap.get? kS=some (Ml "list" ks.toArray e))(hD:s.heap.get? D=some (Ml "list" #[] e1))(hne:kS≠D)(hf:failedOf st=none)
 (ho:(arrOf st).map (·.2)=out.toArray)(h64:out.length < 64)(hk64:ks.length < 64)(q:Hk kS D s out (C (.done (.ret .none)))):MD (MK P w) A (ksk_tail D false e1 (.ref kS) st) C E s:=by
 have hsl:MT=16777216:=My;unfold ksk_tail;rw[ho];refine M5 (P4 hk rfl (M5 (PF ?_)) (by rw[Wh];omega) (Xe _));have u1:=XU s.heap kS (XY λ_=>(#[]:Array M3));have hD1:(s.heap.update kS (XY λ_=>(#[]:Array M3))).get? D=some (Ml "list" #[] e1):=(u1.2 D (Ne.symm hne)).trans hD;refine M5 (seqEpoch_at (s:={s with heap:=s.heap.update kS (XY λ_=>(#[]:Array M3))}) hD1 rfl ?_);rw[M4 MC];refine M5 (P4 (s:={s with heap:=s.heap.update kS (XY λ_=>(#[]:Array M3))}) hD1 rfl ?_ (Xe _) (by show out.toArray.size<=_;rw[Wh];omega));have u2:=XU (s.heap.update kS (XY λ_=>(#[]:Array M3))) D (XY λ_=>out.toArray);rw[hf];simp only[bne_self_eq_false,WC,if_false];exact MO (q _ _ (PJ hD1 λ_=>out.toArray) λb u n1 n2 z=>(u2.2 b n2).trans ((u1.2 b n1).trans z))
theorem ad1{vs ks:List M3}{kp:Nat->Int×Str}{C:Pe->M6->Prop}(hv:vs.length=n)(hn:ks.length=n)(h64:n < 64)(hks:s.heap.get? kS=some (Ml "list" ks.toArray e))(hD:s.heap.get? D=some (Ml "list" #[] e1))(hne:kS≠D)
 (hk:∀i v,ks[i]?=some v->p8 s.heap v (kp i))(hd:∀i j,i < n->j < n->kp i=kp j->i=j)
 (q:∀p,cz n p->Up (λi j=>aY (kp i) (kp j)) p n->Hk kS D s (p.toList.map λi=>vs.getD i .none) (C (.done (.ret .none)))):MD (MK P w) A (ksk_end D false vs.toArray e1 (.ref kS) ks.toArray) C E s:=by
 unfold ksk_end;have hz:vs.toArray.size=n:=by rw[Wh];exact hv
 by_cases h2:n < 2
 ·simp only[WC,if_false,hz,h2,if_true];refine M5 (MO (M5 (MO ?_)));refine Hl hks hD hne rfl (out:=vs) ?_ L8 L8 ?_
  ·show(ks.toArray.zip vs.toArray).map (·.2)=vs.toArray;apply V9.mp;simp only[UE,Tx];rw[SH L8]
  ·have:=q _ (B5 n) (λi j a b=>by omega);have e:((RL (XB n)).toList.map λi=>vs.getD i Yn)=vs:=by
    apply Y1 (by simp[hv]);intro i a b;simp at a b⊢;rw[WE b];rfl
   rw[e]at this;exact this
 ·simp only[WC,if_false,hz,h2];refine M5 (Hi hk L8 ?_);have hl:ks.length=vs.length:=L8
  refine M5 (NB (kat_run (κ:=tuples' true) (E:=λ_ _=>False) (Q:=λst' s'=>s'=s/\∃p,cz n p/\Up (λi j=>aY (kp i) (kp j)) p n/\arrOf st'=p.map (kas_item (ks.toArray.zip vs.toArray))/\failedOf st'=none) (G:=λp s'=>s'=s/\cz n p/\Up (λi j=>aY (kp i) (kp j)) p n) hl L8 L8
   (λp st' s' a b c d=>⟨d.1,p,d.2.1,d.2.2,b,c⟩) ?_) (λr s' hr=>?_) λ_ _ x=>x.elim)
  ·rw[hv];exact Hj hn L8 hk hd λp a b=>⟨rfl,a,b⟩
  ·obtain⟨rfl,p,p1,p2,p3,p4⟩:=hr;refine Hl hks hD hne p4 (kat_snds hl p3) ?_ L8 (q p p1 p2);rw[V0,WA,p1.size];exact h64
section
variable{X:Cx}{aeK:List (L9×Obj)}{U:St}{H:Hp}{s:M6}
theorem af.track{o:HO}{D:L9}{ch:List L9}{t':Nat}{h':Md}(I:af X aeK U H s)(hD:D∈ch)(f:∀b∈ch,pO X aeK H b)(k:∀b u,b∉ch->s.heap.get? b=some u->h'.get? b=some u)(new:cA X.prog X.w (ai H D o) h' D o):af X aeK U (ai H D o) {s with heap:=h',toks:=t'}:=by
 have nC:∀b u,H b=some u->b∉ch:=λb u e z=>by rw[(f b z).1]at e;cases e
 have nD:∀b u,H b=some u->b≠D:=λb u e z=>nC b u e (by rw[z];exact hD);refine I.step (g':=s.gens) (d':=s.drawn) (ch:=ch) (λb hb=>?_) (λb o _ _ hc e _=>k b o hc e) (λb o _ _ hc e _=>⟨o.slots,k b o hc e⟩) (λb o hc _ n=>by rw[ar (λz=>hc (by rw[z];exact hD))];exact n)
  (λb o hc e=>⟨o,k b o hc e⟩) (λb xs e=>by rw[ar (nD _ _ e)];exact e) (λb u xs e=>by rw[ar (nD _ _ e)];exact e) (λb ps e=>⟨#[],by rw[ar (nD _ _ e),e];simp⟩) (λm hm=>hm.at' λo e=>k _ o (λz=>(f _ z).2.1 rfl) e) (λb u e=>?_) I.bare
 ·obtain⟨f0,f1,f2,f3,f4,f5⟩:=f b hb;exact⟨f3,f1,f4,f5⟩
 ·by_cases hb:b=D
  ·subst hb;rw[aV]at e;cases e;exact new
  ·rw[ar hb]at e;refine(I.hok b u e).stay (λc v hc q=>k c v (λz=>?_) q) (λc q=>by rw[ar (nD _ _ q)];exact q) (λc xs q=>by rw[ar (nD _ _ q)];exact q) (λc xs q=>by rw[ar (nD _ _ q)];exact q);rcases hc with r|r
   ·subst r;exact nC _ _ e z
   ·exact nC _ _ r z
theorem adU{k:Nat}{f:L9}{fd:MZ}{ps:List Str}{sp:Sp}{v:V}{u:M3}{Q:VK}(Fk:aB X.prog X.w X.K X.mg X.base MX k f fd ps sp)(hr:bf k X.A.in1.in1)(hb:l8 X.K fd ps [])(I:af X aeK U H s)(r:aG v u)(h:sp [v] H Q E0):
 MD (MK X.prog X.w) X.A.in1.in1 (NC (.ref f) [u]) (EP X aeK U Q) (λ_ _=>False) s:=by
 have r2:aF [v] [u]:= .cons r .nil;have hl:([u]++[]).length=ps.length:=by
  have:=Fk.len _ _ _ _ h;simpa using this
 have hb2:=hb s [u] I.kIn hl;rw[Wn]at hb2;refine wpAny_call (OS (Fk.run X.A.in1.in1 X.stack s H ⟨[u],[]⟩ [u] [v] Q E0 hr I.env0.in1.in1 hb2 r2 h) λr s' hq=>?_);cases r with
 |error e=>exact hq.elim
 |ok fl=>
  cases fl with
  |ret u=>exact I.after hq
  |next=>exact Yo hq
  |brk=>exact Yo hq
  |cont=>exact Yo hq
def sh(X:Cx)(aeK:List (L9×Obj))(b:L9):Prop:=b≠X.env.locals/\b∉X.fs/\(b∈X.ex\/X.s₀.heap.objs.size<=b)/\(∀x c,X.env.cells.lookup x=some c->c≠b)/\∀p∈X.pn++aeK,p.1≠b
theorem af.out(I:af X aeK U H s){b:L9}(hb:s.heap.objs.size<=b):sh X aeK b:=(I.fpOk (H':=H) hb (I.hok.fresh hb)).2
structure sj (X:Cx) (aeK:List (L9×Obj)) (U:St) (H:Hp) (O:Ex) (kS D:L9) (e1:Nat) (kds:List L7) (ks:List M3) (s:M6):Prop where
 ex:∃H' kvs e,af X (aeK++[(kS,Ml "list" ks.toArray e),(D,Ml "list" #[] e1)]) U H' s/\av H H'/\ak X.K H' O kvs kds/\aF kvs ks
theorem sj.push{O:Ex}{kS D:L9}{e1:Nat}{kds:List L7}{ks:List M3}{H':Hp}{kvs:List V}{e:Nat}{h':Md}{kv:V}{kd:L7}{k:M3}(oS:sh X aeK kS)(oD:sh X aeK D)(hne:kS≠D)
 (I:af X (aeK++[(kS,Ml "list" ks.toArray e),(D,Ml "list" #[] e1)]) U H' s)(hs:av H H')(hk:ak X.K H' O kvs kds)(hv:aF kvs ks)(k1:Dt X.K H' O kv kd)(k2:aG kv k)
 (hu:∃e',h'.get? kS=some (Ml "list" (ks++[k]).toArray e'))(kept:∀b u,b≠kS->s.heap.get? b=some u->h'.get? b=some u):sj X aeK U H O kS D e1 (kds++[kd]) (ks++[k]) {s with heap:=h'}:=by
 obtain⟨e',hu⟩:=hu;have pS:=I.pin (kS,Ml "list" ks.toArray e) MC;have pD:=I.pin (D,Ml "list" #[] e1) MC;have I1:af X aeK U H' s:=I.pins_of λp hp=>I.pin p (by simp only[Wo]at hp⊢;exact .inr (.inl hp));have I2:af X aeK U H' {s with heap:=h'}:=I1.turned (t':=s.toks) (it:=kS) kept pS.2.1 oS.1 oS.2.2.1 oS.2.2.2.1 oS.2.2.2.2;refine⟨H',kvs++[kv],e',I2.pins_of λp hp=>?_,hs,hk.append (.cons k1 .nil),hv.append (.cons k2 .nil)⟩;rcases Wo.mp hp with z|z
 ·exact I2.pin p (Xz _ z)
 ·simp only[Wc,XJ,or_false]at z;rcases z with rfl|rfl
  ·exact⟨hu,pS.2.1,oS.1,oS.2.1,λv z=>by cases z⟩
  ·exact⟨kept _ _ (Ne.symm hne) pD.1,pD.2.1,oD.1,oD.2.1,λv z=>by cases z⟩
theorem Hm{O:Ex}{kd:L7->L7}(Fk:aB X.prog X.w X.K X.mg X.base MX k f fd ps (aQ X.K F))(hr:bf k X.A.in1.in1)(hb:l8 X.K fd ps [])(trk:∀l,O l->H l≠none)
 (oS:sh X aeK kS)(oD:sh X aeK D)(hne:kS≠D){body:M3->PUnit->Sem (ForInStep PUnit)}
 (hbo:∀(x:M3) (s:M6) (Q':M6->Prop),MD (MK X.prog X.w) X.A.in1.in1 (NC (.ref f) [x]) (λk s'=>MD (MK X.prog X.w) X.A.in1.in1 (TZ (.ref kS) (·.push k)) (λ_ s''=>Q' s'') (λ_ _=>False) s') (λ_ _=>False) s->MD (MK X.prog X.w) X.A.in1.in1 (body x ⟨⟩) (λr s'=>r= .yield ⟨⟩/\Q' s') E s):
 ∀(r:List M3)(xr:List V)(dr:List L7)(kds:List L7)(ks:List M3)(s:M6)(Q:M6->Prop),aF xr r->ak X.K H O xr dr->(∀d∈dr,∀R:L7->Prop,R (kd d)->F [d] R)->sj X aeK U H O kS D e1 kds ks s->ks.length+r.length < 64->
  (∀ks' s',sj X aeK U H O kS D e1 (kds++dr.map kd) ks' s'->ks'.length=ks.length+r.length->Q s')->MD (MK X.prog X.w) X.A.in1.in1 (forIn r PUnit.unit body) (λ_ s'=>Q s') E s
 | [],xr,dr,kds,ks,s,Q,hv,hd,hF,M,hl,q=>by
  cases hv;cases hd;rw[UA];exact MO (q ks s (by rw[WD,Wn];exact M) MC)
 |x::r,xr,dr,kds,ks,s,Q,hv,hd,hF,M,hl,q=>by
  cases hv with
  | @cons v _ xr _ h1 h2=>
   cases hd with
   | @cons _ d _ dr g1 g2=>
    rw[Rk];rw[V5]at hl;obtain⟨H',kvs,e,I,hs,hk,hvk⟩:=M.ex;refine M5 (NB (hbo x s (λs'=>∃k,sj X aeK U H O kS D e1 (kds++[kd d]) (ks++[k]) s') (NB (adU (Q:=λv2 H2=>av H' H2/\Dt X.K H2 O v2 (kd d)) Fk hr hb I h1 ⟨O,[d],λy=>y=kd d,λl z e=>trk l z (by
     cases q:H l with
     |none=>rfl
     |some u=>rw[hs _ _ q]at e;cases e),.cons (g1.mono hs) .nil,hF d MC _ rfl,λy v2 H2 e s2 r2=>by subst e;exact⟨s2,r2⟩⟩) (λkk s' hq=>?_) λ_ _ z=>z)) (λr' s' hq=>?_) λ_ _ z=>z)
    ·obtain⟨kv,H2,I2,rk,s2,dk⟩:=hq;have pS:=I2.pin (kS,Ml "list" ks.toArray e) MC;refine P4 pS.1 rfl ⟨kk,?_⟩ (by rw[Wh];have:MT=16777216:=My;omega) (by rw[Array.size_push,Wh];have:MT=16777216:=My;omega);have u1:=XU s'.heap kS (XY (·.push kk));have gk:=PJ pS.1 (·.push kk);rw[show ks.toArray.push kk=(ks++[kk]).toArray by simp]at gk;exact sj.push oS oD hne I2 (hs.trans s2) (hk.mono s2) hvk dk rk ⟨_,gk⟩ λb u n z=>(u1.2 b n).trans z
    ·obtain⟨rfl,kk,M'⟩:=hq;refine Hm Fk hr hb trk oS oD hne hbo r xr dr (kds++[kd d]) (ks++[kk]) s' Q h2 g2 (λy hy=>hF y (by simp[hy])) M' (by simp;omega) λks' s2 M2 l2=>q ks' s2 ?_ (by rw[l2];simp;omega);rw[V2,<-List.singleton_append,<-XX];exact M2
def eG(p:Int×Str):L7:= .tuple [.int p.1,.str p.2]
theorem B8{h:V}{u:M3}{O:Ex}{p:Int×Str}(I:af X aeK U H s)(d:Dt X.K H O h (eG p))(r:aG h u):p8 s.heap u p:=by
 obtain⟨a,xs,rfl,hq,hd⟩:=(Sh.dt d).tup;cases r;obtain⟨its,rv,⟨o,e,c,n,dd⟩,_⟩:=I.tuple hq;cases hd with
 |cons g1 g2=>
  cases g2 with
  |cons g2 g3=>
   cases g3;cases g1;cases g2;cases rv with
   |cons r1 r2=>
    cases r2 with
    |cons r2 r3=>
     cases r3;obtain⟨t,rfl⟩:=r1;obtain⟨u,rfl⟩:=r2;exact⟨a,o,n,t,u,rfl,e,c,dd⟩
theorem vF{H:Hp}:∀{xs:List V}{ds:List L7}{i:Nat}{d:L7},ak Z H O xs ds->ds[i]?=some d->∃x,xs[i]?=some x/\Dt Z H O x d
 |_,_,0,d,.cons h r,e=>by simp at e;subst e;exact⟨_,rfl,h⟩
 |_,_,i+1,d,.cons h r,e=>by simp only[Wq]at e⊢;exact vF r e
theorem xK:∀{i:Nat}{u:M3},aF xs us->us[i]?=some u->∃x,xs[i]?=some x/\aG x u:=by
 intro i u h e;have hl:=h.length;have hi:i < us.length:=(Wf.mp e).1;obtain⟨u',e',r⟩:=h.get (show xs[i]?=some (xs[i]'L8) by simp);rw[e]at e';cases e';exact⟨_,MC,r⟩
theorem Qa{kps:List (Int×Str)}(M:sj X aeK U H O kS D e1 (kps.map eG) ks s):(∀i v,ks[i]?=some v->p8 s.heap v (kps.getD i (0,VY "")))/\ks.length=kps.length:=by
 obtain⟨H',kvs,e,I,hs,hk,hv⟩:=M.ex;have hl:ks.length=kps.length:=by rw[<-hv.length,hk.length,V0]
 refine⟨λi v ei=>?_,hl⟩;have hi:i < kps.length:=by rw[<-hl];exact(Wf.mp ei).1
 obtain⟨x,ex,rx⟩:=xK hv ei;obtain⟨y,ey,dy⟩:=vF (i:=i) (d:=eG kps[i]) hk (by rw[Wm,WE hi];rfl);rw[ex]at ey;cases ey;have:kps.getD i (0,VY "")=kps[i]:=by simp[hi]
 rw[this];exact B8 I dy rx
theorem Qb{k:Nat}{f:L9}{fd:MZ}{ps:List Str}{F:Fa}{O:Ex}{D:L9}{n0:Nat}{kf:L7->Int×Str}{vs:List M3}{xs:List V}{ds:List L7}{Q:V->Hp->Prop}{C:Pe->M6->Prop}{E:M3->M6->Prop}
 (Fk:aB X.prog X.w X.K X.mg X.base MX k f fd ps (aQ X.K F))(hr:bf k X.A.in1.in1)(hb:l8 X.K fd ps [])(trk:∀l,O l->H l≠none)(I:af X aeK U H s)(oD:sh X aeK D)(hHD:H D=none)(hD:s.heap.get? D=some (Ml "list" vs.toArray n0))
 (hv:aF xs vs)(hd:ak X.K H O xs ds)(hF:∀d∈ds,∀R:L7->Prop,R (eG (kf d))->F [d] R)(h64:ds.length < 64)(nd:(ds.map kf).Nodup)
 (q:∀(H':Hp) (xs':List V) (ds':List L7),av H H'->H' D=none->ak X.K H' O xs' ds'->ds'.Perm ds->ds'.Pairwise (λa b=>aY (kf a) (kf b)=true)->Q (.ref D) (ai H' D (.lst xs')))
 (fin:∀s',EP X aeK U Q (.ref D) s'->C (.done (.ret .none)) s'):MD (MK X.prog X.w) X.A.in1.in1 (ksk_tree D (.ref f) false) C E s:=by
 have hsl:MT=16777216:=My;have lv:vs.length=ds.length:=by rw[<-hv.length,hd.length]
 have lD:D < s.heap.objs.size:=Wl hD;unfold ksk_tree;refine M5 (listItems_at hD rfl (M5 (P4 hD rfl ?_ (by rw[Wh];omega) (Xe _))));have u1:=XU s.heap D (XY λ_=>(#[]:Array M3));have g1:=PJ hD λ_=>(#[]:Array M3);have I1:af X aeK U H {s with heap:=s.heap.update D (XY λ_=>(#[]:Array M3))}:=I.turned (t':=s.toks) (it:=D) (λb u n z=>(u1.2 b n).trans z) hHD oD.1 oD.2.2.1 oD.2.2.2.1 oD.2.2.2.2;generalize s.heap.update D (XY λ_=>(#[]:Array M3))=h1 at*;generalize (if (#[]:Array M3).size==vs.toArray.size then n0 else n0+1)=e1 at*;refine M5 (seqEpoch_at (s:={s with heap:=h1}) g1 rfl ?_);refine M5 (wpAny_newTuple ?_ (by show vs.length<=_;omega));have I2:af X aeK U H {s with heap:=h1.push {cls:= .type "tuple",data:= .seq vs.toArray}}:=I1.kept (t':=s.toks) λb u z=>V3 _ z;have g2:(h1.push {cls:= .type "tuple",data:= .seq vs.toArray}).get? D=some (Ml "list" #[] e1):=V3 _ g1;show MD _ _ _ _ _ {s with heap:=h1.push {cls:= .type "tuple",data:= .seq vs.toArray}};generalize h1.push {cls:= .type "tuple",data:= .seq vs.toArray}=h2 at*;refine M5 (P5 (s:={s with heap:=h2}) ?_ (Xe _));have oS:sh X aeK h2.objs.size:=I2.out (V4 _);have hne:h2.objs.size≠D:=ZM (Wl g2);have I3:af X aeK U H {s with heap:=h2.push (Ml "list" #[] 0)}:=I2.kept (t':=s.toks) λb u z=>V3 _ z;have hS0:H h2.objs.size=none:=I2.hok.fresh (V4 _);have M0:sj X aeK U H O h2.objs.size D e1 [] [] {s with heap:=h2.push (Ml "list" #[] 0)}:=by
  refine⟨H,[],0,I3.pins_of λp hp=>?_,av.refl _,.nil,.nil⟩;rcases Wo.mp hp with z|z
  ·exact I3.pin p (Xz _ z)
  ·simp only[Wc,XJ,or_false]at z;rcases z with rfl|rfl
   ·exact⟨Wv _ rfl,hS0,oS.1,oS.2.1,λv z=>by cases z⟩
   ·exact⟨V3 _ g2,hHD,oD.1,oD.2.1,λv z=>by cases z⟩
 refine N9 ?_;unfold ksk_rest;refine M5 (OI ?_);rw[List.forIn_toArray];refine M5 (Hm (kd:=λd=>eG (kf d)) (E:=E) Fk hr hb trk oS oD hne (λx s' Q' hx=>?_) vs xs ds [] [] _ _ hv hd hF M0 (by simp;omega) λks s' M hkl=>?_)
 ·refine M5 (PK (NB hx (λkk s2 hk=>?_) λ_ _ z=>z.elim));exact M5 (NB hk (λ_ s3 z=>MO ⟨rfl,z⟩) λ_ _ z=>z.elim)
 ·rw[WK,<-Function.comp_def,<-Wk]at M;obtain⟨hk,hkn⟩:=Qa M;rw[V0]at hkn;obtain⟨H',kvs,e,I4,hs,_,_⟩:=M.ex;have pS:=I4.pin (h2.objs.size,Ml "list" ks.toArray e) MC;have pD:=I4.pin (D,Ml "list" #[] e1) MC;have I5:af X aeK U H' s':=I4.pins_of λp hp=>I4.pin p (by simp only[Wo]at hp⊢;exact .inr (.inl hp));refine M5 (listItems_at pS.1 rfl ?_);refine ad1 (n:=ds.length) (kp:=λi=>(ds.map kf).getD i (0,VY "")) lv hkn h64 pS.1 pD.1 hne hk (λi j hi hj ee=>?_) λp pp pu h' c gD kept=>?_
  ·have e1':(ds.map kf).getD i (0,VY "")=(ds.map kf)[i]'(by simpa using hi):=by simp[hi]
   have e2':(ds.map kf).getD j (0,VY "")=(ds.map kf)[j]'(by simpa using hj):=by simp[hj]
   rw[e1',e2']at ee;exact(Z7 nd).mp ee
  ·refine fin _ ⟨.ref D,ai H' D (.lst (p.toList.map λi=>xs.getD i .non)),?_,rfl,q H' _ (p.toList.map λi=>ds.getD i .none) hs pD.2.1 ?_ ?_ ?_⟩
   ·refine I5.track (t':=s'.toks) (ch:=[h2.objs.size,D]) MC (λb hb=>?_) (λb u hb z=>kept b u (λy=>hb (by simp[y])) (λy=>hb (by simp[y])) z) ⟨?_,_,c,?_,gD⟩
    ·simp only[Wc,XJ,or_false]at hb;rcases hb with rfl|rfl
     ·exact⟨pS.2.1,oS⟩
     ·exact⟨pD.2.1,oD⟩
    ·rw[V0,WA,pp.size];omega
    ·have:∀l:List Nat,(∀i∈l,i < ds.length)->aF (l.map λi=>xs.getD i .non) (l.map λi=>vs.getD i .none):=by
      intro l
      induction l with
      |nil=>intro _;exact .nil
      |cons a l ih=>
       intro hl;have ha:=hl a MC;refine .cons ?_ (ih λi hi=>hl i (by simp[hi]));obtain⟨x,ex,rx⟩:=xK hv (show vs[a]?=some (vs[a]'L8) by simp);have e1':xs.getD a .non=x:=by simp[ex]
       have e2':vs.getD a .none=vs[a]'L8:=by simp[show a < vs.length by omega]
       show aG (xs.getD a .non) (vs.getD a .none);rw[e1',e2'];exact rx
     exact this _ λi hi=>by simpa using pp.perm.mem_iff.mp hi
   ·have:∀l:List Nat,(∀i∈l,i < ds.length)->ak X.K H' O (l.map λi=>xs.getD i .non) (l.map λi=>ds.getD i .none):=by
     intro l
     induction l with
     |nil=>intro _;exact .nil
     |cons a l ih=>
      intro hl;have ha:=hl a MC;refine .cons ?_ (ih λi hi=>hl i (by simp[hi]));obtain⟨x,ex,dx⟩:=vF (i:=a) (d:=ds[a]) hd (by simp[ha]);have e1':xs.getD a .non=x:=by simp[ex]
      have e2':ds.getD a .none=ds[a]:=by simp[ha]
      show Dt X.K H' O (xs.getD a .non) (ds.getD a .none);rw[e1',e2'];exact dx.mono hs
    exact this _ λi hi=>by simpa using pp.perm.mem_iff.mp hi
   ·have h1:=pp.perm.map λi=>ds.getD i .none;have e:(XB ds.length).map (λi=>ds.getD i ZE)=ds:=by
     apply Y1 MC;intro i a b;simp at a b⊢;rw[WE b];rfl
    rw[e]at h1;exact h1
   ·rw[X1,ZL];intro i j hi hj hij;have:=pu i j hij (by rw[WA,pp.size]at hj;exact hj);have ei:p.getD i 0=p.toList[i]:=by simp[Zb,show i < p.size by simpa using hi]
    have ej:p.getD j 0=p.toList[j]:=by simp[Zb,show j < p.size by simpa using hj]
    rw[ei,ej]at this;have li:p.toList[i] < ds.length:=by simpa using pp.perm.mem_iff.mp (Yp hi)
    have lj:p.toList[j] < ds.length:=by simpa using pp.perm.mem_iff.mp (Yp hj)
    have ff:∀a,a < ds.length->(ds.map kf).getD a (0,VY "")=kf (ds.getD a .none):=λa ha=>by simp[ha]
    dsimp only at this;rw[ff _ li,ff _ lj]at this;exact this
theorem Qc{k:Nat}{f l:L9}{fd:MZ}{ps:List Str}{F:Fa}{O:Ex}{kf:L7->Int×Str}{xs:List V}{ds:List L7}{Q:VK}
 (hc:X.calm=true)(Fk:aB X.prog X.w X.K X.mg X.base MX k f fd ps (aQ X.K F))(hr:bf k X.A.in1.in1)(hb:l8 X.K fd ps [])(trk:∀l,O l->H l≠none)(I:af X aeK U H s)(hq:bb X.K H l xs)
 (hd:ak X.K H O xs ds)(hF:∀d∈ds,∀R:L7->Prop,R (eG (kf d))->F [d] R)(h64:ds.length < 64)(nd:(ds.map kf).Nodup)
 (q:∀(H':Hp) (p:L9) (xs':List V) (ds':List L7),av H H'->H' p=none->ak X.K H' O xs' ds'->ds'.Perm ds->ds'.Pairwise (λa b=>aY (kf a) (kf b)=true)->Q (.ref p) (ai H' p (.lst xs'))):
 MD (MK X.prog X.w) X.A (NC (.builtin "sorted") [.ref l] [(VY "key",.ref f)]) (EP X aeK U Q) X.xe s:=by
 have hsl:MT=16777216:=My;obtain⟨vs,hv,pl,hz⟩:=I.list hq;have lv:vs.length=ds.length:=by rw[<-hv.length,hd.length]
 refine call_function_entry_kw kind_sorted plain_sorted entry_sorted (ksk_s1 _ _) ?_;unfold Builtin.«sorted»;refine M5 (m:=checkCount "sorted" 1 1 _) (MO ?_);refine M5 (collect_list pl.isList ?_ L8);have I1:af X aeK U H {s with heap:=(s.heap.push (Ml "list" #[] 0)).update s.heap.objs.size (XY (·++vs.toArray))}:=by
  refine I.kept (t':=s.toks) λb u z=>?_;have hlt:b < s.heap.objs.size:=Wl z;exact(Vh _ _ _ _ (WI hlt)).trans (V3 _ z)
 generalize (s.heap.push (Ml "list" #[] 0)).update s.heap.objs.size (XY (·++vs.toArray))=h1 at*;refine M5 (P5 (s:={s with heap:=h1}) ?_ L8);have I2:af X aeK U H {s with heap:=h1.push (Ml "list" vs.toArray 0)}:=I1.kept (t':=s.toks) λb u z=>V3 _ z;have gD:(h1.push (Ml "list" vs.toArray 0)).get? h1.objs.size=some (Ml "list" vs.toArray 0):=Wv _ rfl;refine M5 (N9 (wpAny_call_entry_kw Pu ⟨_,gD,rfl⟩ Py ?_ (ksk_l1 _ _)));rw[ksk_t1];refine Qb (kf:=kf) Fk hr hb trk I2 (I1.out (V4 _)) (I1.hok.fresh (V4 _)) gD hv hd hF h64 nd (Q:=Q) (λH' xs' ds' a b c d e=>q H' _ xs' ds' a b c d e) λs' hs'=>?_;exact⟨_,rfl,MO ⟨_,rfl,hs'⟩⟩
end
theorem Qe{vs:List M3}{kp:Nat->Int×Str}{C:Pe->M6->Prop}(hv:vs.length=n)(h64:n < 64)(hD:s.heap.get? D=some (Ml "list" vs.toArray n0))(hk:∀i v,vs[i]?=some v->p8 s.heap v (kp i)/\v≠ .ref D)(hd:∀i j,i < n->j < n->kp i=kp j->i=j)
 (q:∀p,cz n p->Up (λi j=>aY (kp i) (kp j)) p n->∀h' c,h'.get? D=some (Ml "list" (p.toList.map λi=>vs.getD i .none).toArray c)->(∀b u,b≠D->s.heap.get? b=some u->h'.get? b=some u)->C (.done (.ret .none)) {s with heap:=h'}):
 MD (MK P w) A (Builtin.«list.sort» ⟨[.ref D],[]⟩) C E s:=by
 have hsl:MT=16777216:=My;rw[list_sort_plain];refine M5 (listItems_at hD rfl (M5 (P4 hD rfl ?_ (by rw[Wh];omega) (Xe _))));have u1:=XU s.heap D (XY λ_=>(#[]:Array M3));have g1:=PJ hD λ_=>(#[]:Array M3);have k1:∀b u,b≠D->s.heap.get? b=some u->(s.heap.update D (XY λ_=>(#[]:Array M3))).get? b=some u:=λb u n z=>(u1.2 b n).trans z;generalize s.heap.update D (XY λ_=>(#[]:Array M3))=h1 at*;generalize (if (#[]:Array M3).size==vs.toArray.size then n0 else n0+1)=e1 at*;refine M5 (seqEpoch_at (s:={s with heap:=h1}) g1 rfl ?_);refine M5 (wpAny_newTuple ?_ (by show vs.length<=_;omega));refine M5 (P5 ?_ (Xe _));have g2:((h1.push {cls:= .type "tuple",data:= .seq vs.toArray}).push {cls:= .type "list",data:= .seq ([]:List M3).toArray}).get? D=some (Ml "list" #[] e1):=V3 _ (V3 _ g1);have k2:∀b u,b≠D->s.heap.get? b=some u->((h1.push {cls:= .type "tuple",data:= .seq vs.toArray}).push {cls:= .type "list",data:= .seq ([]:List M3).toArray}).get? b=some u:=λb u n z=>V3 _ (V3 _ (k1 b u n z));show MD _ _ _ _ _ {s with heap:=(h1.push {cls:= .type "tuple",data:= .seq vs.toArray}).push {cls:= .type "list",data:= .seq ([]:List M3).toArray}};generalize (h1.push {cls:= .type "tuple",data:= .seq vs.toArray}).push {cls:= .type "list",data:= .seq ([]:List M3).toArray}=h2 at*;refine N9 ?_;have hz:vs.toArray.size=n:=by rw[Wh];exact hv
 have last:∀(st:SortSt)(p:Array Nat),cz n p->Up (λi j=>aY (kp i) (kp j)) p n->failedOf st=none->(arrOf st).map (·.2)=(p.toList.map λi=>vs.getD i .none).toArray->
  MD (MK P w) A (do
   let touched:=(<-seqEpoch D) !=e1
   TZ (.ref D) λ_=>(arrOf st).map (·.2)
   if let some e:=failedOf st then rule "list.sort.comparison-raised";throw e
   if touched then rule "list.sort.modified";raiseError "ValueError" "list modified during sort"
   ret .none) C E {s with heap:=h2}:=by
  intro st p p1 p2 hf ho;rw[ho,hf];refine M5 (seqEpoch_at (s:={s with heap:=h2}) g2 rfl ?_);refine M5 (P4 (s:={s with heap:=h2}) g2 rfl ?_ (Xe _) (by rw[Wh,V0,WA,p1.size];omega));simp only[bne_self_eq_false,WC,if_false];have u3:=XU h2 D (XY λ_=>(p.toList.map λi=>vs.getD i Yn).toArray);exact MO (q p p1 p2 _ _ (PJ g2 λ_=>(p.toList.map λi=>vs.getD i Yn).toArray) λb u n z=>(u3.2 b n).trans (k2 b u n z))
 by_cases h2':n < 2
 ·simp only[hz,h2',if_true];refine M5 (MO (M5 (MO ?_)));refine last _ (RL (XB n)) (B5 n) (λi j a b=>by omega) rfl ?_;show(vs.toArray.zip vs.toArray).map (·.2)=_;apply V9.mp;simp only[UE,Tx];rw[SH L8];apply Y1 (by simp[hv]);intro i a b;simp at a b⊢;rw[WE a];rfl
 ·simp only[hz,h2',if_false];have hk2:∀i v,vs[i]?=some v->p8 h2 v (kp i):=λi v e=>by
   obtain⟨⟨a,o,m,t,u,rfl,x1,x2,x3⟩,ne⟩:=hk i v e;exact⟨a,o,m,t,u,rfl,k2 a o (λz=>ne (by rw[z])) x1,x2,x3⟩
  refine M5 (Hi (s:={s with heap:=h2}) hk2 L8 ?_);refine M5 (NB (kat_run (κ:=tuples' true) (ks:=vs) (s:={s with heap:=h2}) (E:=λ_ _=>False) (Q:=λst' s'=>s'={s with heap:=h2}/\∃p,cz n p/\Up (λi j=>aY (kp i) (kp j)) p n/\arrOf st'=p.map (kas_item (vs.toArray.zip vs.toArray))/\failedOf st'=none) (G:=λp s'=>s'={s with heap:=h2}/\cz n p/\Up (λi j=>aY (kp i) (kp j)) p n) rfl L8 L8
   (λp st' s' a b c d=>⟨d.1,p,d.2.1,d.2.2,b,c⟩) ?_) (λr s' hr=>?_) λ_ _ x=>x.elim)
  ·rw[hv];exact Hj (s:={s with heap:=h2}) hv L8 hk2 hd λp a b=>⟨rfl,a,b⟩
  ·obtain⟨rfl,p,p1,p2,p3,p4⟩:=hr;exact last _ p p1 p2 p4 (kat_snds rfl p3)
theorem Qf:l6 X (.builtin "sorted") (λxs H Q=>∃(p:L9)(us:List V)(O:Ex)(ps:List (Int×Str)),xs=[.ref p]/\bb X.K H p us/\ak X.K H O us (ps.map eG)/\ps.length < 64/\ps.Nodup/\∀(l:L9)(us':List V)(ps':List (Int×Str)),H l=none->ak X.K H O us' (ps'.map eG)->ps'.Perm ps->ps'.Pairwise (λa b=>aY a b=true)->Q (.ref l) (ai H l (.lst us'))):=by
 intro aeK s U H xs ws Q I r h;obtain⟨l,us,O,ps,rfl,hq,hd,h64,nd,q⟩:=h;obtain⟨u,rfl,rx⟩:=mH r;cases rx;have hsl:MT=16777216:=My;obtain⟨vs,hv,pl,hz⟩:=I.list hq;have lv:vs.length=ps.length:=by rw[<-hv.length,hd.length,V0]
 refine ZJ kind_sorted plain_sorted entry_sorted (args_sorted1 _) ?_;unfold Builtin.«sorted»;refine M5 (m:=checkCount "sorted" 1 1 _) (MO ?_);refine M5 (collect_list pl.isList ?_ L8);have I1:af X aeK U H {s with heap:=(s.heap.push (Ml "list" #[] 0)).update s.heap.objs.size (XY (·++vs.toArray))}:=by
  refine I.kept (t':=s.toks) λb u z=>?_;have hlt:b < s.heap.objs.size:=Wl z;exact(Vh _ _ _ _ (WI hlt)).trans (V3 _ z)
 generalize (s.heap.push (Ml "list" #[] 0)).update s.heap.objs.size (XY (·++vs.toArray))=h1 at*;refine M5 (P5 (s:={s with heap:=h1}) ?_ L8);have I2:af X aeK U H {s with heap:=h1.push (Ml "list" vs.toArray 0)}:=I1.kept (t':=s.toks) λb u z=>V3 _ z;have gD:(h1.push (Ml "list" vs.toArray 0)).get? h1.objs.size=some (Ml "list" vs.toArray 0):=Wv _ rfl;have hH:H h1.objs.size=none:=I1.hok.fresh (V4 _);have oD:sh X aeK h1.objs.size:=I1.out (V4 _);have isp:∀i v,vs[i]?=some v->p8 (h1.push (Ml "list" vs.toArray 0)) v (ps.getD i (0,VY ""))/\v≠ .ref h1.objs.size:=λi v ei=>by
  have hi:i < ps.length:=by rw[<-lv];exact(Wf.mp ei).1
  obtain⟨x,ex,rx⟩:=xK hv ei;obtain⟨y,ey,dy⟩:=vF (i:=i) (d:=eG ps[i]) hd (by rw[Wm,WE hi];rfl);rw[ex]at ey;cases ey;have e:ps.getD i (0,VY "")=ps[i]:=by simp[hi]
  rw[e];have a:=B8 I1 dy rx;refine⟨B8 I2 dy rx,λz=>?_⟩;obtain⟨ad,o,m,t,u,e1,e2,_⟩:=a;rw[e1]at z;cases z;exact absurd (Wl e2) (YY _)
 refine M5 (N9 (Nk Pu ⟨_,gD,rfl⟩ Py ?_ (args_list_sort _)));refine Qe (s:={s with heap:=h1.push (Ml "list" vs.toArray 0)}) (n:=ps.length) (kp:=λi=>ps.getD i (0,VY "")) lv h64 gD isp (λi j hi hj ee=>?_) λp pp pu h' c g kept=>?_
 ·have e1':ps.getD i (0,VY "")=ps[i]:=by simp[hi]
  have e2':ps.getD j (0,VY "")=ps[j]:=by simp[hj]
  rw[e1',e2']at ee;exact(Z7 nd).mp ee
 ·have lt:∀i∈p.toList,i < ps.length:=λi hi=>by simpa using pp.perm.mem_iff.mp hi
  have dm:ak X.K H O (p.toList.map λi=>us.getD i .non) ((p.toList.map λi=>ps.getD i (0,VY "")).map eG):=by
   have:∀l:List Nat,(∀i∈l,i < ps.length)->ak X.K H O (l.map λi=>us.getD i .non) ((l.map λi=>ps.getD i (0,VY "")).map eG):=by
    intro l
    induction l with
    |nil=>intro _;exact .nil
    |cons a l ih=>
     intro hl;have ha:=hl a MC;refine .cons ?_ (ih λi hi=>hl i (by simp[hi]));obtain⟨x,ex,dx⟩:=vF (i:=a) (d:=eG ps[a]) hd (by rw[Wm,WE ha];rfl);have e1':us.getD a .non=x:=by simp[ex]
     have e2':ps.getD a (0,VY "")=ps[a]:=by simp[ha]
     show Dt X.K H O (us.getD a .non) (eG (ps.getD a (0,VY "")));rw[e1',e2'];exact dx
   exact this _ lt
  have vm:aF (p.toList.map λi=>us.getD i .non) (p.toList.map λi=>vs.getD i .none):=by
   have:∀l:List Nat,(∀i∈l,i < ps.length)->aF (l.map λi=>us.getD i .non) (l.map λi=>vs.getD i .none):=by
    intro l
    induction l with
    |nil=>intro _;exact .nil
    |cons a l ih=>
     intro hl;have ha:=hl a MC;refine .cons ?_ (ih λi hi=>hl i (by simp[hi]));obtain⟨x,ex,rx⟩:=xK hv (show vs[a]?=some (vs[a]'L8) by simp);have e1':us.getD a .non=x:=by simp[ex]
     have e2':vs.getD a .none=vs[a]'L8:=by simp[show a < vs.length by omega]
     show aG (us.getD a .non) (vs.getD a .none);rw[e1',e2'];exact rx
   exact this _ lt
  refine⟨_,rfl,MO ⟨_,rfl,.ref h1.objs.size,ai H h1.objs.size (.lst (p.toList.map λi=>us.getD i .non)),?_,rfl,q _ _ (p.toList.map λi=>ps.getD i (0,VY "")) hH dm ?_ ?_⟩⟩
  ·refine I2.track (t':=s.toks) (ch:=[h1.objs.size]) MC (λb hb=>?_) (λb u hb z=>kept b u (λy=>hb (by simp[y])) z) ⟨?_,_,c,vm,g⟩
   ·rw[WH]at hb;subst hb;exact⟨hH,oD⟩
   ·rw[V0,WA,pp.size];omega
  ·have h1:=pp.perm.map λi=>ps.getD i (0,VY "");have e:(XB ps.length).map (λi=>ps.getD i (0,VY ""))=ps:=by
    apply Y1 MC;intro i a b;simp at a b⊢;rw[WE b];rfl
   rw[e]at h1;exact h1
  ·rw[X1,ZL];intro i j hi hj hij;have:=pu i j hij (by rw[WA,pp.size]at hj;exact hj);have ei:p.getD i 0=p.toList[i]:=by simp[Zb,show i < p.size by simpa using hi]
   have ej:p.getD j 0=p.toList[j]:=by simp[Zb,show j < p.size by simpa using hj]
   rw[ei,ej]at this;exact this
def gr(t:DA):DA:=λY Q=>t Y λds=>∃ps:List (Int×Str),ds=[.list (ps.map eG)]/\ps.length < 64/\ps.Nodup/\∀ps':List (Int×Str),ps'.Perm ps->ps'.Pairwise (λa b=>aY a b=true)->Q (ps'.map eG)
theorem Qg{a:Mb}{t:DA}{np p:Pos}(hg:Gl X "sorted")(hm:X.mg "sorted"=none)(hv:N6 "sorted"=some (.builtin "sorted"))(ha:PA X [a] (nG X.K H0 O0 t))(he:MQ [a] X.env=(false,eval a X.env)::MQ [] X.env:=by rfl)(hpl:(Mj p (MQ [] X.env)).any (·.1)=false:=by rfl):
 FE X H0 O0 (.Call (.Name "sorted" np) [a] [] p) (gr t):=
 (dA Qf hg hm hv ha (he:=he) (hpl:=hpl)).imp λU H Q uu=>by obtain⟨O,Y,Qd,w,q,k⟩:=uu;exact⟨O,Y,_,w,q,λds vs H1 uu s1 r1=>by
  obtain⟨ps,e,h64,nd,q1⟩:=uu;subst e;cases r1 with
  |cons h r=>
   cases r;obtain⟨a,us,rfl,h1,d1⟩:=h.lst;exact⟨a,us,O,ps,rfl,h1,d1,h64,nd,λl us' ps' hl hd hp hs=>k _ _ _ _ (q1 ps' hp hs) s1 hl hd⟩⟩
def gz(F:Fa)(kf:L7->Int×Str)(t:DA):DA:=λY Q=>t Y λds0=>∃ds,ds0=[.list ds]/\(∀d∈ds,∀R:L7->Prop,R (eG (kf d))->F [d] R)/\ds.length < 64/\(ds.map kf).Nodup/\∀ds',ds'.Perm ds->ds'.Pairwise (λa b=>aY (kf a) (kf b)=true)->Q ds'
theorem Hn{a:Mb}{t:DA}{np p gp kp:Pos}{g:Str}{k:Nat}{f:L9}{fd:MZ}{ps:List Str}{F:Fa}(kf:L7->Int×Str)(hc:X.calm=true)(Fk:aB X.prog X.w X.K X.mg X.base MX k f fd ps (aQ X.K F))(hr:bf k X.A.in1.in1)(hb:l8 X.K fd ps [])
 (hgg:Gl X g)(hgm:X.mg g=some (.ref f))(hg:Gl X "sorted")(hm:X.mg "sorted"=none)(hv:N6 "sorted"=some (.builtin "sorted"))(ha:PA X [a] (nG X.K H0 O0 t))(hdb:(g==("__debug__":Str))=false:=by decide)
 (he:Mj p (MQ [a] X.env)=(false,eval a X.env)::Mj p (MQ [] X.env):=by rfl)(hplain:(Mj p (MQ [a] X.env)).any (·.1)=false:=by rfl):
 FE X H0 O0 (.Call (.Name "sorted" np) [a] [⟨some "key",.Name g gp,kp⟩] p) (gz F kf t):=by
 intro aeK s U H Q I h;obtain⟨O,Y,Qd,w,q,kk⟩:=h;refine Oi (sJ I hg hm hv ?_);refine callWith_kw (aA (ha p aeK s U H (λvs H1=>∃ds0,av H H1/\sU X.K H1 O vs ds0/\∃ds,ds0=[.list ds]/\(∀d∈ds,∀R:L7->Prop,R (eG (kf d))->F [d] R)/\ds.length < 64/\(ds.map kf).Nodup/\∀ds',ds'.Perm ds->ds'.Pairwise (λa b=>aY (kf a) (kf b)=true)->Qd ds') I ⟨O,Y,_,w,q,λds0 vs H1 q1 s1 r1=>⟨ds0,s1,r1,q1⟩⟩) λus s1 hus=>?_) he hplain rfl rfl;obtain⟨vs,H1,I1,rv,ds0,s1',r1,ds,e,hF,h64,nd,q1⟩:=hus;subst e;refine kws_cons (wc I1 hgg hgm (kws_nil ?_) hdb);cases r1 with
 |cons h r=>
  cases r;obtain⟨ad,xs,rfl,hq,hd⟩:=h.lst;obtain⟨u,rfl,rx⟩:=mH rv;cases rx;exact Qc (kf:=kf) hc Fk hr hb (w.mono s1').trk I1 hq hd hF h64 nd λH' l xs' ds' a b c d e=>kk _ _ _ _ (q1 ds' d e) (s1'.trans a) b c
section
open PySem.SeqAt
open PySem.AutoSeq1 (wpAny_loadPart')
open PySem.MeetsSeq PySem.MeetsSeq2 PySem.MeetsSeq3
theorem Qh(l b:L9)(n n2:Nat)(dd dd2:Option L9)(sl sl2:Array (Option M3))(p q:Int×Str)(t1 t2 t3 t4:Tok):
 Meets (Builtin.«tuple.__lt__» ⟨[.ref l,.ref b],[]⟩)
  (λ_ R s=>s.heap.get? l=some {cls:= .type "tuple",dict:=dd,data:= .seq #[.int p.1 t1,.str p.2 t2] n,slots:=sl}/\s.heap.get? b=some {cls:= .type "tuple",dict:=dd2,data:= .seq #[.int q.1 t3,.str q.2 t4] n2,slots:=sl2}/\
   R (.ok (.ret (.bool (aY p q)))) s):=
 .of_wp λprog w A R s h=>by
  obtain⟨hp,g,d,tk,os⟩:=s;obtain⟨hl,hb,h⟩:=h;have f2:=AutoSeq1.sub_tuple_tuple
  wp_walk using QD hl,QD hb,wpAny_forIn_list _ (λrest b s'=>b.1=none/\s'=⟨hp,g,d,tk,os⟩/\(rest=[(YJ p.1 t1,YJ q.1 t3),(Zd p.2 t2,Zd q.2 t4)]\/(rest=[(Zd p.2 t2,Zd q.2 t4)]/\p.1=q.1)\/(rest=[]/\p.1=q.1/\p.2=q.2))) _
  case turn=>
   rintro⟨y,x⟩ rest b s' ⟨hb',rfl,h3⟩;rcases h3 with h3|⟨h3,e1⟩|⟨h3,_⟩
   ·injection h3 with hyx hrest
    injection hyx with hy hx
    subst hy hx;obtain⟨e,he,hiff⟩:=HT.eqAt_int A.in1 ⟨hp,g,d,tk,os⟩ p.1 t1 q.1 t3;refine M5 (he prog w _ _ ?_);cases e with
    |true=>
     wp_walk
     exact⟨rfl,rfl,.inr (.inl ⟨hrest,hiff.mp rfl⟩)⟩
    |false=>
     have ne:p.1≠q.1:=λz=>absurd (hiff.mpr z) We;have hri:=HT.rcLt_int A.in1 ⟨hp,g,d,tk,os⟩ p.1 t1 q.1 t3 prog w;have hv:aY p q=decide (p.1 < q.1):=by unfold aY;simp[ne]
     rw[hv]at h
     wp_walk using hri
     exact⟨_,rfl,by simpa using h⟩
   ·injection h3 with hyx hrest
    injection hyx with hy hx
    subst hy hx;have he:=EqAt.str_str (A:=A.in1) (s:=⟨hp,g,d,tk,os⟩) p.2 t2 q.2 t4;refine M5 (he prog w _ _ ?_);cases e:(p.2==q.2) with
    |true=>
     wp_walk
     exact⟨rfl,rfl,.inr (.inr ⟨hrest,e1,eq_of_beq e⟩)⟩
    |false=>
     have hri:∀(E:M3->M6->Prop)(Q:M3->M6->Prop),Q (.bool (decide (p.2.cps.toList < q.2.cps.toList))) ⟨hp,g,d,tk,os⟩->MD (MK prog w) A.in1 (richCompare .Lt (.str p.2 t2) (.str q.2 t4)) Q E ⟨hp,g,d,tk,os⟩:=λE Q z=>(lt_str z:MD (MK prog w) A.in1 (Mz .Lt (.str p.2 t2) (.str q.2 t4)) Q E _);have hv:aY p q=decide (p.2.cps.toList < q.2.cps.toList):=by unfold aY;simp[e1]
     rw[hv]at h
     wp_walk using hri
     exact⟨_,rfl,by simpa using h⟩
   ·cases h3
  case fin=>
   rintro⟨b1,b2⟩ s' ⟨hb',rfl,h3⟩;simp only at hb';subst hb';rcases h3 with h3|⟨h3,e1⟩|⟨h3,e1,e2⟩
   ·cases h3
   ·cases h3
   ·have hv:aY p q=false:=by unfold aY;rw[e1,e2];simp
    rw[hv]at h
    wp_walk
    exact⟨_,rfl,by simpa [Builtin.Tuple.tupleCompareSizes]using h⟩
  case h=>
   exact⟨rfl,rfl,.inl rfl⟩
end
def Ho(Z:VZ):R2:=λx y H Q=>∃a b p q,x= .ref a/\y= .ref b/\bo Z H a [.int p.1,.str p.2]/\bo Z H b [.int q.1,.str q.2]/\Q (.bl (aY p q)) H
theorem aac{X:Cx}(hu:X.A.units < Mq):bR X (Mz .Lt) (Ho X.K):=by
 intro aeK s U H x y v u Q I rx ry h;obtain⟨a,b,p,q,rfl,rfl,ha,hb,z⟩:=h;cases rx;cases ry;obtain⟨its,r1,⟨⟨c1,d1,da1,s1⟩,o1,k1,n1,e1⟩,_⟩:=I.tuple ha;obtain⟨its2,r2,⟨⟨c2,d2,da2,s2⟩,o2,k2,n2,e2⟩,_⟩:=I.tuple hb;simp only at k1 e1 k2 e2;subst k1 e1 k2 e2;cases r1 with
 |cons x1 r1=>
  cases r1 with
  |cons x2 r1=>
   cases r1;obtain⟨t1,rfl⟩:=x1;obtain⟨t2,rfl⟩:=x2;cases r2 with
   |cons y1 r2=>
    cases r2 with
    |cons y2 r2=>
     cases r2;obtain⟨t3,rfl⟩:=y1;obtain⟨t4,rfl⟩:=y2;exact richCompare_meets_room (op:= .Lt) ⟨_,o1,rfl⟩ ⟨_,o2,rfl⟩ PySem.F.slot_tuple_lt PySem.F.entry_tuple_lt (PySem.F.args_tuple_lt_2 _ _) (Qh a b n1 n2 d1 d2 s1 s2 p q t1 t2 t3 t4) ⟨o1,o2,(λx=>nomatch x),.bl (aY p q),H,I,rfl,z⟩ hu
def gA:L7->L7->(L7->Prop)->Prop:=λx y Q=>∃p q:Int×Str,x=eG p/\y=eG q/\Q (.bool (aY p q))
theorem abD:dF Z (Ho Z) gA:=λH O x y dx dy Qd R _ hx hy uu k=>by
 obtain⟨p,q,e1,e2,z⟩:=uu;subst e1 e2;obtain⟨a,xs,rfl,h1,g1⟩:=hx.tup;obtain⟨b,ys,rfl,h2,g2⟩:=hy.tup;cases g1 with
 |cons x1 g1=>
  cases g1 with
  |cons x2 g1=>
   cases g1;cases x1;cases x2;cases g2 with
   |cons y1 g2=>
    cases g2 with
    |cons y2 g2=>
     cases g2;cases y1;cases y2;exact⟨a,b,p,q,rfl,rfl,h1,h2,k _ _ H z (av.refl _) (.bl _)⟩
def aaF(tc:DB)(tb:DS):DS:=λE Y=>∃W:Nat->Dl->Prop,(∃m,W m Y)/\∀m Y,W m Y->tc Y λb=>if b=true then tb {E with nx:=λY'=>∃m',m' < m/\W m' Y',ct:=λY'=>∃m',m' < m/\W m' Y',bk:=E.nx} Y else E.nx Y
theorem aa7(hp:OL (MK X.prog X.w) X.A X.env X.xe)(hc:PT X c (bZ X.K H0 O0 tc))(hb:bE X body (bp X.K H0 O0 tb)):PS X (.While c body [] pos) (bp X.K H0 O0 (aaF tc tb)):=
 (E1 hp hc hb).imp λD U H uu=>by
  obtain⟨O,Y,E,w,⟨W,⟨m0,w0⟩,st⟩,k1,k2,k3,k4⟩:=uu;refine⟨λm U' H'=>∃O' Y',Wd X.K H0 O0 H' O' U' Y'/\aO H H' O O'/\W m Y',⟨m0,O,Y,w,aO.refl _ _,w0⟩,λm σ1 H1 ⟨O1,δ1,w1,S1,q1⟩=>⟨O1,δ1,_,w1,st m δ1 q1,λb H2 q2 s2=>?_⟩⟩;cases b with
  |false=>
   rw[M4 MC]at q2⊢;exact k1 O1 δ1 σ1 H2 q2 (w1.mono s2) (S1.trans (.same s2))
  |true=>
   rw[M8 rfl]at q2⊢;refine⟨λU' H'=>∃O' Y' m',m' < m/\Wd X.K H0 O0 H' O' U' Y'/\aO H H' O O'/\W m' Y',λU' H' uu=>by obtain⟨O',Y',m',lt,w',S',q'⟩:=uu;exact⟨m',lt,O',Y',w',S',q'⟩,O1,δ1,_,w1.mono s2,q2,?_,k2,?_,?_⟩
   ·rintro O' Y' U' H' ⟨m',lt,q'⟩ w' S';exact⟨O',Y',m',lt,w',S1.trans ((aO.same s2).trans S'),q'⟩
   ·intro O' Y' U' H' q' w' S';exact k1 O' Y' U' H' q' w' (S1.trans ((aO.same s2).trans S'))
   ·rintro O' Y' U' H' ⟨m',lt,q'⟩ w' S';exact⟨O',Y',m',lt,w',S1.trans ((aO.same s2).trans S'),q'⟩
theorem bu.vals(h:bu Z H O kv kd):ak Z H O (kv.map (·.2)) (kd.map (·.2)):=by
 induction h with
 |nil=>exact .nil
 |cons a _ ih=>exact .cons a ih
abbrev kQ(ks:List Str)(ds:List L7):L7:=F5 (ks.map .str) ds
def gB(i:Nat)(t:DS):DS:=λE Y=>∃kd,Y[i]?=some (some (.k kd))/\∃ks:List Str,kd.map (·.1)=ks.map X6/\t E (Y.set i (some (.v (kQ ks (kd.map (·.2))))))
theorem iB.z{H:Hp}{a:L9}{ob:Obj}{kvs:List (aj×V)}{k:aj}(e:H a=some (.frz ob (.dK kvs))):iB H a (kV k) (mr kvs k):= .inl ⟨kvs,k,.inr ⟨ob,e⟩,rfl,rfl⟩
theorem af.fast{aeK:List (L9×Obj)}{U:St}{s:M6}(I:af X aeK U H s){a:L9}{kv:List (aj×V)}(ha:H a=some (.dK kv)):∃o,af X aeK U (ai H a (.frz o (.dK kv))) s:=by
 obtain⟨z,hd,vs,rel,o,es,ep,g,r1,r2,r3⟩:=I.hok a _ ha;exact⟨o,I.write (x:=a) (e:=a) (o:= .frz o (.dK kv)) (h':=s.heap) (t':=s.toks) (by rw[ha];exact X8) (.inl rfl) (λ_ _ _ q=>q) ⟨o,g⟩ ⟨g,z,hd,vs,rel,o,es,ep,g,r1,r2,r3⟩⟩
theorem aaP{st:MU}{t:TS}(h:PS X st t)(i:Nat):PS X st (λD U H=>∃a kv,U[i]?=some (some (.ref a))/\H a=some (.dK kv)/\∀o,t D U (ai H a (.frz o (.dK kv)))):=by
 intro aeK s U H D I q;obtain⟨a,kv,_,ha,q⟩:=q;obtain⟨o,I2⟩:=I.fast ha;exact h aeK s U _ D I2 (q o)
theorem Wd.tell(w:Wd Z H0 O0 H O U Y)(h:U[i]?=some (some v))(hd:Dt Z H O v d):Wd Z H0 O0 H O U (Y.set i (some (.v d))):=by
 have li:i < Y.length:=by rw[<-w.len];exact(Wf.mp h).1
 have ne:∀{j:Nat}{y:Sl},(Y.set i (some (.v d)))[j]?=some (some y)->y.own->j≠i:=λ{j y} q hy z=>by
  subst z;rw[WM li]at q;cases q;exact hy
 refine⟨w.same,w.sub,w.new,w.trk,by simp[w.len],λj y q=>?_,λj k y z l' e1 y1 e2 z2 e3 e4=>?_⟩
 ·by_cases hj:j=i
  ·subst hj;rw[WM li]at q;cases q;exact⟨v,by rw[h];rfl,hd⟩
  ·rw[Wg (Ne.symm hj)]at q;exact w.sl j y q
 ·have n1:=ne e1 y1;have n2:=ne e2 z2;rw[Wg (Ne.symm n1)]at e1;rw[Wg (Ne.symm n2)]at e2;exact w.dis j k _ _ l' e1 y1 e2 z2 e3 e4
theorem aaB(i:Nat){st:MU}{t:DS}(h:PS X st (bp X.K H0 O0 t)):PS X st (bp X.K H0 O0 (gB i t)):=
 (aaP h i).imp λD U H uu=>by
  obtain⟨O,Y,E,w,⟨kd,e,ks,ek,q⟩,k1,k2,k3,k4⟩:=uu;obtain⟨l,kv,h,a,b,c,r⟩:=w.ownK e;refine⟨l,kv,h,c,λo=>?_⟩;obtain⟨O',w',S,n⟩:=w.frzK (y0:= .k kd) e trivial h (.frz o (.dK kv));have w2:=w'.tell (d:=kQ ks (kd.map (·.2))) h (.dic aV (by rw[r.keys];exact ek) rfl n (r.vals.step S));rw[List.set_set]at w2;exact⟨O',_,E,w2,q,λO2 δ2 σ2 H2 z2 w2 S2=>k1 O2 δ2 σ2 H2 z2 w2 (S.trans S2),k2,λO2 δ2 σ2 H2 z2 w2 S2=>k3 O2 δ2 σ2 H2 z2 w2 (S.trans S2),λO2 δ2 σ2 H2 z2 w2 S2=>k4 O2 δ2 σ2 H2 z2 w2 (S.trans S2)⟩
theorem ur:∀{a b:List Str},a.map V8=b.map V8->a=b
 | [],[],_=>rfl
 | [],_::_,h=>by cases h
 |_::_,[],h=>by cases h
 |x::a,y::b,h=>by
  simp only[V2,Wx,WS]at h;rw[h.1,ur h.2]
def aW:List Str->List L7->Str->Option L7
 |k::ks,d::ds,z=>if k=z then some d else aW ks ds z
 |_,_,_=>none
theorem vG:∀{kv:List (aj×V)}{ks:List Str}{ds:List L7},kv.map (·.1)=ks.map X6->ak Z H O (kv.map (·.2)) ds->aW ks ds z=some d->∃v,mr kv (.inr z)=some v/\Dt Z H O v d
 | [],[],ds,_,_,e=>by unfold aW at e;cases e
 | [],_::_,ds,h,_,_=>by cases h
 |_::_,[],ds,h,_,_=>by cases h
 |p::kv,k::ks,ds,h,hd,e=>by
  rw[V2]at hd;cases hd with
  |cons h1 h2=>
   simp only[V2,Wx]at h;obtain⟨p1,p2⟩:=p;obtain⟨rfl,h⟩:=h;unfold aW at e;by_cases hk:k=z
   ·rw[M8 hk]at e;cases e;exact⟨p2,vC (by rw[hk]),h1⟩
   ·rw[M4 hk]at e;obtain⟨v,a,b⟩:=vG h h2 e;exact⟨v,by rw[uj (λq=>hk (qE.mp q))];exact a,b⟩
def gC(to tk:DT):DT:=λY Q=>to Y λx=>∃ks ds,x=kQ ks ds/\tk Y λy=>∃z,y= .str z/\∃d,aW ks ds z=some d/\Q d
theorem Hq(hu:X.A.units+64 < Mq)(ho:DE X H0 O0 o to)(he:DE X H0 O0 e tk)(hs:xt e):DE X H0 O0 (.Subscript o e pos) (gC to tk):=
 (Gm L8 ho he hs).imp λU H Q uu=>by
  obtain⟨O,Y,Qd,w,q,k⟩:=uu;refine⟨O,Y,_,w,q,λx vx H1 ⟨ks,ds,ex,q1⟩ s1 r1=>?_⟩;subst ex;refine⟨O,Y,_,w.mono s1,q1,λy vy H2 ⟨z,ey,d,ed,q2⟩ s2 r2=>?_⟩;subst ey;cases r2;cases r1 with
  | @dic a ob kv ks' kp ds h e1 e2 n rr=>
   have ek:ks'=ks:=by
    have:ks'.map V8=ks.map V8:=e2.symm;exact ur this
   subst ek;obtain⟨v,hv,dv⟩:=vG e1 rr ed;exact⟨a,v,rfl,by rw[<-hv];exact iB.z (k:= .inr z) (s2 _ _ h),k _ _ _ q2 (s1.trans s2) (dv.mono s2)⟩
def kR(to t:DT):DT:=λY Q=>to Y λx=>∃ss:List Str,x= .list (ss.map .str)/\t Y λy=>∃z,y= .str z/\z∈ss/\Q (.int (ss.idxOf z:Nat))
def kT(t:DA):DA:=λY Q=>t Y λds=>∃n k:Int,ds=[.int 0,.int n,.int k]/\0<=n/\n < 1000/\0 < k/\k < 1000/\∀js:List Int,(∀j∈js,0<=j/\j < n)->js.length<=1000->Q (js.map .int)
theorem ak.ofInts:∀(ns:List Int),ak Z H O (ns.map V.int) (ns.map Wa)
 | []=>.nil
 |n::ns=>.cons (.int n) (ak.ofInts ns)
def gE(t:DT)(g:DG)(tc:DB)(te:DT)(k:Nat)(fr:List Nat):DA:=λY Q=>dS t g tc te k fr Y Q\/dU t g tc te k fr Y Q
theorem aaD(hc:X.calm=true)(S:aU X.env.scope X.N N' k fr scope)(hi:DF X H0 O0 iter t)(gd:GD X.K g dg)(hk:pZ g k)(hfr:fr.Nodup)
 (hg:∀fp C s H,PG (bG X scope N' fp C s H) tg g)(hf:∀fp C s H,nv (bG X scope N' fp C s H) ifs (bZ X.K H0 O0 tc))(he:∀fp C s H,PE (bG X scope N' fp C s H) elt (up X.K H0 O0 te))
 (hs:∀x,NO iter X.env x=pure x:=by intro _;rfl):FE X H0 O0 (.ListComp elt [⟨tg,iter,ifs,0⟩] scope pos) (gE t dg tc te k fr):=by
 intro aeK s U H Q I h;obtain⟨O,Y,Qd,w,q,kk⟩:=h;rcases q with q|q
 ·exact mJ hc S hi gd hk hfr hg hf he hs aeK s U H Q I ⟨O,Y,Qd,w,q,kk⟩
 ·exact oZ hc S hi gd hk hfr hg hf he hs aeK s U H Q I ⟨O,Y,Qd,w,q,kk⟩
theorem Qp:rT (bK 2 fr U) (((bK 2 fr U).set 0 v).set 1 u):=by
 refine⟨MC,λi w h=>?_⟩
 match i with
 |0=>simp[bK,Wj]at h
 |1=>simp[bK,Wj]at h
 |i+2=>simpa [bK,Wj]using h
theorem B9:pZ (va Z n (rQ (oF 0) (rQ (oF 1) u9))) 2:=λfr U v H' R uu=>by obtain⟨a,xs,e,h1,h2,x,r,e1,y,r2,e2,e3,h⟩:=uu;exact⟨a,xs,e,h1,h2,x,r,e1,y,r2,e2,e3,Qp,h⟩
theorem Hr{T:String}{a c:Mb}{t:DT}{np p:Pos}{Z':VZ}(hK:X.K=Z')(hg:Gl X "isinstance")(hm:X.mg "isinstance"=none)(hv:N6 "isinstance"=some (.builtin "isinstance"))(ha:DF X H0 O0 a t)(hc:PE X c (tC (.ty T)))
 (hs:MQ [a,c] X.env=(false,eval a X.env)::MQ [c] X.env:=by rfl)(hs2:MQ [c] X.env=[(false,eval c X.env)]:=by rfl)(hb:(Mj p (MQ [c] X.env)).any (·.1)=false:=by rfl):DE X H0 O0 (.Call (.Name "isinstance" np) [a,c] [] p) (eB Z' T t):=by
 subst hK;exact aef hg hm hv ha hc hs hs2 hb
def kU:L7->L7->(L7->Prop)->Prop:=λx y Q=>∃xs ys,x= .tuple xs/\y= .tuple ys/\xs.length+ys.length<=MT/\Q (.tuple (xs++ys))
def mj(f:Str)(d:L7):List (Str×L7)->List (Str×L7)
 | []=>[(f,d)]
 | (g,x)::r=>if g=f then(g,d)::r else(g,x)::mj f d r
theorem pX.put(hv:Dt Z H O v d):∀{fs:List (Str×V)}{fd:List (Str×L7)},pX Z H O fs fd->pX Z H O (l7 f v fs) (mj f d fd)
 | [],[],_=>⟨rfl,.cons hv .nil⟩
 | [],_::_,h=>by cases h.1
 |_::_,[],h=>by cases h.1
 | (g,x)::fs,(g',y)::fd,⟨h1,h2⟩=>by
  simp only[V2,Wx]at h1;obtain⟨rfl,h1⟩:=h1;simp only[V2]at h2;cases h2 with
  |cons a r=>
   unfold l7 mj;by_cases e:g=f
   ·rw[M8 e,M8 e];exact⟨by simp only[V2,h1],.cons hv r⟩
   ·rw[M4 e,M4 e];obtain⟨q1,q2⟩:=pX.put hv (fs:=fs) (fd:=fd) ⟨h1,r⟩;exact⟨by simp only[V2,q1],.cons a q2⟩
def gF(C:L9)(i:Nat)(f:Str)(t:DT):DS:=λE Y=>t Y λd=>∃l fd,Y[i]?=some (some (.i l C fd))/\fd.length < 1000/\E.nx (Y.set i (some (.i l C (mj f d fd))))
theorem nS{pos pos':Pos}(hc:lX X.K C)(hn:NoAttr X.K C f)(ho:PE X o (lW i))(he:DE X H0 O0 e t)(hs:N3 e (some (.Attribute o f pos')) pos.line X.env=pure false:=by rfl):
 PS X (.Assign [.Attribute o f pos'] e pos) (bp X.K H0 O0 (gF C i f t)):=
 (Bj ho he hs).imp λD U H ⟨O,Y,E,w,q,k1,k2,k3,k4⟩=>⟨O,Y,_,w,q,λd u H1 uu s1 r1=>by
  obtain⟨l,fd,e,hl,q1⟩:=uu;have w1:=w.mono s1;obtain⟨dx,fs,h,a,b,c,r⟩:=w1.ownI e;have lf:fs.length=fd.length:=by have:=congrArg ZD r.1;simpa using this
  refine⟨.ref l,h,l,C,dx,fs,rfl,c,hc,hn,by rw[lf];exact hl,k1 _ _ _ _ q1 (w1.putY (y0:= .i l C fd) (y1:= .i l C (mj f d fd)) trivial trivial e h λS a b=>⟨dx,_,rfl,a,b,aV,?_⟩) ⟨λb' o' z n=>?_,λ_ _ n=>n⟩⟩
  ·obtain⟨z1,z2⟩:=r.put (f:=f) r1;exact⟨z1,z2.step S⟩
  ·rw[ar (λy=>n (by rw[y];exact a))];exact s1 _ _ z⟩
abbrev Hs(C:L9)(fd:List (Str×L7)):L7:=nL C (fd.map λp=>.str p.1) (fd.map (·.2))
inductive vH(Z:VZ)(C:L9)(F:Fa)(vs:List V)(H:Hp)(Q:VK)(E:XK):Prop
 |mk (x dx:L9) (vs':List V) (H1:Hp) (O:Ex) (ds:List L7) (Qd:L7->Prop):vs= .ref x::vs'->H=ai (ai H1 dx (.own x)) x (.ins C dx [])->H1 x=none->H1 dx=none->dx≠x->(∀l,O l->H1 l≠none)->ak Z H1 O vs' ds->F ds Qd->
 (∀d H',Qd d->av H1 H'->Dt Z H' O (.ref x) d->Q .non H')->vH Z C F vs H Q E
theorem vI:∀U H Q,up Z H0 O0 (cX F t) U H Q->Ft C (vH Z C F) [] E (oJ Z H0 O0 t) U H Q:=
 λU H Q uu=>by obtain⟨O,Y,Qd,w,q,k⟩:=uu;exact⟨O,Y,_,w,q,λds vs H1 q1 s1 r1 x dx hx hdx ne=>⟨x,dx,vs,H1,O,ds,Qd,by rw[Wn],rfl,hx,hdx,ne,(w.mono s1).trk,r1,q1,λd H2 q2 s2 r2=>⟨rfl,k d _ H2 q2 (s1.trans s2) r2⟩⟩⟩
def xM(N:List Str)(l C:L9)(ds:List L7):Dl:=some (.i l C [])::(cD N (.none::ds)).tail
theorem Qq{H1:Hp}{O:Ex}(tr:∀l,O l->H1 l≠none)(r:ak Z H1 O vs ds)(hx:H1 x=none)(hdx:H1 dx=none)(ne:dx≠x):
 Wd Z H1 O (ai (ai H1 dx (.own x)) x (.ins C dx [])) (λl=>O l\/l=x) (start N (.ref x::vs)) (xM N x C ds):=by
 have w0:=Gb (N:=N) tr (.cons .non r);have w1:=w0.mono (av.new (o:=HO.own x) hdx);have hx1:(ai H1 dx (.own x)) x=none:=by rw[ar (Ne.symm ne)];exact hx
 have:=w1.setY (i:=0) (p:=x) (ho:= .ins C dx []) (y0:= .i x C []) trivial hx1 λO' S a b=>⟨dx,[],rfl,a,b,aV,rfl,.nil⟩;exact this
theorem mT.okI{x qual:Str}{st:MU}{f C:L9}{fd:MZ}{N ps:List Str}{k:Nat}{F:Fa}(Fu:mT Z x qual st f fd)(S:aL N ps (aq st))(len:∀ds Q,F ds Q->ds.length+1=ps.length)
 (hbody:∀(cdv:M3) (A:N0) (outer:List Env) (s:M6) (H H1:Hp) (O:Ex) (ds:List L7) (Q:L7->Prop) (E:XK) (l:L9),bf k (A.deeper (Nf qual (aq st) s.heap.objs.size f cdv))->F ds Q->
  ∃t,bE (pR MX P w Z mg base N qual (aq st) f cdv A outer s H E).nox (nK st) (bp Z H1 O t)/\t {nx:=λY=>∃fd,Y[0]?=some (some (.i l C fd))/\Q (Hs C fd),rt:=λ_=>False} (xM N l C ds)):aB P w Z mg base MX (k+1) f fd ps (vH Z C F):=by
 refine Fu.ok S (λvs H Q E h=>?_) (λcdv A outer s H vs Q E hr h=>?_)
 ·obtain⟨x,dx,vs',H1,O,ds,Qd,rfl,_,_,_,_,_,r,q,_⟩:=h;rw[V5,r.length];exact len _ _ q
 ·obtain⟨x,dx,vs',H1,O,ds,Qd,rfl,rfl,hx,hdx,ne,tr,r,q,k⟩:=h;obtain⟨t,ht,q'⟩:=hbody cdv A outer s _ H1 O ds Qd E x hr q;refine⟨_,ht,_,_,_,Qq tr r hx hdx ne,q',λO' Y' U' H' z w' S'=>?_,λd v H' z s' r'=>z.elim,λ_ _ _ _ z=>z.elim,λ_ _ _ _ z=>z.elim⟩;obtain⟨fd,e,z⟩:=z;obtain⟨dx',fs,h,a,b,c,r1,r2⟩:=w'.ownI e;refine k _ _ z w'.same (.obj c ?_ b (r2.step ⟨λ_ _ y _=>y,λb' _ n z=>n (w'.sub b' z)⟩));rw[show(fd.map λp:Str×L7=>V8 p.1)=(fd.map (·.1)).map V8 by rw[Wk];rfl,<-r1,Wk];rfl
theorem Dt.objI(h:Dt Z H O v (nL C kp ds)):∃a dx fs,v= .ref a/\H a=some (.ins C dx fs)/\kp=fs.map (λp=>V8 p.1)/\ak Z H O (fs.map (·.2)) ds:=by
 generalize e:nL C kp ds=x at h;cases h with
 | @obj a C' dx fs kp' ds' h1 h2 n r=>
  simp only[nL,VS,Wx,Z6,WL,WT,WZ,and_true,true_and]at e;obtain⟨e1,e2,e3⟩:=e;have e1:C=C':=by exact_mod_cast e1
  subst e1 e2 e3;exact⟨a,dx,fs,rfl,h1,h2,r⟩
 |_=>first|cases e|simp[nL]at e
theorem Ht:∀{fs:List (Str×V)}{ks:List Str}{ds:List L7},fs.map (λp=>V8 p.1)=ks.map V8->ak Z H O (fs.map (·.2)) ds->aW ks ds f=some d->∃v,fs.lookup f=some v/\Dt Z H O v d
 | [],[],ds,_,_,e=>by unfold aW at e;cases e
 | [],_::_,ds,h,_,_=>by cases h
 |_::_,[],ds,h,_,_=>by cases h
 | (g,x)::fs,k::ks,ds,h,hd,e=>by
  rw[V2]at hd;cases hd with
  |cons h1 h2=>
   simp only[V2,Wx,WS]at h;obtain⟨rfl,h⟩:=h;unfold aW at e;rw[WV];by_cases hk:g=f
   ·rw[M8 hk]at e;cases e;subst hk;exact⟨x,MC,h1⟩
   ·rw[M4 hk]at e;have:(f==g)=false:=by simpa using Ne.symm hk
    rw[this];exact Ht h h2 e
def dW(C:L9)(f:Str)(t:DT):DT:=λY Q=>t Y λx=>∃ks ds d,x=nL C (ks.map .str) ds/\aW ks ds f=some d/\Q d
theorem bW(hc:lX X.K C)(hn:NoAttr X.K C f)(he:DE X H0 O0 e t)(hb:Ny e f X.env (eval e X.env)=eval e X.env:=by rfl):DE X H0 O0 (.Attribute e f pos) (dW C f t):=
 (wC he hb).imp λU H Q uu=>by obtain⟨O,Y,Qd,w,q,k⟩:=uu;exact⟨O,Y,_,w,q,λx v H1 uu s1 r1=>by
  obtain⟨ks,ds,d,ex,ed,q1⟩:=uu;subst ex;obtain⟨a,dx,fs,rfl,h1,h2,r⟩:=r1.objI;obtain⟨v,hv,dv⟩:=Ht h2.symm r ed;exact⟨a,C,dx,fs,v,rfl,h1,hc,hn,hv,k _ _ _ q1 s1 dv⟩⟩
def n9(xs:Array Nat):Prop:=xs.toList.Pairwise (· < ·)
theorem n9.lt(h:n9 xs)(hik:i < k)(hk:k < xs.size):xs[i]'L8 < xs[k]:=by
 have:=ZL.mp h i k (by simpa using(by omega:i < xs.size)) (by simpa using hk) hik;simpa using this
theorem Qr(h:n9 xs):∀(f lo hi:Nat),hi - lo<=f->lo<=hi->hi<=xs.size->(∀k(hk:k < xs.size),k < lo->xs[k] < j)->(∀k(hk:k < xs.size),hi<=k->j<=xs[k])->
 lo<=Zr xs j f lo hi/\Zr xs j f lo hi<=hi/\(∀k(hk:k < xs.size),k < Zr xs j f lo hi->xs[k] < j)/\(∀k(hk:k < xs.size),Zr xs j f lo hi<=k->j<=xs[k]):=by
 intro f
 induction f with
 |zero=>
  intro lo hi a b c d e;obtain rfl:lo=hi:=L8
  exact⟨V4 _,V4 _,d,e⟩
 |succ f ih=>
  intro lo hi a b c d e;unfold Zr;by_cases hl:lo < hi
  ·rw[M8 hl];simp only;have hm:(lo+hi)/ 2 < xs.size:=L8
   have eg:xs.getD ((lo+hi)/ 2) j=xs[(lo+hi)/ 2]:=by simp[Zb,hm]
   rw[eg];split
   ·rename_i hx;have d':∀k(hk:k < xs.size),k < (lo+hi)/ 2+1->xs[k] < j:=λk hk hlt=>by
     rcases YA k ((lo+hi)/ 2) with z|z
     ·exact Pa (h.lt z hm) hx
     ·obtain rfl:k=(lo+hi)/ 2:=L8
      exact hx
    obtain⟨p,q,r,s⟩:=ih ((lo+hi)/ 2+1) hi L8 L8 c d' e;exact⟨L8,q,r,s⟩
   ·rename_i hx;have e':∀k(hk:k < xs.size),(lo+hi)/ 2<=k->j<=xs[k]:=λk hk hge=>by
     rcases YA ((lo+hi)/ 2) k with z|z
     ·exact Wy (YQ hx) (YT (h.lt z hk))
     ·obtain rfl:k=(lo+hi)/ 2:=L8
      exact YQ hx
    obtain⟨p,q,r,s⟩:=ih lo ((lo+hi)/ 2) L8 L8 L8 d e';exact⟨p,L8,r,s⟩
  ·rw[M4 hl];obtain rfl:lo=hi:=L8
   exact⟨V4 _,V4 _,d,e⟩
theorem Ca(h:n9 xs)(j:Nat):Yi xs j<=xs.size/\(∀k(hk:k < xs.size),k < Yi xs j->xs[k] < j)/\(∀k(hk:k < xs.size),Yi xs j<=k->j<=xs[k]):=by
 unfold Yi;obtain⟨_,b,c,d⟩:=Qr h (j:=j) xs.size 0 xs.size L8 (Xe _) (V4 _) (λk hk z=>absurd z L8) (λk hk z=>absurd hk L8);exact⟨b,c,d⟩
theorem Qs(h:n9 xs)(hi:i < xs.size):Yi xs (xs[i]+1)=i+1:=by
 obtain⟨a,b,c⟩:=Ca h (xs[i]+1);apply Nat.le_antisymm
 ·refine YQ λz=>?_;have:=b (i+1) L8 z;have:=h.lt (show i < i+1 by omega) (show i+1 < xs.size by omega);omega
 ·refine YQ λz=>?_;have:=c i hi L8;omega
theorem Qt(h:n9 xs):Yi xs 0=0:=by
 obtain⟨a,b,c⟩:=Ca h 0;refine Nat.eq_zero_of_not_pos λz=>?_;exact absurd (b 0 L8 z) L8
theorem n9.ins(h:n9 xs)(hj:xs[Yi xs j]?≠some j):n9 (SetTable.insertAt xs (Yi xs j) j):=by
 obtain⟨a,b,c⟩:=Ca h j;have h0:xs.toList.Pairwise (· < ·):=h;unfold n9;rw[SetTable.toList_insertAt];generalize Yi xs j=p at*;rw[<-Qi p xs.toList,YG]at h0;rw[YG];have lt1:∀x∈xs.toList.take p,x < j:=λx hx=>by
  obtain⟨k,hk,rfl⟩:=ZF hx;rw[Xr]at hk;rw[List.getElem_take];have:=b k (by simp at hk;omega) L8;simpa using this
 have lt2:∀x∈xs.toList.drop p,j < x:=λx hx=>by
  obtain⟨k,hk,rfl⟩:=ZF hx;rw[YO]at hk;rw[List.getElem_drop];have hs:p+k < xs.size:=by simp at hk;omega
  have h1:=c (p+k) hs L8;have h2:xs[p+k]≠j:=λe=>by
   rcases T8 k with z|z
   ·subst z;exact hj (by rw[Zc (show p < xs.size from hs)];exact congrArg some e)
   ·have:=c p L8 (V4 _);have:=h.lt (show p < p+k by omega) hs;omega
  have:j < xs[p+k]:=L8
  simpa using this
 refine⟨h0.1,XO.mpr ⟨lt2,h0.2.1⟩,λx hx y hy=>?_⟩;rcases Wc.mp hy with e|hy
 ·rw[e];exact lt1 x hx
 ·exact h0.2.2 x hx y hy
theorem aal{t:OC}(hd:t.dummies=#[]):∀(f:Nat)(p:SetTable.Probe){j:Nat}{d:Option Nat},p.dummy=none->VU t ha h f p=some (.empty j d)->d=none/\t.place[Yi t.place j]?≠some j:=by
 intro f
 induction f with
 |zero=>intro p j d _ e;cases e
 |succ f ih=>
  intro p j d hp e;unfold VU at e;have nd:∀k,SetTable.has t.dummies k=false:=λk=>by rw[hd];rfl
  have adv:(t.advance p).dummy=none:=by unfold SetTable.advance;split<;>exact hp
  cases hs:t.slot p.j with
  |empty=>
   rw[hs]at e;simp only[WO,SetTable.Met.empty.injEq]at e;obtain⟨rfl,rfl⟩:=e;refine⟨hp,λz=>?_⟩;unfold UI at hs;simp only[z,beq_self_eq_true,if_true]at hs;cases hs
  |dummy=>
   unfold UI at hs;simp only[nd]at hs;split at hs
   ·cases hs
   ·simp at hs
  |live i=>
   rw[hs]at e;simp only at e;split at e
   ·cases e
   ·exact ih _ adv e
structure mN (t:OC):Prop where
 ris:n9 t.place
 dum:t.dummies=#[]
theorem mN.fresh:mN (.fresh f m l):=⟨.nil,rfl⟩
theorem Qv(n:Nat):n9 (Array.range n):=by
 unfold n9;rw[Array.toList_range];exact VO
theorem mN.standIn{t:OC}:mN (t.standIn n):=⟨Qv n,rfl⟩
theorem mN.orStandIn(h:mN t):mN (t.orStandIn n):=by
 unfold Sa;split
 ·exact h
 ·exact .standIn
theorem mN.layNew(h:mN t)(es:Array (Int×M3))(hs:Int)(x:M3):mN (layNew t es hs x).2.1:=by
 unfold PySem.layNew;cases hf:t.freeSlot hs with
 |none=>exact .standIn
 |some q=>
  obtain⟨slot,wd⟩:=q;simp only;refine mN.orStandIn ?_;unfold SetTable.freeSlot at hf;split at hf
  ·rename_i j d hp;simp only[WO,Z6]at hf;obtain⟨e1,e2⟩:=hf;obtain⟨rfl,nj⟩:=aal h.dum _ _ (by rfl) hp;simp at e1;subst e1;unfold SetTable.put;refine⟨h.ris.ins nj,?_⟩;simp only[h.dum];rfl
  ·cases hf
theorem mN.relay(h:mN t)(es:Array (Int×M3))(n:Nat):mN (OQ t es n).2.1:=by
 unfold OQ;split
 ·rename_i t' order hr;dsimp only;split
  ·unfold U1 SV at hr;cases hc:So (Tf n - 1) (es.map (·.1)) with
   |none=>rw[hc]at hr;cases hr
   |some ow=>
    rw[hc]at hr;simp only[bind,UP,pure,WO,Z6]at hr;obtain⟨e1,_⟩:=hr;subst e1;refine⟨?_,rfl⟩;unfold n9;simp only[List.toList_toArray];rw[X1];refine List.Pairwise.filterMap _ (λa a' hl b hb b' hb'=>?_) VO;cases h1:ow.getD a none with
    |none=>rw[h1]at hb;cases hb
    |some u=>
     cases h2:ow.getD a' none with
     |none=>rw[h2]at hb';cases hb'
     |some u'=>
      rw[h1]at hb;rw[h2]at hb';cases hb;cases hb';exact hl
  ·exact .standIn
 ·exact .standIn
structure acq (P:N4) (w:Mp) (o:Obj) (ss:List Int):Prop where
 ex:o.ExactSet
 da:∃es ep t,o.data= .set es ep t/\ElemsOf (OA P w) es.toList/\(∃ss',N2 (es.toList.map (·.2)) ss'/\ss'.Perm ss)/\es.size < OB/\t.fits es.size=true/\(n6 w=true\/t.led=true)/\mN t
def lT(P:N4)(w:Mp)(h:Md)(a:L9)(ss:List Int):Prop:=∃o,h.get? a=some o/\acq P w o ss
theorem Hu:∀{vs:List M3}{ss:List Int},N2 vs ss->((∃v∈vs,v.isInt k=true)↔k∈ss)
 |_,_,.nil=>by simp
 |_,_,.cons x t r=>by
  have ih:=Hu (k:=k) r;constructor
  ·rintro⟨v,hv,e⟩;rcases Wc.mp hv with z|z
   ·subst z;obtain⟨u,e'⟩:=VG e;cases e';exact WR
   ·exact Wu _ (ih.mp ⟨v,z,e⟩)
  ·intro hk;rcases Wc.mp hk with z|z
   ·subst z;exact⟨_,WR,by simp[RO]⟩
   ·obtain⟨v,hv,e⟩:=ih.mpr z;exact⟨v,Wu _ hv,e⟩
theorem xN{vs vs':List M3}(p:vs'.Perm vs):∀{ss:List Int},N2 vs ss->∃ss',N2 vs' ss'/\ss'.Perm ss:=by
 induction p with
 |nil=>intro ss h;exact⟨ss,h,.refl _⟩
 |cons x p ih=>
  intro ss h;cases h with
  |cons y t r=>obtain⟨s1,a,b⟩:=ih r;exact⟨y::s1,.cons y t a,b.cons y⟩
 |swap x y l=>
  intro ss h;cases h with
  |cons a t r=>cases r with|cons b u r=>exact⟨b::a::_,.cons b u (.cons a t r),.swap _ _ _⟩
 |trans p q ih1 ih2=>
  intro ss h;obtain⟨s1,a,b⟩:=ih2 h;obtain⟨s2,c,d⟩:=ih1 a;exact⟨s2,c,d.trans b⟩
theorem Hv:∀{vs:List M3}{ss:List Int},N2 vs ss->N2 (vs++[.int x t]) (ss++[x])
 |_,_,.nil=>.cons x t .nil
 |_,_,.cons y u r=>.cons y u (Hv r)
theorem vJ:∀{vs:List M3}{ss:List Int},N2 vs ss->vs.length=ss.length
 |_,_,.nil=>rfl
 |_,_,.cons y u r=>by simp[vJ r]
def mO(ss:List Int)(x:Int):List Int:=if x∈ss then ss else ss++[x]
theorem lT.mk{h:Md}{es es':Array (Int×M3)}{t t':OC}(o1:h.get? a=some o)(x1:o.ExactSet)(d1:o.data= .set es ep t)
 (el:ElemsOf (OA P w) es'.toList)(sp:∃ss',N2 (es'.toList.map (·.2)) ss'/\ss'.Perm ss)(b1:es'.size < OB)(f1:t'.fits es'.size=true)(l1:n6 w=true\/t'.led=true)(p1:mN t'):
 (h.update a (Pc es' t')).get? a=some {o with data:= .set es' (ep+1) t'}/\lT P w (h.update a (Pc es' t')) a ss:=by
 have g:(h.update a (Pc es' t')).get? a=some {o with data:= .set es' (ep+1) t'}:=by
  have z:=X7 (Pc es' t') o1 (by rw[putSet_of es' t' d1];rfl);rw[putSet_of es' t' d1]at z;exact z
 exact⟨g,_,g,x1,es',ep+1,t',rfl,el,sp,b1,f1,l1,p1⟩
theorem Hw{g:Bool->Sem Unit}(hg:∀(b:Bool) (s₁:M6) (Q':Unit->M6->Prop),Q' () s₁->MD (MK P w) A (g b) Q' E s₁)
 (o1:s.heap.get? a=some o)(x1:o.ExactSet)(d1:o.data= .set es ep t)
 {es1:Array (Int×M3)}{t2:OC}(el:ElemsOf (OA P w) es1.toList)(sp:∃ss',N2 (es1.toList.map (·.2)) ss'/\ss'.Perm ss)
 (b1:es1.size < OB)(f2:t2.fits es1.size=true)(l2:n6 w=true\/t2.led=true)(p2:mN t2){R:Option Bool->M6->Prop}
 (h:∀h',YU a s.heap h'->lT P w h' a ss->R (some true) {s with heap:=h'}):
 MD (MK P w) A (do
  storeSet a es1 t2
  if (!wd && t2.tooFull)=true then do
   g (OQ t2 es1 (Y2 es1.size)).2.2
   storeSet a (OQ t2 es1 (Y2 es1.size)).1 (OQ t2 es1 (Y2 es1.size)).2.1
   pure (some true)
   else pure (some true)) R E s:=by
 refine M5 (wpAny_storeSet_of o1 d1 ?_ (fits_of_scanBound b1));obtain⟨o2,S2⟩:=lT.mk (P:=P) o1 x1 d1 el sp b1 f2 l2 p2;have sb:=XU s.heap a (Pc es1 t2);split
 ·have rp:=relayAll_perm t2 es1 (Y2 es1.size);have rf:=relayAll_fits t2 es1 (Y2 es1.size);have rl:=aeb t2 es1 (Y2 es1.size);have rq:=p2.relay es1 (Y2 es1.size);generalize OQ t2 es1 (Y2 es1.size)=Z at rp rf rl rq⊢;obtain⟨es2,t3,gv⟩:=Z;dsimp only at rp rf rl rq⊢;have sz:es2.size=es1.size:=by rw[<-WA,rp.length_eq,WA]
  obtain⟨ss',q1,q2⟩:=sp;obtain⟨ss2,q3,q4⟩:=xN (rp.map (·.2)) q1;refine M5 (hg _ _ _ (M5 (wpAny_storeSet_of o2 rfl ?_ (fits_of_scanBound (by rw[sz];exact b1)))));obtain⟨_,S3⟩:=lT.mk (P:=P) (w:=w) (t':=t3) o2 x1 rfl (el.perm rp) ⟨ss2,q3,q4.trans q2⟩ (by rw[sz];exact b1) rf (by rw[rl];exact l2) rq;exact MO (h _ (sb.trans (XU _ a _)) S3)
 ·exact MO (h _ sb S2)
theorem Qx{Q:Bool->M6->Prop}(hS:lT P w s.heap a ss)(hroom:ss.length+1 < OB)
 (h:∀h' b,YU a s.heap h'->lT P w h' a (mO ss x)->Q b {s with heap:=h'}):
 MD (MK P w) A (setAddHashed a (.int x tk) (hashInt x)) Q E s:=by
 obtain⟨o,o1,x1,es,ep,t,d1,el,⟨ss',s1,s2⟩,b1,f1,l1,p1⟩:=hS;have hk:(OA P w).is x (.int x tk)=true:=intKind_is _ _ _ _;have hsc:(YJ x tk).scannable=true:=rfl;have ln:es.size=ss.length:=by rw[<-s2.length_eq,<-vJ s1,V0,WA]
 unfold setAddHashed setAddHashedIn;refine N9 (M5 (Ov o1 d1 f1 ?_));dsimp only;rw[byScan_of hsc b1 el,M8 rfl];unfold setAddByScan;refine M5 (M5 (OI (M5 (wpAny_setScan_of hk o1 d1 f1 el ?_))));have mem:(∃e∈es.toList,(OA P w).is x e.2=true)↔x∈ss:=by
  rw[<-s2.mem_iff,<-Hu s1];constructor
  ·rintro⟨e,he,q⟩;exact⟨e.2,Wb.mpr ⟨e,he,rfl⟩,q⟩
  ·rintro⟨v,hv,q⟩;obtain⟨e,he,rfl⟩:=Wb.mp hv;exact⟨e,he,q⟩
 cases hr:List.findIdx? (λe=>(OA P w).is x e.2) es.toList with
 |some j=>
  obtain⟨hj,hp,_⟩:=List.findIdx?_eq_some_iff_getElem.mp hr;have hx:x∈ss:=mem.mp ⟨_,Yp hj,hp⟩;refine MO (MO ?_);have z:=h s.heap false (YU.refl a s.heap) (by unfold mO;rw[M8 hx];exact⟨o,o1,x1,es,ep,t,d1,el,⟨ss',s1,s2⟩,b1,f1,l1,p1⟩);have e:s={s with heap:=s.heap}:=by cases s;rfl
  rw[e];exact z
 |none=>
  dsimp only;have hx:x∉ss:=λz=>by
   obtain⟨e,he,q⟩:=mem.mpr z;have:=List.findIdx?_eq_none_iff.mp hr e he;rw[q]at this;cases this
  have eS:mO ss x=ss++[x]:=M4 hx;rw[eS]at h;have lp:=layNew_perm t es (hashInt x) (.int x tk);have lf:=layNew_fits t es (hashInt x) (.int x tk);have ll:=PH t es (hashInt x) (.int x tk);have lt:=p1.layNew es (hashInt x) (.int x tk);generalize layNew t es (hashInt x) (.int x tk)=L at lp lf ll lt⊢;obtain⟨es1,t1,wd,gv⟩:=L;dsimp only at lp lf ll lt⊢;rw[UN]at lp;have el1:ElemsOf (OA P w) es1.toList:=(el.push hk hsc).perm lp;have sp1:∃ss',N2 (es1.toList.map (·.2)) ss'/\ss'.Perm (ss++[x]):=by
   have s3:N2 ((es.toList++[(hashInt x,YJ x tk)]).map (·.2)) (ss'++[x]):=by
    rw[Ww];exact Hv s1
   obtain⟨s4,q1,q2⟩:=xN (lp.map (·.2)) s3;exact⟨s4,q1,q2.trans (s2.append_right _)⟩
  have n1:es1.size=es.size+1:=by rw[<-WA,lp.length_eq];simp
  have b2:es1.size < OB:=L8
  have l2:n6 w=true\/t1.led=true:=by rw[ll];exact l1
  have gw:∀(b:Bool)(s₁:M6)(Q':Unit->M6->Prop),Q' () s₁->MD (MK P w) A (match b with|true=>rule "set.scan.the-table-gave-way" |false=>pure ()) Q' E s₁:=
   λb s₁ Q' z=>by cases b<;>first|exact MO z|exact OI z
  refine M5 (gw _ _ _ ?_);split
  ·refine M5 ?_;rw[hashByValue_scannable 8 hsc];refine MO ?_;rw[M8 (show plainKind (YJ x tk)=true from rfl)];exact Hw gw o1 x1 d1 el1 sp1 b2 lf l2 lt λh' sb S'=>MO (h h' true sb S')
  ·refine M5 (MO ?_);rw[M8 rfl];exact Hw gw o1 x1 d1 el1 sp1 b2 lf l2 lt λh' sb S'=>MO (h h' true sb S')
def rL(val:Nat->Int)(i:Nat):List Int:=((XB i).map val).foldl mO []
theorem Hx(val:Nat->Int)(i:Nat):rL val (i+1)=mO (rL val i) (val i):=by
 unfold rL;rw[QB,Ww,X4];rfl
theorem Hy(val:Nat->Int):∀i,(rL val i).length<=i
 |0=>V4 _
 |i+1=>by
  have ih:=Hy val i;rw[Hx];unfold mO;split
  ·omega
  ·simp;omega
theorem Qy{ss:List Int}(h:ss.Nodup):(mO ss x).Nodup:=by
 unfold mO;split
 ·exact h
 ·rename_i hx;refine Yl.mpr ⟨h,MC,λa ha b hb=>?_⟩;rw[WH]at hb;subst hb;intro e;subst e;exact hx ha
theorem abC:y∈mO ss x↔y∈ss\/y=x:=by
 unfold mO;split
 ·rename_i hx;exact⟨.inl,λz=>z.elim id λe=>by subst e;exact hx⟩
 ·simp
theorem Cb:∀{l ss:List Int},y∈l.foldl mO ss↔y∈ss\/y∈l
 | [],ss=>by simp
 |a::l,ss=>by rw[W8,Cb,abC,Wc];exact or_assoc
theorem Cc:∀{l ss:List Int},ss.Nodup->(l.foldl mO ss).Nodup
 | [],_,h=>h
 |a::l,_,h=>by rw[W8];exact Cc (Qy h)
theorem lT.stay{h h':Md}(x:lT P w h a ss)(k:∀o,h.get? a=some o->h'.get? a=some o):lT P w h' a ss:=
 let ⟨o,e,r⟩:=x;⟨o,k o e,r⟩
section
variable{P:N4}{w:Mp}{A:N0}{R:Result->M6->Prop}{I:L9}{fp wr:List L9}{G:Array PD->Array PD->Prop}{n:Nat}{Pv:Nat->M3->Prop}{St:Nat->M6->Prop}
theorem QA(W:WalksS P w A.in1 I fp wr G n Pv St)(S:L9)(hSf:S∉fp)(val:Nat->Int)(hval:∀i v,Pv i v->∃t,v= .int (val i) t)(hb:n+1 < OB):
 ∀(k i:Nat)(s:M6),n - i=k->i<=n->St i s->lT P w s.heap S (rL val i)->
  (∀s',Moved (S::wr) G s s'->lT P w s'.heap S (rL val n)->R (.ok (.ret .none)) s')->NS (MK P w) A (.builtin "set.update.loop" ⟨[.ref S,.ref I],[]⟩) R s:=by
 have sw:S∉wr:=λz=>hSf (W.sub _ z);have sub:∀b∈wr,b∈S::wr:=λb z=>Wu _ z;intro k
 induction k with
 |zero=>
  intro i s e1 e2 st hS q;obtain rfl:i=n:=L8
  refine Nx ZU ?_;rw[X9 Y5 _];show MD _ A.in1 (NF (.ref I) >>=_) _ _ s;exact M5 (W.done s _ _ st λs' m=>MO (q s' (m.mono sub) (hS.stay λo e=>m.heap S o sw e)))
 |succ k ih=>
  intro i s e1 e2 st hS q;have lt:i < n:=L8
  refine Nx ZU ?_;rw[X9 Y5 _];show MD _ A.in1 (NF (.ref I) >>=_) _ _ s;refine M5 (W.item i s _ _ lt st λv s' hP st' m=>?_);obtain⟨t,rfl⟩:=hval i v hP;have hS':=hS.stay (h':=s'.heap) λo e=>m.heap S o sw e;show MD _ A.in1 (NL [YJ (val i) t] (setAdd S (.int (val i) t)) >>=_) _ _ s';refine M5 (N9 ?_);unfold setAdd;refine N9 (M5 ((OA P w).pyHash (k:=val i) (intKind_is _ _ _ _) ?_));have rm:(rL val i).length+1 < OB:=by have:=Hy val i;omega
  refine Qx (s:={s' with toks:=s'.toks+1}) hS' rm λh' b sb S2=>?_;rw[<-Hx]at S2;refine MO ⟨Nw Y5 _,ih (i+1) _ L8 lt (W.frame _ s' _ _ st' (Yj _) λb hb o e=>?_) S2 λs2 m2 S3=>?_⟩
  ·rw[sb.2 b (λz:b=S=>hSf (by rw[<-z];exact hb))];exact e
  ·refine q s2 (Moved.trans W.gtrans ((m.mono sub).then_heap (Yj _) λb o hb e=>?_) m2) S3;rw[sb.2 b (λz:b=S=>hb (by rw[z];exact WR))];exact e
end
theorem lT.fresh{h:Md}(e:h.get? a=some {cls:= .type "set",dict:=none,data:= .set #[] 0 (.fresh 0 0 (!n6 w))}):lT P w h a []:=by
 refine⟨_,e,⟨rfl,rfl,rfl⟩,#[],0,_,rfl,λe he=>by simp at he,⟨[],.nil,.refl _⟩,MA,rfl,?_,mN.fresh⟩;cases hb:n6 w with
 |true=>exact .inl rfl
 |false=>exact .inr rfl
theorem aai{Q:M3->M6->Prop}
 (hh:A.handled=none)(hl:s.heap.IsList l items)(hi:N2 items.toList ss)(hb:items.size+1 < OB)
 (h:∀(h':Md) (tk:Nat),lT P w h' s.heap.objs.size (ss.foldl mO [])->(∀b o,s.heap.get? b=some o->h'.get? b=some o)->Q (.ref s.heap.objs.size) {s with heap:=h',toks:=tk}):
 MD (MK P w) A (NC (.type "set") [.ref l]) Q E s:=by
 obtain⟨c,tl,hmro⟩:=PySem.F.called_set.mro;have hmade:=PySem.F.called_set.made;have hsub:=PySem.F.called_set.sub;refine wpAny_call (codeAny_of_tree ?_);show MD _ _ (callAny (.type "set") _) _ _ _;refine MO ⟨Code.quiet_builtin _ MN,Nx PySem.F.entry_type_call ?_⟩;rw[Around.under_plain (weight_type_call_type "set" [.ref l] []) rfl];have h1:=PySem.F.called_set.notType;have h2:=PySem.F.called_set.canCreate;have hct:=PySem.F.typeCall_set_1 (.ref l)
 repeat (any_goals (first|assumption|wp_step))
 generalize hob:({cls:= .type "set",dict:=none,data:= .set #[] 0 (.fresh 0 0 (!n6 w))}:Obj)=ob;refine OS (PL (P:=P) (w:=w) (.ref l) (E:=E) (Q₁:=λu s₁=>u= .ref s.heap.objs.size/\s₁={s with heap:=s.heap.push ob}) (by subst hob;exact⟨rfl,rfl⟩)) λr s₁ hr=>?_;cases r with
 |error e=>exact hr
 |ok fl=>
  cases fl with
  |ret u=>
   obtain⟨rfl,rfl⟩:=hr;have hS:(s.heap.push ob).get? s.heap.objs.size=some ob:=Wv _ (by subst hob;rfl);have hT:Shared.TypeIs {s with heap:=s.heap.push ob} (.ref s.heap.objs.size) "set":=⟨_,hS,by subst hob;rfl⟩;have hli:=PySem.F.called_set.init.lookup;have hbi:=PySem.F.called_set.init.bind (.ref s.heap.objs.size)
   repeat (any_goals (first|assumption|wp_step))
   refine OS (codeAny_call_builtin (R:=wants (λr s₂=>r= .none/\∃h' tk,s₂={s with heap:=h',toks:=tk}/\lT P w h' s.heap.objs.size (ss.foldl mO [])/\∀b o,s.heap.get? b=some o->h'.get? b=some o) E)
    PySem.F.called_set.init.plain PySem.F.entry_set_init (check_set_init_1 hT ?_)) λr₂ s₂ hr₂=>?_
   ·obtain⟨ol,o1,c1,nl,d1⟩:=hl;obtain⟨oc,od,oda,osl⟩:=ol;simp only at c1 d1;subst c1;subst d1;have o2:(s.heap.push ob).get? l=some {cls:= .type "list",dict:=od,data:= .seq items nl,slots:=osl}:=V3 _ o1;have q1:=PySem.F.sub_list_set;have q2:=PySem.F.sub_list_frozenset;have q3:(Zk "list"==Zk "dict")=false:=MA
    have l1:(s.heap.push ob).IsList l items:=⟨_,o2,rfl,nl,rfl⟩;subst hob;unfold Builtin.«set.__init__» noKeywords Builtin.Frozenset.updateFrom;generalize hPI:pyIter=PI
    wp_walk
    subst hPI;refine QP l1 ?_;refine M5 (wpAny_runValue ?_);have ll:l < s.heap.objs.size:=Wl o1;have sz:∀ob:Obj,(s.heap.push ob).objs.size=s.heap.objs.size+1:=λ_=>Zf _ _;have n1:∀ob:Obj,l≠(s.heap.push ob).objs.size:=λ_=>by rw[sz];exact WI (Ye ll)
    have n2:∀ob:Obj,s.heap.objs.size∉[(s.heap.push ob).objs.size,l]:=λ_=>by
     rw[sz];simp only[Wc,XJ,or_false,not_or];exact⟨WI (YN _),ZM ll⟩
    have hv:∀(i:Nat)(v:M3),items[i]?=some v->∃t,v= .int ((λi:Nat=>(ss[i]?).getD 0) i) t:=λi v e=>by
     rw[<-Zv]at e;have:∀{vs:List M3}{ss:List Int},N2 vs ss->∀(i:Nat)(v:M3),vs[i]?=some v->∃t,v= .int ((ss[i]?).getD 0) t:=by
      intro vs ss x
      induction x with
      |nil=>intro i v e;simp at e
      |cons y t r ih=>
       intro i v e;cases i with
       |zero=>simp at e;exact⟨t,by rw[<-e];rfl⟩
       |succ i=>simp only[Wq]at e⊢;exact ih i v e
     exact this hi i v e
    have hm:rL (λi=>(ss[i]?).getD 0) items.size=ss.foldl mO []:=by
     have e:items.size=ss.length:=by rw[<-vJ hi,WA]
     unfold rL;rw[e];congr 1;apply Y1 MC;intro i a b;simp at a b⊢;rw[WE L8];rfl
    refine QA (PR (show A.in1.in1.in1.handled=none by simp[hh]) _ l (n1 _) items).toS s.heap.objs.size (n2 _) _ hv hb (items.size - 0) 0 _ L8 (Xe _)
     ⟨⟨_,Wv _ rfl,rfl,rfl⟩,l1.push _⟩ ?hS0 ?hR
    case hS0=>
     exact lT.fresh (V3 _ hS)
    case hR=>
     intro s' m S';rw[hm]at S';obtain⟨h',g',d',tk',os'⟩:=s';obtain rfl:g'=s.gens:=m.gens;obtain rfl:d'=s.drawn:=m.drawn;obtain rfl:os'=s.os:=m.os;show MD _ _ _ _ _ _;refine MO (MO ⟨rfl,h',tk',rfl,S',λb o e=>?_⟩);have hb1:b < s.heap.objs.size:=Wl e;refine m.heap b o ?_ (V3 _ (V3 _ e));rw[sz];simp only[Wc,XJ,or_false,not_or];exact⟨WI hb1,WI (Ye hb1)⟩
   ·cases r₂ with
    |error e=>exact hr₂
    |ok fl₂=>
     cases fl₂ with
     |ret r=>
      obtain⟨rfl,h',tk,rfl,S',k'⟩:=hr₂
      repeat (any_goals (first|assumption|wp_step))
      exact h _ _ S' k'
     |_=>exact hr₂.elim
  |_=>exact hr.elim
section
variable{P:N4}{w:Mp}{A:N0}{E:M3->M6->Prop}{s:M6}{a:L9}{o:Obj}{es:Array (Int×M3)}{ep:Nat}{t:OC}
theorem Hz{slot i:Nat}{Q:Option (M3×Nat)->M6->Prop}(hb:n6 w=false)(o1:s.heap.get? a=some o)(d1:o.data= .set es ep t)(f1:t.fits es.size=true)(hd:(!t.plain && decide (es.size > 1))=false)(hl:t.led=true)
 (h:Q (match es[Yi t.place slot]?,t.place[Yi t.place slot]? with|some (_,x),some j=>some (x,j+1)|_,_=>none) s):MD (MK P w) A (O6 a slot i ep) Q E s:=by
 unfold O6 setsByText;refine M5 (Ov o1 d1 f1 (M5 (M5 (P9 (MO ?_)))));rw[M4 (show ¬(MK P w).w.params.followText "set-order"=true from by show ¬n6 w=true;rw[hb];decide)];show MD _ _ (if (!t.plain && decide (es.size > 1))=true then _ else _) _ _ _;rw[M4 (by rw[hd];decide)];refine M5 (m:=if (!t.led && !es.isEmpty)=true then unsupported "set:maker-not-led" else pure ()) ?_;rw[M4 (by simp[hl])];exact MO (MO h)
theorem QC{ss:List Int}{Q:M3->M6->Prop}(hh:A.handled=none)(hS:lT P w s.heap a ss)
 (q:∀(I:L9) (h1:Md) (d1:Drawn) (vs:List M3) (fp wr:List L9) (n:Nat) (St:Nat->Md->Prop),(∀b u,s.heap.get? b=some u->h1.get? b=some u)->(∃ss',N2 vs ss'/\ss'.Perm ss)->n=ss.length->
  Walks P w A I fp wr n (λi v=>vs[i]?=some v) St->St 0 h1->(∀b∈fp,b=a\/s.heap.objs.size<=b)->(∀b∈wr,s.heap.objs.size<=b)->vs.length=n->(∀b∈fp,b < h1.objs.size)->Q (.ref I) {s with heap:=h1,drawn:=d1}):
 MD (MK P w) A (pyIter (.ref a)) Q E s:=by
 obtain⟨o,o1,x1,es,ep,t,d1,el,⟨ss',s1,s2⟩,b1,f1,l1,p1⟩:=hS;have hT:s.TypeIs (.ref a) "set":=⟨o,o1,x1.1⟩;have la:a < s.heap.objs.size:=Wl o1;have ln:es.size=ss.length:=by rw[<-s2.length_eq,<-vJ s1,V0,WA]
 refine wpAny_pyIter_slot hT UK (Nk UK hT PM ?_ (PySem.F.args_set_iter_1 _));unfold Builtin.«frozenset.__iter__»;refine M5 (m:=Builtin.Frozenset.slot0 _ _) (MO ?_);refine M5 (m:=Builtin.Frozenset.sizeOf a) (M5 (PX o1 d1 f1 (MO ?_)));refine M5 (m:=setDrawn a) ?_;unfold setDrawn setsByText;refine M5 (Ov o1 d1 f1 (M5 (M5 (P9 (MO (MO ?_))))));show MD _ _ (if (!(n6 w) && (!t.plain && decide (es.size > 1)))=true then _ else _) _ _ _;have lastly:∀(f:M3)(h1:Md)(d:Drawn),h1.get? a=some o->(∀I h2,h2=h1.push {cls:= .type "set_iterator",data:= .fields #[f,.int (0:Nat) 0,.ref a,.int es.size 0,.int ep 0]}->I=h1.objs.size->Q (.ref I) {s with heap:=h2,drawn:=d})->
  MD (MK P w) A.in1 (setEpoch a >>=λe=>newFields "set_iterator" [f,NY 0,.ref a,NY es.size,NY e] >>=λv=>ret v)
   (λfin s'=>∃v,fin= .done (.ret v)/\∃T' r,s'.TypeIs v T'/\typeLookup (.type T') "__next__"=pure (some r)/\Q v s') E {s with heap:=h1,drawn:=d}:=by
  intro f h1 d e1 k;refine M5 (wpAny_setEpoch_of (s:={s with heap:=h1,drawn:=d}) e1 d1 f1 ?_);refine M5 (NM (MO ?_));exact⟨_,rfl,"set_iterator",_,⟨_,Wv _ rfl,rfl⟩,qF.lookup,k _ _ rfl rfl⟩
 have szp:∀(h:Md)(ob:Obj),(h.push ob).objs.size=h.objs.size+1:=λ_ _=>Zf _ _;have n0:a≠s.heap.objs.size:=WI la;by_cases hdr:(!(n6 w) && (!t.plain && decide (es.size > 1)))=true
 ·rw[M8 hdr];refine M5 (G6 es.size (XB es.size) s _ MC λks d hp=>M5 (m:=newTuple _) (NM ?_ ?_))
  ·have lk:ks.length=es.size:=by rw[hp.length_eq,YX]
   refine lastly _ (s.heap.push _) d (V3 _ o1) λI h2 e2 eI=>?_;subst e2 eI;have k1:a≠(s.heap.push {cls:= .type "tuple",data:= .seq (ks.map λ(i:Nat)=>NY i).toArray}).objs.size:=by rw[szp];exact WI (Ye la)
   have k2:s.heap.objs.size≠(s.heap.push {cls:= .type "tuple",data:= .seq (ks.map λ(i:Nat)=>NY i).toArray}).objs.size:=by rw[szp];exact WI (YN _)
   have pm:(ks.map λk=>((es[k]?).map (·.2)).getD .none).Perm (es.toList.map (·.2)):=by
    refine(hp.map _).trans (.of_eq ?_);apply Y1 MC;intro i a b;simp at a b⊢;rw[Zc a];rfl
   obtain⟨ss2,q3,q4⟩:=xN pm s1;refine q _ _ d _ _ _ es.size _ (λb u e=>V3 _ (V3 _ e)) ⟨ss2,q3,q4.trans s2⟩ ln
    (P0 hh _ _ k1 k2 d1 f1 _ ks rfl lk (λi k e=>?_)) ⟨⟨_,Wv _ rfl,rfl,rfl⟩,V3 _ (V3 _ o1),V3 _ (Wv _ rfl)⟩ (λb hb=>?_) (λb hb=>?_) (by simp[lk]) (λb hb=>?_)
   ·have hk:k < es.size:=by
     have:=hp.mem_iff.mp (W0 e);simpa using this
    refine⟨es[k].1,es[k].2,by simp[hk],?_⟩;rw[Wm,e];simp[hk]
   ·simp only[Wc,XJ,or_false]at hb;rcases hb with rfl|rfl|rfl
    ·right;rw[szp];exact Yj _
    ·left;rfl
    ·right;exact V4 _
   ·rw[WH]at hb;rw[hb,szp];exact Yj _
   ·simp only[Wc,XJ,or_false]at hb;rw[szp,szp];rcases hb with rfl|rfl|rfl
    ·rw[szp];exact YN _
    ·exact Ye (Ye la)
    ·exact Ye (YN _)
  ·unfold sizeOk;simp[hp.length_eq];have:OB=4096:=rfl;have:MT=16777216:=by first|rfl|exact My
   omega
 ·rw[M4 hdr];refine M5 (MO ?_);have e0:s={s with heap:=s.heap,drawn:=s.drawn}:=by cases s;rfl
  show MD _ _ _ _ _ {s with heap:=s.heap,drawn:=s.drawn};refine lastly _ s.heap s.drawn o1 λI h2 e2 eI=>?_;subst e2 eI;have fpa:∀b∈[s.heap.objs.size,a],b=a\/s.heap.objs.size<=b:=λb hb=>by
   simp only[Wc,XJ,or_false]at hb;rcases hb with rfl|rfl
   ·right;exact V4 _
   ·left;rfl
  have wra:∀b∈[s.heap.objs.size],s.heap.objs.size<=b:=λb hb=>by rw[WH]at hb;rw[hb];exact V4 _
  have fpl:∀(ob:Obj),∀b∈[s.heap.objs.size,a],b < (s.heap.push ob).objs.size:=λob b hb=>by
   rw[szp];simp only[Wc,XJ,or_false]at hb;rcases hb with rfl|rfl
   ·exact YN _
   ·exact Ye la
  cases hb:n6 w with
  |true=>
   have pm:=PN (w.params.setOrder a ep) es;obtain⟨ss2,q3,q4⟩:=xN (pm.map (·.2)) s1;have lp:((Ow (w.params.setOrder a ep) es).toList.map (·.2)).length=es.size:=by rw[V0,pm.length_eq,WA]
   refine q _ _ s.drawn _ _ _ es.size _ (λb u e=>V3 _ e) ⟨ss2,q3,q4.trans s2⟩ ln
    (Ha hh _ n0 d1 f1 _ lp (λ_=>0) (λs i hi E' Q' g z=>G7 hb g d1 f1 ?_) (λs E' Q' g z=>G7 hb g d1 f1 ?_)) ⟨⟨_,Wv _ rfl,rfl,rfl⟩,V3 _ o1⟩ fpa wra lp (fpl _)
   ·have hi':i < (Ow (w.params.setOrder a ep) es).size:=by rw[<-WA,<-V0 (f:=(·.2))];exact hi
    rw[Zc hi'];simpa using z
   ·have:(Ow (w.params.setOrder a ep) es).size=es.size:=by rw[<-WA,pm.length_eq,WA]
    rw[Ud L8];exact z
  |false=>
   have hled:t.led=true:=by
    rcases l1 with l1|l1
    ·rw[hb]at l1;cases l1
    ·exact l1
   have hcd:(!t.plain && decide (es.size > 1))=false:=by
    cases hx:(!t.plain && decide (es.size > 1)) with
    |false=>rfl
    |true=>exfalso;apply hdr;rw[hb,hx];rfl
   have hpl:t.place.size=es.size:=by
    simp only[SetTable.fits,Xs,beq_iff_eq]at f1;exact f1.1
   have lp:(es.toList.map (·.2)).length=es.size:=by rw[V0,WA]
   have bel:∀i,i<=es.size->Yi t.place (if i=0 then 0 else t.place.getD (i - 1) 0+1)=i:=λi hi=>by
    by_cases h0:i=0
    ·rw[M8 h0,Qt p1.ris,h0]
    ·rw[M4 h0];have hlt:i - 1 < t.place.size:=L8
     have eg:t.place.getD (i - 1) 0=t.place[i - 1]:=by simp[Zb,hlt]
     rw[eg,Qs p1.ris hlt];omega
   refine q _ _ s.drawn _ _ _ es.size _ (λb u e=>V3 _ e) ⟨ss',s1,s2⟩ ln
    (Ha hh _ n0 d1 f1 _ lp (λi=>if i=0 then 0 else t.place.getD (i - 1) 0+1) (λs i hi E' Q' g z=>Hz hb g d1 f1 hcd hled ?_) (λs E' Q' g z=>Hz hb g d1 f1 hcd hled ?_)) ⟨⟨_,Wv _ rfl,rfl,rfl⟩,V3 _ o1⟩ fpa wra lp (fpl _)
   ·have hi':i < es.size:=by rw[<-lp];exact hi
    rw[bel i L8];have h1:es[i]?=some es[i]:=by simp[hi']
    have h2:t.place[i]?=some (t.place[i]'L8):=by simp[show i < t.place.size by omega]
    rw[h1,h2];have eg:t.place.getD (i+1 - 1) 0=t.place[i]'L8:=by simp[Zb,show i < t.place.size by omega]
    rw[M4 L8,eg]at z;simpa using z
   ·rw[bel es.size (V4 _)];rw[Ud L8];exact z
end
theorem adF{R:Result->M6->Prop}(hh:A.handled=none)(hS:lT P w s.heap a ss)(S:L9)(hSa:S≠a)(res:M3)(c₀:Nat)(l1:s.heap.get? S=some {cls:= .type "list",data:= .seq #[] c₀})(hn:ss.length<=4096)
 (hR:∀h' tk d acc c',(∀b u,b≠S->s.heap.get? b=some u->h'.get? b=some u)->h'.get? S=some {cls:= .type "list",dict:=none,data:= .seq acc c',slots:=#[]}->(∃ss',N2 acc.toList ss'/\ss'.Perm ss)->R (.ok (.ret res)) {s with heap:=h',toks:=tk,drawn:=d}):
 MD (MK P w) A.in1 (Vq (.ref S) (.ref a) res)
  (λfin s'=>match fin with | .done f=>R (.ok f) s' | .again c'=>c'.quiet=true/\NS (MK P w) A c' R s') (λe s'=>R (.error e) s') s:=by
 obtain⟨o,o1,x1,rest⟩:=id hS;have hT:s.TypeIs (.ref a) "set":=⟨o,o1,x1.1⟩;have lS:S < s.heap.objs.size:=Wl l1;unfold Vq;refine M5 (OG hT ?_);have e1:T9 (.ref S) (.ref a)=false:=by simp[T9,hSa]
 have e2:(Zk "set"==Zk "list")=false:=MA
 have e3:(Zk "set"==Zk "tuple")=false:=MA
 simp only[e1,e2,e3,Xj,WC,if_false];refine M5 (QC (A:=A.in1) hh hS λI h1 d1 vs fp wr n St k1 sv en W st hf hw hlv hfl=>?_);have nf:S∉fp:=λz=>by
  rcases hf S z with e|e
  ·exact hSa e
  ·exact absurd lS (Nat.not_lt.mpr e)
 have key:∀(h:Md)(c₁ tk:Nat),St 0 h->(∀b u,b≠S->s.heap.get? b=some u->h.get? b=some u)->
  h.get? S=some {cls:= .type "list",data:= .seq #[] c₁}->NS (MK P w) A (.builtin "list.extend.loop" ⟨[.ref S,.ref I,res],[]⟩) R {s with heap:=h,toks:=tk,drawn:=d1}:=by
  intro h c₁ tk hst hk g;refine codeAny_extend_loopS W.toS (Wy (by omega:n<=4096) MA) S nf res n 0 _ #[] c₁ rfl (Xe _) hst g (ItemsOf.nil _) λs' acc c' m gq hacc=>?_;obtain⟨h',g',d',tk',os'⟩:=s';obtain rfl:g'=s.gens:=m.gens;obtain rfl:d'=d1:=m.drawn;obtain rfl:os'=s.os:=m.os;refine hR h' tk' d' acc c' (λb u hb e=>m.heap b u (λz=>?_) (hk b u hb e)) gq ?_
  ·rcases Wc.mp z with e'|z
   ·exact hb e'
   ·exact absurd (Wl e) (Nat.not_lt.mpr (hw b z))
  ·have ea:acc.toList=vs:=by
    apply List.ext_getElem?;intro i;rcases YA i n with z|z
    ·have hz:i < acc.size:=by rw[hacc.1];exact z
     have:acc[i]?=some acc[i]:=Zc hz;rw[Zv,this,hacc.2 i _ this]
    ·rw[Yc (by rw[WA,hacc.1];exact z),Yc L8]
   rw[ea];exact sv
 have g1:=k1 S _ l1;refine M5 (N9 (aem (s:={s with heap:=h1,drawn:=d1}) ⟨o,k1 a o o1,x1.1⟩ ?_));refine QE (λ_=>?_) (λ_=>MO ⟨Nw TK _,key _ c₀ _ st (λb u _ e=>k1 b u e) g1⟩);refine M5 (OI (M5 ?_));show MD _ _ (updateSeq S (·.push .none) >>=λ_=>updateSeq S (·.pop)) _ _ {s with heap:=h1,drawn:=d1};refine M5 (PZ g1 rfl ?_);have g2:=X7 (XY (·.push Yn)) g1 rfl;refine PZ (hz:=by seq_fits) g2 rfl ?_;have g3:=X7 (XY (·.pop)) g2 rfl;refine MO ⟨Nw TK _,key _ _ _ (W.frame 0 _ _ st λb hb u e=>?_) (λb u hb e=>?_) g3⟩
 ·have hbS:b≠S:=λz=>nf (z▸hb);exact(XZ _ _ (Ne.symm hbS)).trans ((XZ _ _ (Ne.symm hbS)).trans e)
 ·exact(XZ _ _ (Ne.symm hb)).trans ((XZ _ _ (Ne.symm hb)).trans (k1 b u e))
theorem aew{R:List M3->M6->Prop}(hh:A.handled=none)(hS:lT P w s.heap a ss)(hn:ss.length<=4096)
 (h:∀(h':Md) (tk:Nat) (d:Drawn) (vs:List M3),(∀b u,s.heap.get? b=some u->h'.get? b=some u)->(∃ss',N2 vs ss'/\ss'.Perm ss)->R vs {s with heap:=h',toks:=tk,drawn:=d}):
 MD (MK P w) A (collect (.ref a)) R E s:=by
 have la:a < s.heap.objs.size:=by obtain⟨o,o1,_⟩:=id hS;exact Wl o1
 unfold collect;refine M5 (wpAny_runValue (Nx entry_proto_collect' ?_));rw[X9 PySem.F.plain_proto_collect _];refine M5 (m:=newList []) (NM ?_);refine MO ⟨Nw TR _,Nx entry_list_iadd' ?_⟩;rw[X9 TR _];have g1:(s.heap.push {cls:= .type "list",data:= .seq ([]:List M3).toArray}).get? s.heap.objs.size=some {cls:= .type "list",data:= .seq #[]}:=Wv _ rfl;have key:=adF (A:=A) (s:={s with heap:=s.heap.push {cls:= .type "list",data:= .seq ([]:List M3).toArray}})
  (R:=λ(q:Result) (s':M6)=>∃(h':Md)(tk:Nat)(d:Drawn)(acc:Array M3)(c':Nat),q= .ok (.ret (.ref s.heap.objs.size))/\s'={s with heap:=h',toks:=tk,drawn:=d}/\
   (∀b u,s.heap.get? b=some u->h'.get? b=some u)/\h'.get? s.heap.objs.size=some {cls:= .type "list",dict:=none,data:= .seq acc c',slots:=#[]}/\(∃ss',N2 acc.toList ss'/\ss'.Perm ss))
  hh (hS.stay λu e=>V3 _ e) s.heap.objs.size (ZM la) (.ref s.heap.objs.size) 0 g1 hn
  (λh' tk d acc c' hk g' hacc=>⟨h',tk,d,acc,c',rfl,rfl,λb u e=>hk b u (WI (Wl e)) (V3 _ e),g',hacc⟩)
 refine NB key (λfin s' x=>?_) λe s' x=>?_
 ·cases fin with
  |done f=>
   obtain⟨h',tk,d,acc,c',e,rfl,hk,g',hacc⟩:=x;cases e;exact M5 (m:=load s.heap.objs.size) (wpAny_load g' (MO (h h' tk d acc.toList hk hacc)))
  |again c₁=>
   refine⟨x.1,OS x.2 λq s₂ y=>?_⟩;obtain⟨h',tk,d,acc,c',rfl,rfl,hk,g',hacc⟩:=y;exact M5 (m:=load s.heap.objs.size) (wpAny_load g' (MO (h h' tk d acc.toList hk hacc)))
 ·obtain⟨_,_,_,_,_,e',_⟩:=x;cases e'
theorem aao{Q:M3->M6->Prop}(hh:A.handled=none)(hS:lT P w s.heap a ss)(hn:ss.length < 64)
 (h:∀(h' h2:Md) (tk:Nat) (d:Drawn) (out:Array M3) (e:Nat) (ss':List Int),(∀b o,s.heap.get? b=some o->h'.get? b=some o)->(∀b o,h'.get? b=some o->h2.get? b=some o)->h2.get? h'.objs.size=some (Ml "list" out e)->N2 out.toList ss'->ss'.Perm ss->ss'.Pairwise (·<=·)->Q (.ref h'.objs.size) {s with heap:=h2,toks:=tk,drawn:=d}):
 MD (MK P w) A (NC (.builtin "sorted") [.ref a]) Q E s:=by
 refine ZJ kind_sorted plain_sorted entry_sorted (args_sorted1 _) ?_;unfold Builtin.«sorted»;refine M5 (m:=checkCount "sorted" 1 1 _) (MO ?_);refine M5 (aew (A:=A.in1) hh hS L8 λh' tk d vs hk ⟨s1,sv,sp⟩=>?_);have hl:vs.length=ss.length:=by rw[vJ sv,sp.length_eq]
 refine M5 (P5 ?_);have hoL:(h'.push (Ml "list" vs.toArray 0)).get? h'.objs.size=some (Ml "list" vs.toArray 0):=Wv _ rfl;refine M5 (N9 (Nk Pu ⟨_,hoL,rfl⟩ Py (list_sort_tree (s:={s with heap:=h'.push (Ml "list" vs.toArray 0),toks:=tk,drawn:=d}) hoL sv L8 λout ss' h1 h2 h3=>?_) (args_list_sort _)));obtain⟨e,he⟩:=sortedHeap_at (n:=0) (vs:=vs) (out:=out) hoL;refine⟨_,rfl,MO ⟨_,rfl,h h' _ tk d _ e ss' hk (λb o q=>?_) he h1 (h2.trans sp) h3⟩⟩;have hlt:b < h'.objs.size:=Wl q;rw[sortedHeap_old (WI hlt) (by rw[size_push'];exact Ye hlt),Sr _ _ _ (WI hlt)];exact q
def Cd(P:N4)(w:Mp)(a:L9)(ss:List Int):HO:= .ext λh=>lT P w h a ss
theorem HA:∀{vs:List M3}{ss:List Int},N2 vs ss->aF (ss.map V.int) vs
 |_,_,.nil=>.nil
 |_,_,.cons y t r=>.cons ⟨t,rfl⟩ (HA r)
theorem aev:l6 X (.type "set") (λxs H Q=>X.calm=true/\∃(p:L9)(ss:List Int),xs=[.ref p]/\bb X.K H p (ss.map V.int)/\ss.length < 4000/\∀l,H l=none->Q (.ref l) (ai H l (Cd X.prog X.w l (ss.foldl mO [])))):=by
 intro aeK s U H xs us Q I r h;obtain⟨hc,p,ss,rfl,hq,h64,q⟩:=h;obtain⟨u,rfl,rx⟩:=mH r;cases rx;obtain⟨its,rv,pl,hz⟩:=I.list hq;have hlen:=rv.length;rw[V0]at hlen;refine aai (I.ok.hd hc) pl.isList (by simpa using B3 rv) (by have:OB=4096:=rfl;simp;omega) λh' tk S' k'=>?_;refine⟨.ref _,_,I.laid (t':=tk) (o:=Cd X.prog X.w _ (ss.foldl mO [])) k' (V4 _) ?_,rfl,q _ (I.hok.fresh (V4 _))⟩;obtain⟨o,e,_⟩:=id S';exact⟨S',⟨o,e⟩,λh1 h2 x k=>x.stay k⟩
theorem QH:l6 X (.builtin "sorted") (λxs H Q=>X.calm=true/\∃(a:L9)(ss:List Int),xs=[.ref a]/\H a=some (Cd X.prog X.w a ss)/\ss.length < 64/\∀(ns:List Int)(l:L9),ns.Perm ss->ns.Pairwise (·<=·)->H l=none->Q (.ref l) (ai H l (.lst (ns.map V.int)))):=by
 intro aeK s U H xs us Q I r h;obtain⟨hc,a,ss,rfl,ha,h64,q⟩:=h;obtain⟨u,rfl,rx⟩:=mH r;cases rx;obtain⟨hS,_⟩:=I.hok a _ ha;refine aao (I.ok.hd hc) hS h64 λh' h2 tk d out e ss' k1 k2 at2 s1 s2 s3=>?_;have hl2:ss'.length=ss.length:=s2.length_eq;have I1:af X aeK U H {s with heap:=h',toks:=tk,drawn:=d}:=(I.kept (t':=tk) k1).drw;refine⟨.ref _,_,I1.laid (t':=tk) (o:= .lst (ss'.map V.int)) k2 (V4 _) ?_,rfl,q ss' _ s2 s3 (I1.hok.fresh (V4 _))⟩;refine⟨by rw[V0,hl2];exact Wy (YT h64) MA,out.toList,e,HA s1,?_⟩;rw[at2]
def gG(t:DA):DA:=λY Q=>t Y λds=>∃ss:List Int,ds=[.list (ss.map .int)]/\ss.length < 4000/\(ss.foldl mO []).length < 64/\∀ns:List Int,(∀z,z∈ns↔z∈ss)->ns.Pairwise (· < ·)->Q (ns.map .int)
theorem QI{a:Mb}{t:DA}{np p np' p':Pos}(hc:X.calm=true)(hg:Gl X "sorted")(hm:X.mg "sorted"=none)(hv:N6 "sorted"=some (.builtin "sorted"))(hg':Gl X "set")(hm':X.mg "set"=none)(ha:PA X [a] (nG X.K H0 O0 t))
 (he:MQ [a] X.env=(false,eval a X.env)::MQ [] X.env:=by rfl)(hpl:(Mj p' (MQ [] X.env)).any (·.1)=false:=by rfl)
 (he':MQ [.Call (.Name "set" np') [a] [] p'] X.env=(false,eval (.Call (.Name "set" np') [a] [] p') X.env)::MQ [] X.env:=by rfl)(hpl':(Mj p (MQ [] X.env)).any (·.1)=false:=by rfl):
 FE X H0 O0 (.Call (.Name "sorted" np) [.Call (.Name "set" np') [a] [] p'] [] p) (gG t):=
 (dA QH hg hm hv (bj (lY aev hg' hm' P2 ha (he:=he) (hpl:=hpl)) cm he') (he:=he') (hpl:=hpl')).imp λU H Q ⟨O,Y,Qd,w,q,k⟩=>⟨O,Y,_,w,q,λds vs H1 uu s1 r1=>by
  obtain⟨ss,e,h64,hl,q1⟩:=uu;subst e;cases r1 with
  |cons h r=>
   cases r;obtain⟨a,us,rfl,h1,d1⟩:=h.lst;cases d1.intsL;refine⟨hc,a,ss,rfl,h1,h64,λl hl'=>⟨hc,l,_,rfl,aV,hl,λns l2 hp hs hl2=>?_⟩⟩;refine k _ _ _ _ (q1 ns (λz=>?_) ?_) (s1.trans (av.new hl')) hl2 (ak.ofInts _)
   ·rw[hp.mem_iff,Cb];simp
   ·have nd:ns.Nodup:=hp.nodup_iff.mpr (Cc .nil);exact(List.Pairwise.and hs nd).imp λ{a b} z=>by
     obtain⟨z1,z2⟩:=z;omega⟩
def Ce:Nat->List L7->List L7
 |_,[]=>[]
 |k,x::r=>.tuple [.int (k:Int),x]::Ce (k+1) r
def kW(t:DA)(g:DG)(tb:DS):DS:=λE Y=>t Y λds=>∃xs,ds=[.list xs]/\qC g tb E (Ce 0 xs) Y
def kX:Fa:=λds Q=>∃i j:Int,ds=[.int i,.int j]/\dj i j/\Q (.tuple [.int (i / j),.int (i % j)])
def gH:Fa:=λds Q=>∃ns:List Int,ds=[.list (ns.map .int)]/\Q (.int ns.sum)
theorem QJ:sX Z (λxs H Q=>∃(a:L9)(ns:List Int),xs=[.ref a]/\bb Z H a (ns.map V.int)/\Q (.int ns.sum) H) gH:=λH O xs ds Qd R tr hs uu k=>by
 obtain⟨ns,e,q⟩:=uu;subst e;cases hs with
 |cons h r=>
  cases r;obtain⟨a,vs,rfl,h1,d1⟩:=h.lst;cases d1.intsL;exact⟨a,ns,rfl,h1,k _ _ H q (av.refl _) (.int _)⟩
def kY:Fa:=λds Q=>∃ns:List Int,ds=[.list (ns.map .int)]/\ns≠[]/\∀M,M∈ns->(∀a∈ns,M<=a)->Q (.int M)
def kZ(c:Int->Int->Prop):L7->L7->(L7->Prop)->Prop:=λx y Q=>∃i j:Int,x= .int i/\y= .int j/\c i j/\∀r:Int,Q (.int r)
def k6(n:Nat)(t:DA):DA:=λY Q=>t Y λds=>ds.length<=1000/\Q (Wj n ds).flatten
def QK:V->List V->Hp->VK->Prop:=λx vs H Q=>∃l b xs zs,x= .ref l/\vs=[.ref b]/\H l=some (.lst xs)/\Rd H b (.lst zs)/\xs.length+zs.length<=MT/\Q .non (ai H l (.lst (xs++zs)))
theorem aey:Bq X "list.extend" QK:=by
 intro aeK s U H x vs v us Q I rx rv h;obtain⟨l,b,xs,zs,rfl,rfl,hH,hB,hz,q⟩:=h;cases rx;obtain⟨u,rfl,ru⟩:=rv.one;cases ru;obtain⟨z,its,n,r,hl,e⟩:=I.lstM hH;obtain⟨z2,its2,n2,r2,e2⟩:=hB.ok I.hok;have hl2:=r2.length;have hsz:its.toArray.size+its2.toArray.size<=MT:=by rw[Wh,Wh];omega
 have hlong:¬(!its.toArray.isEmpty && Zg (its.toArray.size+its2.toArray.size))=true:=by
  rw[FL hsz,U6];exact We
 refine OT ZT ⟨_,e,rfl⟩ PySem.F.entry_list_extend (PySem.F.args_list_extend_2 _ _)
  (Z9 l its.toArray n b its2.toArray n2 hlong (by rw[Wh];omega) L8) ⟨e,e2,?_⟩
 refine⟨.non,_,I.lset (its':=its++its2) hH e MC (r.append r2) ?_,rfl,q⟩;rw[Wt];omega
def gI(i:Nat)(t:DT):DS:=λE Y=>∃ds,Y[i]?=some (some (.o ds))/\t Y λd=>∃es,d= .list es/\ds.length+es.length<=MT/\E.nx (Y.set i (some (.o (ds++es))))
theorem Cf{apos cpos pos:Pos}(ho:PE X o (lW i))(he:DE X H0 O0 e t)(hbase:Ny o "extend" X.env (eval o X.env)=eval o X.env:=by rfl)
 (hfew:((Mj cpos (MQ [e] X.env)).all (λx=>!x.1) && (Nl cpos (Np [] X.env)).all (λx=>x.1.isSome) && decide ([e].length+([]:List Ng).length+(if ([]:List Ng).isEmpty then 0 else 1) < 30))=true:=by rfl)
 (hline:(apos.endLine==cpos.line)=true:=by rfl)(hst:MQ [e] X.env=(false,eval e X.env)::MQ [] X.env:=by rfl)(hplain:(Mj cpos (MQ [] X.env)).any (·.1)=false:=by rfl)
 (hs:N3 (.Call (.Attribute o "extend" apos) [e] [] cpos) none pos.line X.env=pure false:=by rfl):PS X (.Expr (.Call (.Attribute o "extend" apos) [e] [] cpos) pos) (bp X.K H0 O0 (gI i t)):=
 (wg (Bp Z0 ZT U2 aey ho (bj he cm hst) hbase hfew hline hst hplain) hs).imp λD U H uu=>by
  obtain⟨O,Y,E,w,⟨ds,e,q⟩,k1,k2,k3,k4⟩:=uu;obtain⟨l,vs,h,a,b,c,r⟩:=w.own e;refine⟨_,h,.inl ⟨rfl,_,bb.of c⟩,O,Y,_,w,q,λd v H1 ⟨es,ed,q1,q2⟩ s1 r1=>?_⟩;subst ed;have hl:H1 l=some (.lst vs):=s1 _ _ c;cases r1 with
  |lst h1 n r1=>
   refine⟨l,_,vs,_,rfl,rfl,hl,h1,by rw[r.length,r1.length];exact q1,?_⟩;exact k1 _ _ _ _ q2 ((w.mono s1).putO (vs:=vs) e h ((r.mono s1).append r1)) ⟨λb' o' z n=>by rw[ar (λy=>n (by rw[y];exact a))];exact s1 _ _ z,λ_ _ n=>n⟩
theorem HB{pos pos':Pos}(hN:X.N.Nodup)(hi:X.N[i]?=some x)(hx:oR X.env.scope x)(he:PU X e (ue X.K H0 O0 t))(hs:N3 e (some (.Name x pos')) pos.line X.env=pure true:=by rfl)(hf:X.fn x=true\/X.env.scope.names.lookup x=some .local:=by first|exact .inl rfl|exact .inr rfl|assumption):
 PS X (.Assign [.Name x pos'] e pos) (bp X.K H0 O0 (dQ i t)):=
 (he _ _ _ _ hN hi hx hs hf).imp λD U H ⟨O,Y,E,w,q,k1,k2,k3,k4⟩=>⟨O,Y,_,w,q,λds vs p H1 q1 s1 hp r1=>k1 _ _ _ _ q1 ((w.mono s1).setO hp r1)
  ⟨λb o e _=>(s1.trans (av.new hp)) b o e,λb e n z=>z.elim n λy=>by
   cases q:H b with
   |none=>exact e q
   |some o=>have:=s1 _ _ q;rw[y,hp]at this;cases this⟩⟩
end L2
namespace Day
def pk(y:Int):Bool:=decide (y % 400=0) || (decide (y % 4=0) && !decide (y % 100=0))
def ld(y:Int):Int:=if pk y=true then 1 else 0
def Cg:List Int:=[31,28,31,30,31,30,31,31,30,31,30,31]
def aX(y m:Int):Int:=if m=2/\pk y=true then 29 else Cg.getD (m - 1).toNat 0
def lb(y:Int):Int:=(y - 1)/ 4 - (y - 1)/ 100+(y - 1)/ 400
def cg(y:Int):Int:=365*(y - 2000)+lb y - lb 2000
def aT(y m:Int):Int:=((XB (m - 1).toNat).map λ(i:Nat)=>aX y (1+(i:Int))).sum
def pq(y m n:Int):Int:=cg y+aT y m+n - 1
structure sk (d y m n:Int):Prop where
 m1:1<=m
 m12:m<=12
 n1:1<=n
 nl:n<=aX y m
 eq:pq y m n=d
theorem QM(y:Int):0<=ld y/\ld y<=1:=by unfold ld;split<;>omega
theorem Ci(y:Int):pk y=true↔(y % 400=0\/(y % 4=0/\y % 100≠0)):=by
 unfold pk;simp
theorem Cj(hc:0 < c)(y:Int):y / c=(y - 1)/ c+if y % c=0 then 1 else 0:=by
 have e:=Int.mul_ediv_add_emod y c;have l:=TU y (Int.ne_of_gt hc);have u:=Uu y hc;generalize y / c=q at*;generalize y % c=r at*;subst e;split
 ·rename_i h;subst h;have:=((Tq (a:=c*q+0 - 1) (r:=c - 1) (q:=q - 1) hc).mpr ⟨by rw[Int.mul_sub,TC];omega,L8,L8⟩).1;rw[this];omega
 ·have:=((Tq (a:=c*q+r - 1) (r:=r - 1) (q:=q) hc).mpr ⟨L8,L8,L8⟩).1;rw[this,U5]
theorem xO(y:Int):cg (y+1)=cg y+365+ld y:=by
 have e:ld y=(if y % 4=0 then 1 else 0) - (if y % 100=0 then 1 else 0)+if y % 400=0 then 1 else 0:=by
  have a:y % 400=0->y % 100=0:=λh=>Vj (Tt ⟨4,rfl⟩ (S0 h));have b:y % 100=0->y % 4=0:=λh=>Vj (Tt ⟨25,rfl⟩ (S0 h));unfold ld pk;by_cases h1:y % 400=0
  ·simp[h1,a h1,b (a h1)]
  ·by_cases h2:y % 100=0
   ·simp[h1,h2,b h2]
   ·simp[h1,h2]
 unfold cg lb;rw[Vg,Cj (c:=4) MA y,Cj (c:=100) MA y,Cj (c:=400) MA y,e];generalize (y - 1)/ 4=p;generalize (y - 1)/ 100=q;generalize (y - 1)/ 400=r;generalize (if y % 4=0 then(1:Int) else 0)=a;generalize (if y % 100=0 then(1:Int) else 0)=b;generalize (if y % 400=0 then(1:Int) else 0)=c;generalize (2000 - 1)/ 4 - (2000 - 1)/ 100+(2000 - 1)/ 400=k;omega
theorem HC(h:a+1<=b):cg (a+1)<=cg b:=by
 obtain⟨k,rfl⟩:=Int.le.dest h;have:∀k:Nat,cg (a+1)<=cg (a+1+(k:Int)):=λk=>by
  induction k with
  |zero=>exact Int.le_of_eq (congrArg cg (U5 _).symm)
  |succ k ih=>
   refine Int.le_trans ih ?_;show _<=cg (a+1+((k:Int)+1));rw[<-Int.add_assoc,xO];have:0<=ld (a+1+(k:Int)):=by unfold ld;split<;>decide
   omega
 exact this k
theorem xP(y:Int):aX y 2=28+ld y:=by
 unfold aX ld;by_cases h:pk y=true
 ·rw[M8 ⟨rfl,h⟩,M8 h];rfl
 ·rw[M4 (λz=>h z.2),M4 h];rfl
theorem Ck(h:m≠2):aX y m=Cg.getD (m - 1).toNat 0:=by
 unfold aX;rw[M4 (λz=>h z.1)]
theorem xQ(y:Int):aX y 1=31/\aX y 3=31/\aX y 4=30/\aX y 5=31/\aX y 6=30/\aX y 7=31/\aX y 8=31/\aX y 9=30/\aX y 10=31/\aX y 11=30/\aX y 12=31:=by
 refine⟨?_,?_,?_,?_,?_,?_,?_,?_,?_,?_,?_⟩<;>(rw[Ck MA];rfl)
theorem xR{m:Int}(h1:1<=m)(h2:m<=12):m=1\/m=2\/m=3\/m=4\/m=5\/m=6\/m=7\/m=8\/m=9\/m=10\/m=11\/m=12:=by
 obtain⟨k,e⟩:=Zi (show 0<=m - 1 by omega);have e:m=(k:Int)+1:=L8
 have hk:k < 12:=L8
 have key:∀k:Fin 12,((k.1:Nat):Int)+1=1\/((k.1:Nat):Int)+1=2\/((k.1:Nat):Int)+1=3\/((k.1:Nat):Int)+1=4\/((k.1:Nat):Int)+1=5\/((k.1:Nat):Int)+1=6\/((k.1:Nat):Int)+1=7\/((k.1:Nat):Int)+1=8\/((k.1:Nat):Int)+1=9\/((k.1:Nat):Int)+1=10\/((k.1:Nat):Int)+1=11\/((k.1:Nat):Int)+1=12:=MN
 rw[e];exact key ⟨k,hk⟩
theorem HD(h1:1<=m)(h2:m<=12):28<=aX y m/\aX y m<=31:=by
 obtain⟨m1,m3,m4,m5,m6,m7,m8,m9,m10,m11,m12⟩:=xQ y;have m2:28<=aX y 2/\aX y 2<=31:=by
  have:=QM y;rw[xP];clear m1 m3 m4 m5 m6 m7 m8 m9 m10 m11 m12 h1 h2;omega
 have k:∀{z:Int},z=31\/z=30->28<=z/\z<=31:=λh=>by rcases h with h|h<;>rw[h]<;>decide
 rcases xR h1 h2 with h|h|h|h|h|h|h|h|h|h|h|h<;>subst h
 ·exact k (.inl m1)
 ·exact m2
 ·exact k (.inl m3)
 ·exact k (.inr m4)
 ·exact k (.inl m5)
 ·exact k (.inr m6)
 ·exact k (.inl m7)
 ·exact k (.inl m8)
 ·exact k (.inr m9)
 ·exact k (.inl m10)
 ·exact k (.inr m11)
 ·exact k (.inl m12)
theorem Cm(y:Int):aT y 1=0:=rfl
theorem mY(h:1<=m):aT y (m+1)=aT y m+aX y m:=by
 unfold aT;have e:(m+1 - 1).toNat=(m - 1).toNat+1:=L8
 rw[e,QB,Ww,List.sum_append];have e2:(1:Int)+(((m - 1).toNat:Nat):Int)=m:=L8
 simp only[V2,WD,Zj,List.sum_nil,e2];omega
theorem aeB(l:Int)(h:a+b=c):a+(b+l)=c+l:=L8
theorem qH(l:Int)(h:a+b=c):a+l+b=c+l:=L8
theorem Cn(y:Int):aT y 1=0/\aT y 2=31/\aT y 3=59+ld y/\aT y 4=90+ld y/\aT y 5=120+ld y/\aT y 6=151+ld y/\aT y 7=181+ld y/\aT y 8=212+ld y/\aT y 9=243+ld y/\aT y 10=273+ld y/\aT y 11=304+ld y/\aT y 12=334+ld y/\aT y 13=365+ld y:=by
 obtain⟨m1,m3,m4,m5,m6,m7,m8,m9,m10,m11,m12⟩:=xQ y;have e2:aT y 2=31:=by rw[show aT y 2=aT y 1+aX y 1 from mY (m:=1) MA,m1];rfl
 have e3:aT y 3=59+ld y:=by rw[show aT y 3=aT y 2+aX y 2 from mY (m:=2) MA,e2,xP];exact aeB _ rfl
 have e4:aT y 4=90+ld y:=by rw[show aT y 4=aT y 3+aX y 3 from mY (m:=3) MA,e3,m3];exact qH _ rfl
 have e5:aT y 5=120+ld y:=by rw[show aT y 5=aT y 4+aX y 4 from mY (m:=4) MA,e4,m4];exact qH _ rfl
 have e6:aT y 6=151+ld y:=by rw[show aT y 6=aT y 5+aX y 5 from mY (m:=5) MA,e5,m5];exact qH _ rfl
 have e7:aT y 7=181+ld y:=by rw[show aT y 7=aT y 6+aX y 6 from mY (m:=6) MA,e6,m6];exact qH _ rfl
 have e8:aT y 8=212+ld y:=by rw[show aT y 8=aT y 7+aX y 7 from mY (m:=7) MA,e7,m7];exact qH _ rfl
 have e9:aT y 9=243+ld y:=by rw[show aT y 9=aT y 8+aX y 8 from mY (m:=8) MA,e8,m8];exact qH _ rfl
 have e10:aT y 10=273+ld y:=by rw[show aT y 10=aT y 9+aX y 9 from mY (m:=9) MA,e9,m9];exact qH _ rfl
 have e11:aT y 11=304+ld y:=by rw[show aT y 11=aT y 10+aX y 10 from mY (m:=10) MA,e10,m10];exact qH _ rfl
 have e12:aT y 12=334+ld y:=by rw[show aT y 12=aT y 11+aX y 11 from mY (m:=11) MA,e11,m11];exact qH _ rfl
 have e13:aT y 13=365+ld y:=by rw[show aT y 13=aT y 12+aX y 12 from mY (m:=12) MA,e12,m12];exact qH _ rfl
 exact⟨Cm y,e2,e3,e4,e5,e6,e7,e8,e9,e10,e11,e12,e13⟩
theorem HE{y m:Int}(h1:1<=m):∀k:Nat,m+k<=13->aT y m<=aT y (m+k)
 |0,_=>by simp
 |k+1,h=>by
  have ih:=HE (y:=y) h1 k L8;have e:m+((k+1:Nat):Int)=(m+k)+1:=L8
  rw[e,mY L8];have:=HD (y:=y) (m:=m+k) L8 L8;omega
theorem Co(h1:1<=m)(h2:m<=m')(h3:m'<=13):aT y m<=aT y m':=by
 have:=HE (y:=y) h1 (m' - m).toNat L8;rw[show m+(((m' - m).toNat:Nat):Int)=m' by omega]at this;exact this
theorem Cp(h1:1<=m)(h2:m<=12):0<=aT y m/\aT y m+aX y m<=365+ld y:=by
 have a:=Co (y:=y) (m:=1) (m':=m) MA h1 L8;have b:=Co (y:=y) (m:=m+1) (m':=13) L8 L8 MA;rw[mY h1]at b;have c:=(Cn y).1;have e:=(Cn y).2.2.2.2.2.2.2.2.2.2.2.2;omega
theorem HF(h1:1<=m)(h2:m < m')(h3:m'<=12):aT y m+aX y m<=aT y m':=by
 have b:=Co (y:=y) (m:=m+1) (m':=m') L8 L8 L8;rw[mY h1]at b;exact b
theorem sk.in(h:sk d y m n):cg y<=d/\d < cg (y+1):=by
 have:=Cp (y:=y) h.m1 h.m12;have:=h.n1;have:=h.nl;have e:=h.eq;have:=xO y;unfold pq at e;omega
theorem sk.uniq(h:sk d y m n)(h':sk d y' m' n'):y=y'/\m=m'/\n=n':=by
 have a:=h.in;have b:=h'.in;have ey:y=y':=by
  rcases R5 y y' with z|z|z
  ·have:=HC (a:=y) (b:=y') L8;omega
  ·exact z
  ·have:=HC (a:=y') (b:=y) L8;omega
 subst ey;have e:=h.eq;have e':=h'.eq;unfold pq at e e';have em:m=m':=by
  rcases R5 m m' with z|z|z
  ·have:=HF (y:=y) h.m1 z h'.m12;have:=h.nl;have:=h'.n1;omega
  ·exact z
  ·have:=HF (y:=y) h'.m1 z h.m12;have:=h'.nl;have:=h.n1;omega
 subst em;exact⟨rfl,rfl,L8⟩
def uu(d:Int):Int:=
 if d < cg (2000+d*400 / 146097) then 2000+d*400 / 146097 - 1
 else if cg (2000+d*400 / 146097+1)<=d then 2000+d*400 / 146097+1
 else 2000+d*400 / 146097
theorem aeE(d:Int):cg (uu d)<=d/\d < cg (uu d+1):=by
 unfold uu;have e:2000+d*400 / 146097 - 1+1=2000+d*400 / 146097:=L8
 by_cases h:d < cg (2000+d*400 / 146097)
 ·rw[M8 h,e];refine⟨?_,h⟩;unfold cg lb at*;omega
 ·rw[M4 h];by_cases h2:cg (2000+d*400 / 146097+1)<=d
  ·rw[M8 h2];refine⟨h2,?_⟩;unfold cg lb at*;omega
  ·rw[M4 h2];omega
def xS(y m n k:Int):Int:=pq ((y*12+m - 1+k)/ 12) ((y*12+m - 1+k)% 12+1) (min n (aX ((y*12+m - 1+k)/ 12) ((y*12+m - 1+k)% 12+1)))
theorem aej(y:Int):365*(y - 2000)+(y - 2000+3)/ 4 - (y - 2000+99)/ 100+(y - 2000+399)/ 400=cg y:=by
 unfold cg lb;have key:∀{c k:Int}(q:Int),c≠0->(y - 1)=y - 2000+k+c*q->(y - 2000+k)/ c=(y - 1)/ c - q:=λ{c k} q h e=>by
  rw[e,Int.add_mul_ediv_left _ _ h,Vg]
 rw[key (c:=4) (k:=3) 499 MA L8,key (c:=100) (k:=99) 19 MA L8,key (c:=400) (k:=399) 4 MA L8,show((2000:Int) - 1)/ 4 - (2000 - 1)/ 100+(2000 - 1)/ 400=499 - 19+4 from rfl];generalize (y - 1)/ 4=p;generalize (y - 1)/ 100=q;generalize (y - 1)/ 400=r;omega
theorem length_eq(y m:Int)(h1:1<=m)(h2:m<=12):(if m=2/\(y % 4≠0\/(y % 100=0/\y % 400≠0)) then(28:Int) else [31,29,31,30,31,30,31,31,30,31,30,31].getD (m - 1).toNat 0)=aX y m:=by
 by_cases h:m=2
 ·subst h;rw[xP];unfold ld;by_cases l:pk y=true
  ·rw[M8 l,M4 (by have:=(Ci y).mp l;omega)];rfl
  ·rw[M4 l,M8 (by have:=mt (Ci y).mpr l;omega)];rfl
 ·rw[Ck h,M4 (λz=>h z.1)];rcases xR h1 h2 with z|z|z|z|z|z|z|z|z|z|z|z<;>subst z<;>first|rfl|exact absurd rfl h
def fst(M:Int):Int:=pq (M / 12) (M % 12+1) 1
def Dn(M n:Int):Int:=fst M+n - 1
end Day
namespace L2
open PySem PySem.Spec PyProof.Rows PySem.W
def d2(m:Nat):List Nat:=[48+m / 10,48+m % 10]
def k7(to:DT)(t:DT):DT:=λY Q=>to Y λx=>∃z:Str,x= .str z/\t Y λy=>∃(ys:List Str),y= .tuple (ys.map .str)/\(ys.map (·.length)).sum+ys.length*z.length<=16777216/\Q (.str (Txt.join z ys))
def k8(t:DA)(u:DT):DA:=λY Q=>t Y λds=>ds.length<=1000/\u Y λy=>∃i:Int,y= .int i/\0<=i/\i<=1000/\Q (Wj i.toNat ds).flatten
open PySem PySem.Spec PyProof.Rows PySem.W PySem.Calls
def aat(xs ys:List L7):List L7:=List.zipWith (λx y=>.tuple [x,y]) xs ys
def k9(ta:DA)(g:DG)(tc:DB)(te:DT)(k:Nat)(fr:List Nat):DA:=λY Q=>ta Y λds=>∃xs ys,ds=[.tuple xs,.tuple ys]/\xs.length=ys.length/\xs.length<=MT/\mV g tc te (bJ k fr Y) (aat xs ys) Q
def QR{α:Type}(xs:List α)(n:Nat)(y:α):List α:=xs.take n++y::xs.drop n
def lh(i:Nat)(t1 t2:DT):DS:=λE Y=>∃ds,Y[i]?=some (some (.o ds))/\t1 Y λa=>t2 Y λd=>∃n:Nat,a= .int (n:Int)/\n<=ds.length/\ds.length < 1000000/\E.nx (Y.set i (some (.o (QR ds n d))))
def c7(t:DT):DB:=λY Q=>t Y λd=>∃ds,d= .list ds/\Q (!ds.isEmpty)
theorem vK(h:DE X H0 O0 e t)(he:∀whole,isTrue e X.env whole=(do let v<-whole;Nz e.pos;NL [v] (truthy v)):=by intro _;rfl):PT X e (bZ X.K H0 O0 (c7 t)):=
 (Fj h he).imp λU H Q ⟨O,Y,Qd,w,q,k⟩=>⟨O,Y,_,w,q,λd v H' uu s r=>by
  obtain⟨ds,e,qb⟩:=uu;subst e;obtain⟨a,vs,rfl,hs,r⟩:=(Sh.dt r).lst;refine⟨_,.inl ⟨vs,hs,rfl⟩,?_⟩;have:(!vs.isEmpty)=!ds.isEmpty:=by cases r<;>rfl
  rw[this];exact k _ H' qb s⟩
theorem xT:∀{kv:List (aj×V)}{ks:List Str}{ds:List L7},kv.map (·.1)=ks.map X6->ak Z H O (kv.map (·.2)) ds->aW ks ds z=none->mr kv (.inr z)=none
 | [],_,ds,_,_,e=>rfl
 |_::_,[],ds,h,_,_=>by cases h
 |p::kv,k::ks,ds,h,hd,e=>by
  rw[V2]at hd;cases hd with
  |cons h1 h2=>
   simp only[V2,Wx]at h;obtain⟨p1,p2⟩:=p;obtain⟨rfl,h⟩:=h;unfold aW at e;by_cases hk:k=z
   ·rw[M8 hk]at e;cases e
   ·rw[M4 hk]at e;rw[uj (λq=>hk (qE.mp q))];exact xT h h2 e
def gJ(to tk:DT):DT:=λY Q=>to Y λx=>∃ks ds,x=kQ ks ds/\tk Y λy=>∃z,y= .str z/\Q ((aW ks ds z).getD .none)
theorem QS{apos cpos:Pos}(hu:X.A.units+64 < Mq)(ho:DE X H0 O0 o to)(he:DE X H0 O0 e tk)(m:M1 X o "get" apos e cpos):DE X H0 O0 (.Call (.Attribute o "get" apos) [e] [] cpos) (gJ to tk):=
 (Gv L8 ho he m).imp λU H Q uu=>by
  obtain⟨O,Y,Qd,w,q,k⟩:=uu;refine⟨O,Y,_,w,q,λx vx H1 ⟨ks,ds,ex,q1⟩ s1 r1=>?_⟩;subst ex;cases r1 with
  | @dic a ob kv ks' kp ds h e1 e2 n rr=>
   have ek:ks'=ks:=by
    have:ks'.map V8=ks.map V8:=e2.symm;exact ur this
   subst ek;refine⟨a,rfl,.inl ⟨kv,.inr ⟨_,h⟩⟩,O,Y,_,w.mono s1,q1,λy vy H2 ⟨z,ey,q2⟩ s2 r2=>?_⟩;subst ey;cases r2;refine⟨_,iB.z (k:= .inr z) (s2 _ _ h),k _ _ _ q2 (s1.trans s2) ?_⟩;cases hd:aW ks' ds z with
   |none=>rw[xT e1 rr hd];exact .non
   |some d=>
    obtain⟨v,hv,dv⟩:=vG e1 rr hd;rw[hv];exact dv.mono s2
def gK(to tk tx:DT):DT:=λY Q=>to Y λx=>∃ks ds,x=kQ ks ds/\tk Y λy=>tx Y λu=>∃z,y= .str z/\Q ((aW ks ds z).getD u)
theorem QT{apos cpos:Pos}(hu:X.A.units+64 < Mq)(ho:DE X H0 O0 o to)(he:DE X H0 O0 e tk)(hf:DE X H0 O0 f tx)(m:M2 X o "get" apos e f cpos):DE X H0 O0 (.Call (.Attribute o "get" apos) [e,f] [] cpos) (gK to tk tx):=
 (abg L8 ho he hf m).imp λU H Q uu=>by
  obtain⟨O,Y,Qd,w,q,k⟩:=uu;refine⟨O,Y,_,w,q,λx vx H1 ⟨ks,ds,ex,q1⟩ s1 r1=>?_⟩;subst ex;cases r1 with
  | @dic a ob kv ks' kp ds h e1 e2 n rr=>
   have ek:ks'=ks:=by
    have:ks'.map V8=ks.map V8:=e2.symm;exact ur this
   subst ek;refine⟨a,rfl,.inl ⟨kv,.inr ⟨_,h⟩⟩,O,Y,_,w.mono s1,q1,λy vy H2 q2 s2 r2=>?_⟩;refine⟨O,Y,_,(w.mono s1).mono s2,q2,λu vu H3 ⟨z,ey,q3⟩ s3 r3=>?_⟩;subst ey;cases r2;refine⟨_,iB.z (k:= .inr z) (s3 _ _ (s2 _ _ h)),k _ _ _ q3 ((s1.trans s2).trans s3) ?_⟩;cases hd:aW ks' ds z with
   |none=>rw[xT e1 rr hd];exact r3
   |some d=>
    obtain⟨v,hv,dv⟩:=vG e1 rr hd;rw[hv];exact(dv.mono s2).mono s3
theorem aet:typeLookup (.type "list") "keys"=pure none:=by rw[typeLookup_type,QU];kernel_rfl
theorem HG:entryFor table "dict.update.loop"=some Builtin.«dict.update.loop»:=entryFor_of_tree (by kernel_rfl)
theorem xU:plainId "dict.update.loop"=true:=MN
theorem acp{Q:Option M3->M6->Prop}(hx:s.heap.get? l=some o)(hc:o.cls= .type "list")(hdat:o.data= .seq xs k)(hd:o.dict=none)(hA:A.handled=none)
 (h:∀(h':Md) (tk:Nat),(∀b u,s.heap.get? b=some u->h'.get? b=some u)->Q none {s with heap:=h',toks:=tk}):MD (MK P w) A (getAttr? (.ref l) "keys") Q E s:=by
 obtain⟨c,dct,dat,sl⟩:=o;simp only at hc hdat hd;subst hc hdat hd;obtain⟨hp,g,d,tk,os⟩:=s;have hT:∀tk',(⟨hp,g,d,tk',os⟩:M6).TypeIs (.ref l) "list":=λ_=>⟨_,hx,rfl⟩;have f1:=sub_AttributeError;have f3:=PySem.F.slot_list_getattribute.lookup;have f4:=PySem.F.slot_list_getattribute.bind (.ref l);have f5:=am_list_getattr_none;unfold getAttr? getAttrBy? getAttrBy
 repeat (any_goals (first|assumption|exact hT _ | ((with_reducible show MD _ _ (NC (Value.builtin "list.__getattribute__") _ _) _ _ _);refine OT PySem.F.slot_list_getattribute (hT _) am_entry_list_getattribute (PySem.F.args_list_getattribute_2 _ _) (meets_getattribute_miss_list l xs k sl (VY "keys") _ aet MN) ⟨hx,hA,λh' tk' e hx'=>?_⟩)|wp_step))
 obtain⟨t',u',he⟩:=hx'.there;show MD _ _ (getattributeRaised _ _ _ _ _ _ _) _ _ _;unfold getattributeRaised
 repeat (any_goals (first|assumption|wp_step))
 exact h _ _ λb u e=>hx'.keeps b u e
def p9(val:Nat->aj×M3)(i:Nat):List (aj×M3):=((XB i).map val).foldl (λa p=>stored a p.1 p.2) []
theorem HH(val:Nat->aj×M3)(i:Nat):p9 val (i+1)=stored (p9 val i) (val i).1 (val i).2:=by
 unfold p9;rw[QB,Ww,X4];rfl
theorem QW{Z:Type} [DecidableEq Z](l:List (Z×M3))(k:Z)(v:M3):(stored l k v).length<=l.length+1:=by
 unfold stored;split<;>simp
theorem HI(val:Nat->aj×M3):∀i,(p9 val i).length<=i
 |0=>V4 _
 |i+1=>by
  have ih:=HI val i;rw[HH];have:=QW (p9 val i) (val i).1 (val i).2;omega
def vL(h:Md)(a:L9)(x y:M3):Prop:=∃o m,h.get? a=some o/\o.cls= .type "tuple"/\o.data= .seq #[x,y] m
section
variable{P:N4}{w:Mp}{A:N0}{R:Result->M6->Prop}{I:L9}{fp wr:List L9}{G:Array PD->Array PD->Prop}{n:Nat}{Pv:Nat->M3->Prop}{St:Nat->M6->Prop}
theorem aaH(W:WalksS P w A.in1 I fp wr G n Pv St)(D:L9)(hDf:D∉fp)(tp:Nat->L9)(kv:Nat->M3)(val:Nat->aj×M3)(hval:∀i v,Pv i v->v= .ref (tp i))(hk:∀i,i < n->(cK P w).is (val i).1 (kv i)=true)(hw:∀i,i < n->tp i∉D::wr)(hb:n<=MT):
 ∀(k i:Nat)(s:M6),n - i=k->i<=n->St i s->s.heap.DictOf (cK P w) D (p9 val i)->(∀j,j < n->vL s.heap (tp j) (kv j) (val j).2)->
  (∀s',Moved (D::wr) G s s'->s'.heap.DictOf (cK P w) D (p9 val n)->R (.ok (.ret .none)) s')->∀t,NS (MK P w) A (.builtin "dict.update.loop" ⟨[.ref D,.ref I,.int (i:Int) t,.none],[]⟩) R s:=by
 have sw:D∉wr:=λz=>hDf (W.sub _ z);have sub:∀b∈wr,b∈D::wr:=λb z=>Wu _ z;intro k
 induction k with
 |zero=>
  intro i s e1 e2 st hS hT q t;obtain rfl:i=n:=L8
  refine Nx HG ?_;rw[X9 xU _];show MD _ A.in1 (NF (.ref I) >>=_) _ _ s;exact M5 (W.done s _ _ st λs' m=>M5 (MO (MO (q s' (m.mono sub) (let ⟨o,es,ep,ho,r⟩:=hS;⟨o,es,ep,m.heap D o sw ho,r⟩)))))
 |succ k ih=>
  intro i s e1 e2 st hS hT q t;have lt:i < n:=L8
  refine Nx HG ?_;rw[X9 xU _];show MD _ A.in1 (NF (.ref I) >>=_) _ _ s;refine M5 (W.item i s _ _ lt st λv s' hP st' m=>?_);obtain rfl:=hval i v hP;have hS':s'.heap.DictOf (cK P w) D (p9 val i):=let ⟨o,es,ep,ho,r⟩:=hS;⟨o,es,ep,m.heap D o sw ho,r⟩
  have hT':∀j,j < n->vL s'.heap (tp j) (kv j) (val j).2:=λj hj=>let ⟨o,m2,ho,r⟩:=hT j hj;⟨o,m2,m.heap _ o (λz=>hw j hj (sub _ z)) ho,r⟩
  obtain⟨o,m2,ho,hc,hd⟩:=hT' i lt;show MD _ A.in1 (NL [W5 (tp i)] _ >>=_) _ _ s';refine M5 (N9 ?_);obtain⟨oc,od,oda,osl⟩:=o;simp only at hc hd;subst hc hd;have hTy:s'.TypeIs (.ref (tp i)) "tuple":=⟨_,ho,rfl⟩;refine M5 (Oq ?_);unfold Builtin.Dict.pairItems;refine M5 (OG hTy ?_);rw[M8 MA];refine M5 (P8 ho rfl (MO ?_));show MD _ A.in1 (NL [kv i,(val i).2] (dictSet D (kv i) (val i).2)) _ _ s';refine N9 (wpAny_dictSet_pairs (hk i lt) hS' (λh' S2 sb=>?_) (by have:=HI val i;omega));rw[<-HH]at S2;refine MO ⟨Nw xU _,ih (i+1) _ L8 lt (W.frame _ s' _ _ st' (Yj _) λb hb o e=>?_) S2 (λj hj=>?_) (λs2 m2 S3=>?_) _⟩
  ·rw[sb.2 b (λz:b=D=>hDf (by rw[<-z];exact hb))];exact e
  ·obtain⟨o,m3,ho3,r⟩:=hT' j hj;exact⟨o,m3,by rw[sb.2 _ (λz=>hw j hj (by rw[z];exact WR))];exact ho3,r⟩
  ·refine q s2 (Moved.trans W.gtrans ((m.mono sub).then_heap (Yj _) λb o hb e=>?_) m2) S3;rw[sb.2 b (λz:b=D=>hb (by rw[z];exact WR))];exact e
end
theorem abi(tp:Nat->L9)(kv:Nat->M3)(val:Nat->aj×M3){Q:M3->M6->Prop}
 (hh:A.handled=none)(hl:∃o k,s.heap.get? l=some o/\o.cls= .type "list"/\o.dict=none/\o.data= .seq items k)(hn:items.size=n)(hi:∀(i:Nat) (v:M3),items[i]?=some v->v= .ref (tp i))(hk:∀i,i < n->(cK P w).is (val i).1 (kv i)=true)(hT:∀i,i < n->vL s.heap (tp i) (kv i) (val i).2)(hb:n<=MT)
 (h:∀(h':Md) (tk:Nat),h'.DictOf (cK P w) s.heap.objs.size (p9 val n)->(∀b o,s.heap.get? b=some o->h'.get? b=some o)->Q (.ref s.heap.objs.size) {s with heap:=h',toks:=tk}):
 MD (MK P w) A (NC (.type "dict") [.ref l]) Q E s:=by
 refine callType_codes (Q₁:=λobj s₁=>obj= .ref s.heap.objs.size/\s₁={s with heap:=s.heap.push {cls:= .type "dict",data:= .dict #[]}}) PySem.F.kt_called_dict (PySem.F.kt_typeCall_dict_1 _) PySem.F.entry_dict_init (kt_code_dict_new _ ⟨rfl,rfl⟩) ?_;rintro obj s₁ ⟨rfl,rfl⟩;have hnew:(s.heap.push {cls:= .type "dict",data:= .dict #[]}).DictOf (cK P w) s.heap.objs.size []:=Vr s.heap;refine⟨hnew.typeIs,PySem.F.args_dict_init_2 _ _,?_⟩;unfold Builtin.«dict.__init__»;refine M5 ?_;unfold Builtin.Dict.selfAndRest;refine M5 (wpAny_notOrdered_dict hnew.typeIs ?_);show MD _ _ (pure (s.heap.objs.size,[W5 l])) _ _ _;refine MO ?_;show MD _ _ (TN "dict.__init__" s.heap.objs.size (.ref l) [] .none) _ _ _;unfold TN;obtain⟨o,k,ho,hc,hd,hdat⟩:=hl;have ho2:(s.heap.push {cls:= .type "dict",data:= .dict #[]}).get? l=some o:=V3 _ ho;refine M5 (OG (T:="list") ⟨_,ho2,hc⟩ ?_);rw[M8 MA];refine M5 (acp (s:={s with heap:=s.heap.push {cls:= .type "dict",data:= .dict #[]}}) ho2 hc hdat hd ?_ λh' tk hk'=>?_)
 ·simp[hh]
 ·show MD _ A.in1.in1 (rule _ >>=_) _ _ _;refine M5 (OI ?_);have o3:h'.get? l=some o:=hk' l o ho2;have l1:h'.IsList l items:=⟨_,o3,hc,k,hdat⟩;have ll:l < s.heap.objs.size:=Wl ho;have nD:s.heap.objs.size < h'.objs.size:=by
   obtain⟨od,_,_,hod,_⟩:=hnew;exact Wl (hk' _ _ hod)
  refine M5 (QP l1 ?_);refine MO ⟨Nw xU _,?_⟩;have tl:∀i,i < n->tp i < s.heap.objs.size:=λi hi=>by obtain⟨_,_,e,_⟩:=hT i hi;exact Wl e
  have hn2:items.size<=MT:=L8
  subst hn;refine aaH (A:=A.in1) (PR (show A.in1.in1.handled=none by simp[hh]) _ l (WI (Pa ll nD)) items).toS s.heap.objs.size (by simp only[Wc,XJ,or_false,not_or];exact⟨WI nD,ZM ll⟩) tp kv val hi hk ?A hn2 (items.size - 0) 0 _ L8 (Xe _)
   ⟨⟨_,Wv _ rfl,rfl,rfl⟩,l1.push _⟩ ?hS0 ?hT0 ?hR _
  case A=>
   intro i hi z;have t1:=tl i hi;simp only[Wc,XJ,or_false]at z;rcases z with z|z
   ·exact WI t1 z
   ·exact WI (Pa t1 nD) z
  case hT0=>
   intro j hj;obtain⟨u,m,e,r⟩:=hT j hj;exact⟨u,m,V3 _ (hk' _ _ (V3 _ e)),r⟩
  case hS0=>
   obtain⟨od,es,ep,hod,r⟩:=hnew;exact⟨od,es,ep,V3 _ (hk' _ _ hod),r⟩
  case hR=>
   intro s' m S';obtain⟨h2,g',d',tk',os'⟩:=s';obtain rfl:g'=s.gens:=m.gens;obtain rfl:d'=s.drawn:=m.drawn;obtain rfl:os'=s.os:=m.os;refine⟨rfl,h h2 tk' S' λb u e=>?_⟩;have hb1:b < s.heap.objs.size:=Wl e;refine m.heap b u ?_ (V3 _ (hk' _ _ (V3 _ e)));simp only[Wc,XJ,or_false,not_or];exact⟨WI hb1,WI (Pa hb1 nD)⟩
def Cq(Z:VZ)(H:Hp)(vs:List V)(kvs:List (aj×V)):Prop:=Paired (λv (p:aj×V)=>∃b,v= .ref b/\bo Z H b [kV p.1,p.2]) vs kvs
theorem HJ{aeK:List (L9×Obj)}{U:St}{s:M6}(I:af X aeK U H s):∀{vs:List V}{kvs:List (aj×V)}{its:List M3},Cq X.K H vs kvs->aF vs its->
 ∃zs:List (L9×M3×aj×M3),zs.length=its.length/\KV kvs (zs.map (·.2.2))/\its=zs.map (λz=>W5 z.1)/\∀z∈zs,(cK X.prog X.w).is z.2.2.1 z.2.1=true/\vL s.heap z.1 z.2.1 z.2.2.2
 |_,_,_,.nil,.nil=>⟨[],rfl,.nil,rfl,MC⟩
 |_,_,_,.cons (b:=p) h t,.cons r rs=>by
  obtain⟨zs,e1,e2,e3,e4⟩:=HJ I t rs;obtain⟨b,rfl,hb⟩:=h;cases r;obtain⟨its2,r2,⟨o,ho,hc,n,hd⟩,_⟩:=I.tuple hb;cases r2 with
  | @cons _ u _ _ ru r3=>
   obtain⟨x,rfl,rx⟩:=mH r3;refine⟨(b,u,p.1,x)::zs,by simp[e1],.cons ⟨rfl,rx⟩ e2,by rw[e3];rfl,λz hz=>?_⟩;rcases Wc.mp hz with e|e
   ·subst e;exact⟨rY ru,o,n,ho,hc,hd⟩
   ·exact e4 z e
theorem aas:l6 X (.type "dict") (λxs H Q=>X.calm=true/\∃a vs kvs,xs=[.ref a]/\bb X.K H a vs/\Cq X.K H vs kvs/\∀l,H l=none->Q (.ref l) (ai H l (.dK (tq [] kvs)))):=by
 intro aeK s U H xs us Q I r h;obtain⟨hc,a,vs,kvs,rfl,ha,hp,q⟩:=h;obtain⟨u,rfl,rx⟩:=mH r;cases rx;obtain⟨its,rv,⟨o,n,ho,hcl,hdi,hda⟩,hz⟩:=I.list ha;obtain⟨zs,z1,z2,z3,z4⟩:=HJ I hp rv;have ln:vs.length=its.length:=rv.length;have hk:kvs.length=zs.length:=by rw[z2.length,V0]
 let D:L9×M3×aj×M3:=(0,.none,.inl 0,.none)
 have at_:∀i,i < its.length->∃z∈zs,(zs[i]?).getD D=z:=λi hi=>by
  rw[<-z1]at hi;exact⟨zs[i],Yp hi,by rw[WE hi];rfl⟩
 refine abi (s:=s) (n:=its.length) (λi=>((zs[i]?).getD D).1) (λi=>((zs[i]?).getD D).2.1) (λi=>((zs[i]?).getD D).2.2) (I.ok.hd hc) ⟨o,n,ho,hcl,hdi,hda⟩ MC (λi v e=>?_) (λi hi=>?_) (λi hi=>?_) L8 λh' tk dd kp=>?_
 ·rw[List.getElem?_toArray,z3,Wm]at e;cases hz':zs[i]? with
  |none=>rw[hz']at e;cases e
  |some z=>rw[hz']at e;cases e;rfl
 ·obtain⟨z,hz1,e⟩:=at_ i hi;show(cK X.prog X.w).is ((zs[i]?).getD D).2.2.1 ((zs[i]?).getD D).2.1=true;rw[e];exact(z4 z hz1).1
 ·obtain⟨z,hz1,e⟩:=at_ i hi;show vL s.heap ((zs[i]?).getD D).1 ((zs[i]?).getD D).2.1 ((zs[i]?).getD D).2.2.2;rw[e];exact(z4 z hz1).2
 ·have em:p9 (λi=>((zs[i]?).getD D).2.2) its.length=merged [] (zs.map (·.2.2)):=by
   unfold p9 merged;congr 1;rw[<-z1];apply Y1 MC;intro i a b;simp at a b⊢;rw[WE L8];rfl
  rw[em]at dd;have zl:(tq [] kvs).length<=MT:=by
   have h1:=Gs kvs [];rw[WB]at h1;omega
  exact⟨.ref _,_,I.laid (t':=tk) (o:= .dK (tq [] kvs)) kp (V4 _) (Gj zl (beq_eq_false_iff_ne.mpr (Ne.symm (WI I.big))) (z2.merge .nil) dd),rfl,q _ (I.hok.fresh (V4 _))⟩
def gL(t:DA):rK:=λY Q=>t Y λds=>∃kd:List (aj×L7),ds=[.list (kd.map λp=>.tuple [pf p.1,p.2])]/\Q (kd.foldl (λa p=>mh a p.1 p.2) [])
theorem HK:∀{us:List V}{kd:List (aj×L7)},ak Z H O us (kd.map λp=>.tuple [pf p.1,p.2])->∃kv,Cq Z H us kv/\bu Z H O kv kd
 | [],[],_=>⟨[],.nil,.nil⟩
 |_::_,(k,d)::kd,.cons h r=>by
  obtain⟨kv,h1,h2⟩:=HK r;obtain⟨b,vs,rfl,hs,d2⟩:=(Sh.dt h).tup;cases d2 with
  |cons x1 x2=>
   cases x2 with
   |cons x2 x3=>
    cases x3;cases x1.key;exact⟨(k,_)::kv,.cons ⟨b,rfl,hs⟩ h1,.cons x2 h2⟩
theorem HL{a:Mb}{t:DA}{np p:Pos}(hc:X.calm=true)(hg:Gl X "dict")(hm:X.mg "dict"=none)(ha:PA X [a] (nG X.K H0 O0 t))(he:MQ [a] X.env=(false,eval a X.env)::MQ [] X.env:=by rfl)(hpl:(Mj p (MQ [] X.env)).any (·.1)=false:=by rfl):KE X H0 O0 (.Call (.Name "dict" np) [a] [] p) (gL t):=
 (lY aas hg hm Od ha (he:=he) (hpl:=hpl)).imp λU H Q uu=>by obtain⟨O,Y,Qd,w,q,k⟩:=uu;exact⟨O,Y,_,w,q,λds vs H1 uu s1 r1=>by
  obtain⟨kd,e,q1⟩:=uu;subst e;cases r1 with
  |cons h r=>
   cases r;obtain⟨a,us,rfl,h1,d1⟩:=h.lst;obtain⟨kv,p1,p2⟩:=HK d1;exact⟨hc,a,us,kv,rfl,h1,p1,λl hl=>k _ _ _ _ q1 s1 hl (p2.merge .nil)⟩⟩
theorem Dt.dicE(h:Dt Z H O v (kQ ks ds)):∃a ob kv,v= .ref a/\H a=some (.frz ob (.dK kv))/\kv.map (·.1)=ks.map X6/\¬O a/\ak Z H O (kv.map (·.2)) ds:=by
 cases h with
 | @dic a ob kv ks' kp ds h e1 e2 n rr=>
  have ek:ks'=ks:=ur e2.symm;subst ek;exact⟨a,ob,kv,rfl,h,e1,n,rr⟩
theorem HM{kv:List (aj×V)}{ks:List Str}(e1:kv.map (·.1)=ks.map X6)(r:ak Z H O (kv.map (·.2)) ds):(mr kv (.inr z)).isSome=(aW ks ds z).isSome:=by
 cases hd:aW ks ds z with
 |none=>rw[xT e1 r hd];rfl
 |some d=>
  obtain⟨v,hv,_⟩:=vG e1 r hd;rw[hv];rfl
def lq(t:DT):DA:=λY Q=>t Y λd=>∃ks ds,d=kQ ks ds/\ks.length < 64/\Q ((mL ks).map .str)
def dJ(neg:Bool)(tk to:DT):DT:=λY Q=>tk Y λy=>to Y λx=>∃z ks ds,y= .str z/\x=kQ ks ds/\Q (.bool (if neg then !(aW ks ds z).isSome else(aW ks ds z).isSome))
theorem Q0(hu:X.A.units+64 < Mq)(ho:DE X H0 O0 o to)(he:DE X H0 O0 e tk):PC X .In e o (up X.K H0 O0 (dJ false tk to)):=λaeK s U H Q I ⟨O,Y,Qd,w,q,k⟩=>
 adT L8 he ho aeK s U H Q I ⟨O,Y,_,w,q,λy uy H2 q2 s2 r2=>⟨O,Y,_,w.mono s2,q2,λx ux H3 uu s3 r3=>by
  obtain⟨z,ks,ds,ey,ex,q3⟩:=uu;subst ey ex;cases r2;obtain⟨a,ob,kv,rfl,h,e1,n,rr⟩:=r3.dicE;exact⟨a,_,rfl,iB.z (k:= .inr z) h,by rw[HM e1 rr];exact k _ _ _ q3 (s2.trans s3) (.bl _)⟩⟩⟩
theorem abd(hu:X.A.units+64 < Mq)(ho:DE X H0 O0 o to)(he:DE X H0 O0 e tk):PC X .NotIn e o (up X.K H0 O0 (dJ true tk to)):=λaeK s U H Q I ⟨O,Y,Qd,w,q,k⟩=>
 Gq L8 he ho aeK s U H Q I ⟨O,Y,_,w,q,λy uy H2 q2 s2 r2=>⟨O,Y,_,w.mono s2,q2,λx ux H3 uu s3 r3=>by
  obtain⟨z,ks,ds,ey,ex,q3⟩:=uu;subst ey ex;cases r2;obtain⟨a,ob,kv,rfl,h,e1,n,rr⟩:=r3.dicE;exact⟨a,_,rfl,iB.z (k:= .inr z) h,by rw[HM e1 rr];exact k _ _ _ q3 (s2.trans s3) (.bl _)⟩⟩⟩
theorem abu(hu:X.A.units+64 < Mq)(ho:DE X H0 O0 o to)(he:DE X H0 O0 e tk)(hm:Nb .In o=false:=by rfl):PT X (.Compare e [.In] [o] pos) (bZ X.K H0 O0 (cc (dJ false tk to))):=
 (we (Q0 hu ho he) hm).imp λU H Q uu=>by obtain⟨O,Y,Qd,w,q,k⟩:=uu;exact⟨O,Y,_,w,q,λd v H' uu s r=>by obtain⟨b,e,qb⟩:=uu;subst e;cases r;exact⟨b,rfl,k b H' qb s⟩⟩
theorem Q2(hu:X.A.units+64 < Mq)(ho:DE X H0 O0 o to)(he:DE X H0 O0 e tk)(hm:Nb .NotIn o=false:=by rfl):PT X (.Compare e [.NotIn] [o] pos) (bZ X.K H0 O0 (cc (dJ true tk to))):=
 (we (abd hu ho he) hm).imp λU H Q uu=>by obtain⟨O,Y,Qd,w,q,k⟩:=uu;exact⟨O,Y,_,w,q,λd v H' uu s r=>by obtain⟨b,e,qb⟩:=uu;subst e;cases r;exact⟨b,rfl,k b H' qb s⟩⟩
def Q3(tl:TE):TI:=λU H R=>tl U H λx H1=>∃a o kv,x= .ref a/\H1 a=some (.frz o (.dK kv))/\R (B4 o a kv) H1
theorem Q4(hl:PE X l tl):PI X tg l (Q3 tl):=by
 intro aeK s U H R I h;refine aA (hl aeK s U H _ I h) λv s1 ⟨x,H1,I1,r1,q1⟩=>?_;obtain⟨a,o,kv,e,ha,q⟩:=q1;subst e;cases r1;obtain⟨g,z,hd,vs,rel,o',es,ep,g',r1,r2,r3⟩:=I1.hok a _ ha;rw[g]at g';cases g';have hlen:=rel.len;have hd':(a==Nd)=false:=hd;refine wpAny_pyIter_dict hd' (knd:=cK X.prog X.w) (kvs:=vs) (ep:=ep) ⟨o,es,g,r1,r2,r3⟩ ?_;rw[hlen];refine⟨s1.heap.objs.size,[s1.heap.objs.size],_,_,_,rfl,I1.kept (t':=s1.toks) λb o e=>V3 _ e,ad8 _ a o es ep kv r2,⟨_,Wv _ rfl,rfl,rfl⟩,λb hb=>?_,q⟩;have e:b=s1.heap.objs.size:=by simpa using hb
 subst e;exact I1.fpOk (V4 _) (I1.hok.fresh (V4 _))
theorem HN:∀{kv:List (aj×V)}{ks:List Str},kv.map (·.1)=ks.map X6->ak Z H O (kv.map λp=>kV p.1) (ks.map .str)
 | [],[],_=>.nil
 |p::kv,k::ks,h=>by
  simp only[V2,Wx]at h;obtain⟨p1,p2⟩:=p;obtain⟨rfl,h⟩:=h;exact .cons (.str _) (HN h)
def lr(t:DT)(dg:DG)(tb:DS):DS:=λE Y=>t Y λd=>∃ks ds,d=kQ ks ds/\qC dg tb E (ks.map .str) Y
def lx:Fa:=λds Q=>∃ks xs,ds=[kQ ks xs]/\Q (kQ ks xs)
def lz:DT:=λ_ Q=>Q (kQ [] [])
theorem HP:PE X (.Dict [] [] pos) (λ_ H Q=>∀p o,H p=none->Q (.ref p) (ai H p (.frz o (.dK [])))):=λaeK s U H Q I h=>by
 have I1:=I.laid (a:=s.heap.objs.size) (o:= .dK []) (t':=s.toks) (λ_ _ q=>V3 _ q) (V4 _) (Gr s.heap I.big);obtain⟨o,I2⟩:=I1.fast aV;rw[Ew]at I2;exact wpAny_Dict_empty ⟨.ref s.heap.objs.size,_,I2,rfl,h _ o (I.hok.fresh (V4 _))⟩
def lA:L7->L7->(L7->Prop)->Prop:=λx y Q=>∃(ks:List Str)(ns:List Int),x=kQ ks (ns.map .int)/\y=kQ ks (ns.map .int)/\Q (.bool false)
def lB(i j:Nat):DS:=λE Y=>E.nx ((Y.set i (some (.o []))).set j (some (.o [])))
mutual
def lC:L7->Bool
 | .list ds=>nT ds
 | .tuple ds=>nT ds
 | .none=>true
 | .bool _=>true
 | .int _=>true
 | .str _=>true
 |_=>false
def nT:List L7->Bool
 | []=>true
 |d::ds=>lC d && nT ds
end
def Gp(C:L9)(H:Hp)(O O1:Ex):Prop:=∀a,O a->O1 a\/(∃o kv,H a=some (.frz o (.dK kv)))\/∃dx fs,H a=some (.ins C dx fs)
theorem Gp.ne(g:Gp C H O O1)(h:Rd H a u)(n:¬O1 a)(h1:∀kv,u≠ .dK kv)(h2:∀dx fs,u≠ .ins C dx fs)(h3:∀o kv,u≠ .frz o (.dK kv)):¬O a:=λz=>by
 rcases g a z with q|⟨o,kv,q⟩|⟨dx,fs,q⟩
 ·exact n q
 ·rcases h with h|⟨o',h⟩<;>rw[q]at h<;>cases h
  ·exact h3 _ _ rfl
  ·exact h1 _ rfl
 ·rcases h with h|⟨o',h⟩<;>rw[q]at h<;>cases h;exact h2 _ _ rfl
mutual
theorem Dt.cln(g:Gp C H O O1):∀{v:V}{d:L7},Dt Z H O1 v d->lC d=true->Dt Z H O v d
 |_,_,.non,_=>.non
 |_,_,.bl b,_=>.bl b
 |_,_,.int i,_=>.int i
 |_,_,.str x,_=>.str x
 |_,_,.tup h n r,c=>.tup h (g.ne h n (λ_ z=>nomatch z) (λ_ _ z=>nomatch z) (λ_ _ z=>nomatch z)) (ak.cln g r (by simpa [lC]using c))
 |_,_,.tupK h r,c=>.tupK h (ak.cln g r (by simpa [lC]using c))
 |_,_,.lst h n r,c=>.lst h (g.ne h n (λ_ z=>nomatch z) (λ_ _ z=>nomatch z) (λ_ _ z=>nomatch z)) (ak.cln g r (by simpa [lC]using c))
 |_,_,.pack _ _,c=>by simp[lC]at c
 |_,_,.purse _ _,c=>by simp[lC]at c
 |_,_,.dct0 _ _,c=>by simp[lC]at c
 |_,_,.obj _ _ _ _,c=>by simp[lC]at c
 |_,_,.dic _ _ _ _ _,c=>by simp[lC]at c
 |_,_,.scr _ _,c=>by simp[lC]at c
theorem ak.cln(g:Gp C H O O1):∀{vs:List V}{ds:List L7},ak Z H O1 vs ds->nT ds=true->ak Z H O vs ds
 |_,_,.nil,_=>.nil
 |_,_,.cons h r,c=>by
  rw[nT,Xs]at c;exact .cons (Dt.cln g h c.1) (ak.cln g r c.2)
end
def Cr(C:L9)(d:L7):Prop:=lC d=true\/∃C' kp ds,C'≠C/\d=nL C' kp ds/\nT ds=true
theorem Dt.clnO(g:Gp C H O O1)(h:Dt Z H O1 v d)(c:Cr C d):Dt Z H O v d:=by
 rcases c with c|⟨C',kp,ds,ne,rfl,c⟩
 ·exact h.cln g c
 ·generalize e:nL C' kp ds=x at h;cases h with
  | @obj a C2 dx fs kp' ds' h1 h2 n r=>
   simp only[nL,VS,Wx,Z6,WL,WT,WZ,and_true,true_and]at e;obtain⟨e1,e2,e3⟩:=e;have e1:C'=C2:=by exact_mod_cast e1
   subst e1 e2 e3;refine .obj h1 h2 ?_ (r.cln g c);exact g.ne (.inl h1) n (λ_ z=>nomatch z) (λ_ _ z=>by cases z;exact ne rfl) (λ_ _ z=>nomatch z)
  |_=>first|cases e|simp[nL]at e
theorem bQ.thaw(x:bQ P w H h)(e:H g=some (.frz o (.dK kv))):bQ P w (ai H g (.dK kv)) h:=λb u q=>by
 by_cases hb:b=g
 ·subst hb;rw[aV]at q;cases q;obtain⟨_,z⟩:=x b _ e;exact z
 ·rw[ar hb]at q;exact(x b u q).stay (λ_ _ _ r=>r) (λc r=>by rw[ar (λz=>by rw[z,e]at r;cases r)];exact r) (λc xs r=>by rw[ar (λz=>by rw[z,e]at r;cases r)];exact r) λc xs r=>by rw[ar (λz=>by rw[z,e]at r;cases r)];exact r
theorem af.thaw{aeK:List (L9×Obj)}{U:St}{s:M6}(I:af X aeK U H s){g:L9}{o:Obj}{kv:List (aj×V)}(e:H g=some (.frz o (.dK kv)))(hX:∀o u,X.H₀ g≠some (.frz o u)):af X aeK U (ai H g (.dK kv)) s:=by
 have ne:∀{b:L9},H b=none->b≠g:=λn z=>by rw[z,e]at n;cases n
 refine⟨I.ok,I.os,I.bare,⟨I.base.keep,I.base.slot,λb o' h1 h2 h3=>?_,I.base.there,λb xs q=>?_,λb o' u q=>?_,λb ps q=>?_⟩,I.loc,I.cell,?_,λx c q=>?_,λp hp=>?_,I.hok.thaw e,I.len⟩
 ·have:=I.base.free b o' h1 h2 h3;rw[ar (ne this)];exact this
 ·have:=I.base.tups b xs q;rw[ar (λz=>by rw[z,e]at this;cases this)];exact this
 ·have:=I.base.frzs b o' u q;rw[ar (λz=>hX o' u (by rw[<-z];exact q))];exact this
 ·obtain⟨m,this⟩:=I.base.tbls b ps q;exact⟨m,by rw[ar (λz=>by rw[z,e]at this;cases this)];exact this⟩
 ·rw[ar (ne I.free)];exact I.free
 ·rw[ar (ne (I.freeC x c q))];exact I.freeC x c q
 ·obtain⟨a,b,c⟩:=I.pin p hp;exact⟨a,by rw[ar (ne b)];exact b,c⟩
section
variable{X:Cx}{CX:nk}{k:Nat}{f C:L9}{fd:MZ}{ps:List Str}{sp:Sp}{E:XK}{x m:Str}{p pos apos:Pos}{e o:Mb}{es:List Mb}{ta:TE}{t:TA}
def Q5(X:Cx)(C:L9)(m:Str)(sp:Sp)(E:XK)(ta:TE)(t:TA):TE:=λU H Q=>ta U H λx H1=>∃a dx fs,x= .ref a/\H1 a=some (.ins C dx fs)/\fs.lookup m=none/\
 t U H1 λvs H2=>∃g u og ou gv uv,g≠u/\H2 g=some (.frz og (.dK gv))/\H2 u=some (.frz ou (.dK uv))/\(∀o z,X.H₀ g≠some (.frz o z))/\(∀o z,X.H₀ u≠some (.frz o z))/\
  sp (x::vs) (ai (ai H2 g (.dK gv)) u (.dK uv)) (λv H3=>∃gv' uv',H3 g=some (.dK gv')/\H3 u=some (.dK uv')/\∀og' ou',Q v (ai (ai H3 g (.frz og' (.dK gv'))) u (.frz ou' (.dK uv')))) E
theorem Q6{pl:Sem Bool}(he:PE X o ta)(c:lX X.K C)(hm:oT X.K C m f)(F:aB X.prog X.w X.K X.mg X.base CX k f fd ps sp)(hr:bf k X.A)(hb:l8 X.K fd ps [])(hx:pQ CX X E)(ha:PA X (e::es) t)
 (hst:MQ (e::es) X.env=(false,eval e X.env)::MQ es X.env:=by rfl)(hpl:(Mj pos (MQ es X.env)).any (·.1)=false:=by rfl)
 (ht:eval (.Call (.Attribute o m apos) (e::es) [] pos) X.env=(do
  let ov<-eval o X.env
  Nz apos.atName
  let (f,first)<-NL [ov] (OW ov m pl)
  callWith pos f first (Mj pos (MQ (e::es) X.env)) (Nl pos (Np [] X.env))):=by rfl):
 PE X (.Call (.Attribute o m apos) (e::es) [] pos) (Q5 X C m sp E ta t):=by
 intro aeK s U H Q I h;refine Zt (pl:=pl) (aA (he aeK s U H _ I h) λu s1 ⟨x,H1,I1,rx,a,dx,fs,ex,ea,l,q⟩=>?_) ht;subst ex;obtain rfl:u=W5 a:=rx;refine wB I1 ea c hm l ?_;refine ZO (first:=[.ref a]) (h₀:=X.base) I.ok.mod.kin hm.kp (aA (ha pos aeK s1 U H1 _ I1 q) λus s2 ⟨vs,H2,I2,r,q2⟩=>⟨I2.kIn,?_⟩) hst hpl;obtain⟨g,u,og,ou,gv,uv,ne,hg,hu,xg,xu,q2⟩:=q2;have I3:=(I2.thaw hg xg).thaw (g:=u) (o:=ou) (kv:=uv) (by rw[ar (Ne.symm ne)];exact hu) xu;refine aA (wG (us:= .ref a::us) (vs:= .ref a::vs) (dvs:=[]) (ds:=[]) F hr hb .nil hx I3 (.cons rfl r) (by rw[Wn];exact q2)) λv s3 z=>?_;obtain⟨y,H4,I4,ry,gv',uv',g4,u4,q4⟩:=z;obtain⟨og',I5⟩:=I4.fast g4;obtain⟨ou',I6⟩:=I5.fast (a:=u) (kv:=uv') (by rw[ar (Ne.symm ne)];exact u4);exact⟨y,_,I6,ry,q4 og' ou'⟩
end
theorem HQ{fs:List (Str×V)}{ks:List Str}(h:fs.map (λp=>V8 p.1)=ks.map V8)(hm:m∉ks):fs.lookup m=none:=by
 have e:fs.map (·.1)=ks:=by
  apply ur;rw[<-h,Wk];rfl
 subst e
 induction fs with
 |nil=>rfl
 |cons p fs ih=>
  obtain⟨g,x⟩:=p;simp only[V2,Wc,not_or]at hm;rw[WV,show(m==g)=false by simpa using hm.1];exact ih (by rw[Wk];rfl) hm.2
def uw(C:L9)(m:Str)(F:Fa)(to:DT)(t:DA):DT:=λY Q=>to Y λx=>∃(ks:List Str)(ds:List L7),x=nL C (ks.map .str) ds/\m∉ks/\t Y λes=>F (x::es) Q
theorem Q7:∀U H Q,up Z H0 O0 (uw C m F to t) U H Q->vp C m (aQ Z F) [] E (up Z H0 O0 to) (oJ Z H0 O0 t) U H Q:=
 λU H Q uu=>by obtain⟨O,Y,Qd,w,q,k⟩:=uu;exact⟨O,Y,_,w,q,λx v H1 uu s1 r1=>by
  obtain⟨ks,ds,ex,hm,q1⟩:=uu;have r0:=r1;subst ex;obtain⟨a,dx,fs,rfl,h1,h2,r⟩:=r1.objI;exact⟨a,dx,fs,rfl,h1,HQ h2.symm hm,O,Y,_,w.mono s1,q1,λes vs H2 q2 s2 r2=>⟨O,_,Qd,(w.mono (s1.trans s2)).trk,by rw[Wn];exact .cons (r0.mono s2) r2,q2,λd v H3 q3 s3 r3=>k d v H3 q3 (s1.trans (s2.trans s3)) r3⟩⟩⟩
theorem xV:∀U H Q,up Z H0 O0 (uw C m F to dE) U H Q->vp C m (aQ Z F) [] E (up Z H0 O0 to) wD U H Q:=
 λU H Q uu=>by obtain⟨O,Y,Qd,w,q,k⟩:=uu;exact⟨O,Y,_,w,q,λx v H1 uu s1 r1=>by
  obtain⟨ks,ds,ex,hm,q1⟩:=uu;have r0:=r1;subst ex;obtain⟨a,dx,fs,rfl,h1,h2,r⟩:=r1.objI;exact⟨a,dx,fs,rfl,h1,HQ h2.symm hm,O,_,Qd,(w.mono s1).trk,.cons r0 .nil,q1,λd v H3 q3 s3 r3=>k d v H3 q3 (s1.trans s3) r3⟩⟩
def tD:Dl->Bool
 | []=>true
 |some (.r _ _ _ _ _ _ _)::_=>false
 |_::r=>tD r
theorem HR:∀{Y:Dl}{j:Nat},tD Y=true->Y[j]?≠some (some (.r l C g u fd gd ud))
 | [],_,_,z=>by simp at z
 |y::r,0,h,z=>by
  simp at z;subst z;simp[tD]at h
 |y::r,j+1,h,z=>by
  have h':tD r=true:=by
   unfold tD at h;split at h
   ·rename_i q;cases q
   ·cases h
   ·rename_i q;cases q;exact h
  exact HR (Y:=r) (j:=j) h' (by simpa using z)
section
variable{Z:VZ}{H0 H H':Hp}{O0 O:Ex}{U:St}{Y:Dl}
theorem oV.goN(h:oV Z H O0 O x y)(nr:∀l C g u fd gd ud,y≠some (.r l C g u fd gd ud))(S:aO H H' O O')(kp:∀l o z,y=some z->z.own->x=some (.ref l)->O l->¬O0 l->H l=some o->O' l/\H' l=some o)(kp3:∀a o,O0 a->H a=some o->H' a=some o):oV Z H' O0 O' x y:=by
 match y,h with
 |none,_=>exact X8
 |some (.v d),⟨v,e,r⟩=>exact⟨v,e,r.step S⟩
 |some (.o ds),⟨l,vs,e,a,b,c,r⟩=>exact⟨l,vs,e,(kp l _ _ rfl trivial e a b c).1,b,(kp l _ _ rfl trivial e a b c).2,r.step S⟩
 |some (.k ds),⟨l,vs,e,a,b,c,r⟩=>exact⟨l,vs,e,(kp l _ _ rfl trivial e a b c).1,b,(kp l _ _ rfl trivial e a b c).2,r.step S⟩
 |some (.i l C ds),⟨dx,vs,e,a,b,c,r1,r2⟩=>exact⟨dx,vs,e,(kp l _ _ rfl trivial e a b c).1,b,(kp l _ _ rfl trivial e a b c).2,r1,r2.step S⟩
 |some (.r l C g u fd gd ud),_=>exact absurd rfl (nr l C g u fd gd ud)
 |some (.b ds),⟨l,vs,e,a,c,r⟩=>exact⟨l,vs,e,a,kp3 _ _ a c,r.step S⟩
 |some (.f kd),⟨l,o,kv,e,a,c,r⟩=>exact⟨l,o,kv,e,S.out _ (by rw[c];exact λz=>nomatch z) a,S.keep _ _ c a,r.step S⟩
theorem Q8{i j:Nat}(h:j≠i):(Y.set i none)[j]?=Y[j]?:=Wg (Ne.symm h)
theorem Wd.putR(w:Wd Z H0 O0 H O U Y)(e:Y[i]?=some (some (.r l C g u fd gd ud)))(nr:tD (Y.set i none)=true)(hg:bu Z H O gv gd')(hu:bu Z H O uv ud'):
 Wd Z H0 O0 (ai (ai H g (.frz og (.dK gv))) u (.frz ou (.dK uv))) O U (Y.set i (some (.r l C g u fd gd' ud')))/\aO H (ai (ai H g (.frz og (.dK gv))) u (.frz ou (.dK uv))) O O:=by
 obtain⟨x1,x2,x3,dx,fs,og0,ou0,gv0,uv0,hl,hf,ne,⟨g1,g2,g3,_⟩,u1,u2,u3,_⟩:=w.sl i _ e;have g0:H0 g=none:=(w.new g g1).resolve_left g2;have u0:H0 u=none:=(w.new u u1).resolve_left u2;have li:i < Y.length:=(Wf.mp e).1;have at_:∀{b:L9},b≠g->b≠u->(ai (ai H g (.frz og (.dK gv))) u (.frz ou (.dK uv))) b=H b:=λh1 h2=>by rw[ar h2,ar h1]
 have S:aO H (ai (ai H g (.frz og (.dK gv))) u (.frz ou (.dK uv))) O O:=⟨λb o q n=>by rw[at_ (λz=>n (by rw[z];exact g1)) (λz=>n (by rw[z];exact u1))];exact q,λ_ _ n=>n⟩;have gg:(ai (ai H g (.frz og (.dK gv))) u (.frz ou (.dK uv))) g=some (.frz og (.dK gv)):=by rw[ar ne,aV]
 have lg:l≠g:=λz=>by rw[z,g3]at hl;cases hl
 have lu:l≠u:=λz=>by rw[z,u3]at hl;cases hl
 refine⟨⟨λb o q=>by rw[at_ (λz=>by rw[z,g0]at q;cases q) (λz=>by rw[z,u0]at q;cases q)];exact w.same b o q,w.sub,w.new,λb z=>?_,by simp[w.len],λj y q=>?_,λj k y z b e1 y1' e2 z2 e3 e4=>?_⟩,S⟩
 ·by_cases q1:b=g
  ·rw[q1,gg];exact λz=>nomatch z
  ·by_cases q2:b=u
   ·rw[q2,aV];exact λz=>nomatch z
   ·rw[at_ q1 q2];exact w.trk b z
 ·by_cases hj:j=i
  ·subst hj;rw[WM li]at q;cases q;exact⟨x1,x2,x3,dx,fs,og,ou,gv,uv,by rw[at_ lg lu];exact hl,⟨hf.1,hf.2.step S⟩,ne,⟨g1,g2,gg,hg.step S⟩,u1,u2,aV,hu.step S⟩
  ·rw[Wg (Ne.symm hj)]at q;refine(w.sl j y q).goN (λl' C' g' u' fd' gd' ud' z=>?_) S (λb o z hz ho e' a1 a2 a3=>⟨a1,?_⟩) λb o a1 a3=>?_
   ·subst z;exact HR nr (by rw[Q8 hj];exact q)
   ·subst hz;have nf:=w.nofrz q ho (nM e');rw[at_ (λz=>nf _ _ (by rw[z];exact g3)) (λz=>nf _ _ (by rw[z];exact u3))];exact a3
   ·rw[at_ (λz=>g2 (by rw[<-z];exact a1)) (λz=>u2 (by rw[<-z];exact a1))];exact a3
 ·have mU:∀{j:Nat}{y:Sl},(Y.set i (some (.r l C g u fd gd' ud')))[j]?=some (some y)->y.own->∃y',Y[j]?=some (some y')/\y'.own:=λ{j y} q hq=>by
   by_cases hj:j=i
   ·subst hj;exact⟨_,e,trivial⟩
   ·rw[Wg (Ne.symm hj)]at q;exact⟨_,q,hq⟩
  obtain⟨_,q1,r1⟩:=mU e1 y1';obtain⟨_,q2,r2⟩:=mU e2 z2;exact w.dis j k _ _ b q1 r1 q2 r2 e3 e4
theorem Wd.setR(w:Wd Z H0 O0 H O U Y){O':Ex}(sm:av H H')(sb:∀a,O a->O' a)(nw:∀a,O' a->O a\/H a=none)(tr:∀a,O' a->H' a≠none)(h1:O' l)(h2:¬O l)(R:BB Z H' O O' l C g u fd gd ud):
 Wd Z H0 O0 H' O' (U.set i (some (.ref l))) (Y.set i (some (.r l C g u fd gd ud)))/\aO H H' O O':=by
 have S:aO H H' O O':=⟨λb o e _=>sm b o e,λb hb hn z=>(nw b z).elim hn hb⟩;have hl:H l=none:=(nw l h1).resolve_left h2;have none0:∀{a:L9},H a=none->H0 a=none:=λ{a} h=>by
  cases e:H0 a with
  |none=>rfl
  |some o=>rw[w.same _ _ e]at h;cases h
 have n0:∀{a:L9},¬O a->¬O0 a:=λh z=>h (w.sub _ z);refine⟨⟨w.same.trans sm,λa z=>sb a (w.sub a z),λa z=>(nw a z).elim (w.new a) λq=>.inr (none0 q),tr,by simp[w.len],λj y e=>?_,λj k y z a e1 y1 e2 z2 e3 e4=>?_⟩,S⟩
 ·by_cases hj:j=i
  ·subst hj;have li:j < Y.length:=by
    have:=(Wf.mp e).1;simpa using this
   rw[WM li]at e;cases e;rw[WM (by rw[w.len];exact li)];obtain⟨dx,fs,og,ou,gv,uv,r1,r2,r3,⟨a1,a2,a3⟩,b1,b2,b3⟩:=R;exact⟨rfl,h1,n0 h2,dx,fs,og,ou,gv,uv,r1,r2,r3,⟨a1,n0 a2,a3⟩,b1,n0 b2,b3⟩
  ·rw[Wg (Ne.symm hj)]at e⊢;exact(w.sl j y e).go S (λl o _ _ a _ c=>⟨sb _ a,sm _ _ c⟩) (λa o u a1 _ a3=>⟨sb _ a1,sm _ _ a3⟩) λa o _ a3=>sm _ _ a3
 ·have no:∀{j:Nat}{y:Sl},j≠i->Y[j]?=some (some y)->y.own->U[j]?≠some (some (.ref l)):=λ{j y} _ e h z=>by
   obtain⟨l',x1,x2,_⟩:=w.adr e h;rw[z]at x1;cases x1;exact h2 x2
  by_cases hj:j=i
  ·by_cases hk:k=i
   ·rw[hj,hk]
   ·exfalso;rw[hj]at e3;have li:i < U.length:=by
     have:=(Wf.mp e3).1;simpa using this
    rw[WM li]at e3;cases e3;rw[Wg (Ne.symm hk)]at e2 e4;exact no hk e2 z2 e4
  ·by_cases hk:k=i
   ·exfalso;rw[hk]at e4;have li:i < U.length:=by
     have:=(Wf.mp e4).1;simpa using this
    rw[WM li]at e4;cases e4;rw[Wg (Ne.symm hj)]at e1 e3;exact no hj e1 y1 e3
   ·rw[Wg (Ne.symm hj)]at e1 e3;rw[Wg (Ne.symm hk)]at e2 e4;exact w.dis j k _ _ a e1 y1 e2 z2 e3 e4
end
def oe(m:Str)(ks:List Str):Bool:=ks.all (λk=>!(k==cT) && !(k==l9) && !(k==m)) && !(m==cT) && !(m==l9)
theorem Cs{fs gs:List (Str×V)}{m:Str}(h:∀p∈fs,p.1≠m):(fs++gs).lookup m=gs.lookup m:=by
 induction fs with
 |nil=>rfl
 |cons p fs ih=>
  obtain⟨k,v⟩:=p;have hk:k≠m:=h (k,v) WR;rw[WN,WV,show(m==k)=false by simpa using Ne.symm hk];exact ih λq hq=>h q (Wu _ hq)
theorem xW(hf:pX Z H O fs fd)(h:oe m (fd.map (·.1))=true):(∀p∈fs,p.1≠cT/\p.1≠l9/\p.1≠m)/\m≠cT/\m≠l9:=by
 unfold oe at h;simp only[Xs,Zy,WJ,beq_eq_false_iff_ne]at h;refine⟨λp hp=>?_,h.1.2,h.2⟩;have hm:p.1∈fd.map (·.1):=by rw[<-hf.1];exact Yv hp
 obtain⟨⟨a,b⟩,c⟩:=h.1.1 _ hm;exact⟨a,b,c⟩
theorem HS:cT≠l9:=MN
theorem HU(hf:pX Z H O fs fd)(h:oe m (fd.map (·.1))=true):(fs++[(cT,V.ref g),(l9,V.ref u)]).lookup cT=some (.ref g):=by
 rw[Cs λp hp=>((xW hf h).1 p hp).1];simp[WV]
theorem Q9(hf:pX Z H O fs fd)(h:oe m (fd.map (·.1))=true):(fs++[(cT,V.ref g),(l9,V.ref u)]).lookup l9=some (.ref u):=by
 rw[Cs λp hp=>((xW hf h).1 p hp).2.1,WV,show(l9==cT)=false by simpa using Ne.symm HS];simp[WV]
theorem HV(hf:pX Z H O fs fd)(h:oe m (fd.map (·.1))=true):(fs++[(cT,V.ref g),(l9,V.ref u)]).lookup m=none:=by
 obtain⟨a,b,c⟩:=xW hf h;rw[Cs λp hp=>(a p hp).2.2,WV,show(m==cT)=false by simpa using b,WV,show(m==l9)=false by simpa using c];rfl
inductive Ct(Z:VZ)(C:L9)(vs:List V)(H:Hp)(Q:VK)(E:XK):Prop
 |mk (l dx:L9) (fs:List (Str×V)) (g u:L9) (gv uv:List (aj×V)) (a:L9) (x:Str) (y z:V):vs=[.ref l,.ref a]->H l=some (.ins C dx fs)->fs.lookup cT=some (.ref g)->fs.lookup l9=some (.ref u)->g≠u->H g=some (.dK gv)->H u=some (.dK uv)->
 bo Z H a [.str x,y,z]->gv.length < MT->uv.length < MT->((z= .non/\Q .non (ai H g (.dK (putK gv (.inr x) y))))\/∃s,z= .str s/\Q .non (ai (ai H g (.dK (putK gv (.inr x) y))) u (.dK (putK uv (.inr s) (.bl true)))))->Ct Z C vs H Q E
def Cu(C:L9)(i:Nat)(m:Str)(t:DT):DS:=λE Y=>∃l g u fd gd ud,Y[i]?=some (some (.r l C g u fd gd ud))/\tD (Y.set i none)=true/\oe m (fd.map (·.1))=true/\t Y λd=>∃x y z,d= .tuple [.str x,y,z]/\gd.length < MT/\ud.length < MT/\
 ((z= .none/\E.nx (Y.set i (some (.r l C g u fd (mh gd (.inr x) y) ud))))\/∃s,z= .str s/\E.nx (Y.set i (some (.r l C g u fd (mh gd (.inr x) y) (mh ud (.inr s) (.bool true))))))
theorem HW{C f:L9}{i k:Nat}{m:Str}{o e:Mb}{t:DT}{fdt:MZ}{ps:List Str}{pl:Sem Bool}{E:XK}{apos cpos pos:Pos}(hX:∀b,H0 b=none->∀o z,X.H₀ b≠some (.frz o z))(ho:PE X o (lW i))(c:lX X.K C)(hm:oT X.K C m f)(F:aB X.prog X.w X.K X.mg X.base MX k f fdt ps (Ct X.K C))(hr:bf k X.A)(hb:l8 X.K fdt ps [])(hx:pQ MX X E)
 (he:DE X H0 O0 e t)(hst:MQ [e] X.env=(false,eval e X.env)::MQ [] X.env:=by rfl)(hpl:(Mj cpos (MQ [] X.env)).any (·.1)=false:=by rfl)
 (ht:eval (.Call (.Attribute o m apos) [e] [] cpos) X.env=(do
  let ov<-eval o X.env
  Nz apos.atName
  let (f,first)<-NL [ov] (OW ov m pl)
  callWith cpos f first (Mj cpos (MQ [e] X.env)) (Nl cpos (Np [] X.env))):=by rfl)
 (hs:N3 (.Call (.Attribute o m apos) [e] [] cpos) none pos.line X.env=pure false:=by rfl):PS X (.Expr (.Call (.Attribute o m apos) [e] [] cpos) pos) (bp X.K H0 O0 (Cu C i m t)):=
 (wg (Q6 (pl:=pl) ho c hm F hr hb hx (bj he cm hst) hst hpl ht) hs).imp λD U H uu=>by
  obtain⟨O,Y,E,w,⟨l,g,u,fd,gd,ud,ei,nr,rk,q⟩,k1,k2,k3,k4⟩:=uu;obtain⟨x1,x2,x3,dx,fs,og,ou,gv,uv,hl,hf,ne,⟨g1,g2,g3,g4⟩,u1,u2,u3,u4⟩:=w.sl i _ ei;refine⟨_,nM x1,l,dx,_,rfl,hl,HV hf rk,O,Y,_,w,q,λd v H1 ⟨x,y,z,ed,l1,l2,q1⟩ s1 r1=>?_⟩;subst ed;obtain⟨a,xs,rfl,sq,rs⟩:=(Sh.dt r1).tup;have hxs:∃y' z',xs=[.str x,y',z']/\Dt X.K H1 O y' y/\Dt X.K H1 O z' z:=by
   cases rs with
   |cons a1 r=>
    cases r with
    |cons a2 r=>
     cases r with
     |cons a3 r=>
      cases r;cases a1;exact⟨_,_,rfl,a2,a3⟩
  obtain⟨y',z',rfl,dy,dz⟩:=hxs;have w1:=w.mono s1;have hl1:=s1 _ _ hl;have g31:=s1 _ _ g3;have u31:=s1 _ _ u3;have lg:l≠g:=λz=>by rw[z,g3]at hl;cases hl
  have lu:l≠u:=λz=>by rw[z,u3]at hl;cases hl
  have ug:u≠g:=Ne.symm ne;have g0:H0 g=none:=(w.new g g1).resolve_left g2;have u0:H0 u=none:=(w.new u u1).resolve_left u2;have sqk:bo X.K (ai (ai H1 g (.dK gv)) u (.dK uv)) a [.str x,y',z']:=by
   rcases sq with(h|⟨ob,h⟩)|h
   ·exact .inl (.inl (by rw[ar (λz=>by rw[z,u31]at h;cases h),ar (λz=>by rw[z,g31]at h;cases h)];exact h))
   ·exact .inl (.inr ⟨ob,by rw[ar (λz=>by rw[z,u31]at h;cases h),ar (λz=>by rw[z,g31]at h;cases h)];exact h⟩)
   ·exact .inr h
  refine⟨g,u,og,ou,gv,uv,ne,g31,u31,hX g g0,hX u u0,l,dx,_,g,u,gv,uv,a,x,y',z',rfl,by rw[ar lu,ar lg];exact hl1,HU hf rk,Q9 hf rk,ne,by rw[ar ne,aV],aV,sqk,by rw[g4.length];exact l1,by rw[u4.length];exact l2,?_⟩;rcases q1 with⟨rfl,q1⟩|⟨s,rfl,q1⟩
  ·cases dz;refine .inl ⟨rfl,putK gv (.inr x) y',uv,aV,by rw[ar ug,aV],λog' ou'=>?_⟩;obtain⟨w2,S2⟩:=w1.putR (og:=og') (ou:=ou') (gv:=putK gv (.inr x) y') (uv:=uv) ei nr ((g4.mono s1).put (.inr x) dy) (u4.mono s1);have eh:ai (ai (ai (ai (ai H1 g (.dK gv)) u (.dK uv)) g (.dK (putK gv (.inr x) y'))) g (.frz og' (.dK (putK gv (.inr x) y')))) u (.frz ou' (.dK uv))=ai (ai H1 g (.frz og' (.dK (putK gv (.inr x) y')))) u (.frz ou' (.dK uv)):=by
    funext b;unfold ai;by_cases b1:b=u
    ·simp[b1]
    ·by_cases b2:b=g<;>simp[b1,b2]
   rw[eh];exact k1 _ _ _ _ q1 w2 (aO.trans (.same s1) S2)
  ·cases dz;refine .inr ⟨s,rfl,putK gv (.inr x) y',putK uv (.inr s) (.bl true),by rw[ar ne,aV],aV,λog' ou'=>?_⟩;obtain⟨w2,S2⟩:=w1.putR (og:=og') (ou:=ou') (gv:=putK gv (.inr x) y') (uv:=putK uv (.inr s) (.bl true)) ei nr ((g4.mono s1).put (.inr x) dy) ((u4.mono s1).put (.inr s) (.bl true));have eh:ai (ai (ai (ai (ai (ai H1 g (.dK gv)) u (.dK uv)) g (.dK (putK gv (.inr x) y'))) u (.dK (putK uv (.inr s) (.bl true)))) g (.frz og' (.dK (putK gv (.inr x) y')))) u (.frz ou' (.dK (putK uv (.inr s) (.bl true))))=ai (ai H1 g (.frz og' (.dK (putK gv (.inr x) y')))) u (.frz ou' (.dK (putK uv (.inr s) (.bl true)))):=by
    funext b;unfold ai;by_cases b1:b=u
    ·simp[b1]
    ·by_cases b2:b=g<;>simp[b1,b2]
   rw[eh];exact k1 _ _ _ _ q1 w2 (aO.trans (.same s1) S2)
abbrev Cv(C:L9)(fd:List (Str×L7))(gks uks:List Str)(gd ud:List (aj×L7)):L7:=nL C ((fd.map (·.1)++[cT,l9]).map .str) (fd.map (·.2)++[kQ gks (gd.map (·.2)),kQ uks (ud.map (·.2))])
def Cw(C:L9)(i:Nat)(m:Str)(F:Fa)(t:DA):DT:=λY Q=>∃l g u fd gd ud,Y[i]?=some (some (.r l C g u fd gd ud))/\oe m (fd.map (·.1))=true/\∃gks uks:List Str,gd.map (·.1)=gks.map X6/\ud.map (·.1)=uks.map X6/\
 t Y λes=>F (Cv C fd gks uks gd ud::es) λd=>Cr C d/\Q d
theorem aav:∀U H Q,up Z H0 O0 (Cw C i m F t) U H Q->vp C m (aQ Z F) [] E (lW i) (oJ Z H0 O0 t) U H Q:=
 λU H Q uu=>by
  obtain⟨O,Y,Qd,w,⟨l,g,u,fd,gd,ud,ei,rk,gks,uks,ek,eu,q⟩,k⟩:=uu;obtain⟨x1,x2,x3,dx,fs,og,ou,gv,uv,hl,hf,ne,⟨g1,g2,g3,g4⟩,u1,u2,u3,u4⟩:=w.sl i _ ei;refine⟨_,nM x1,l,dx,_,rfl,hl,HV hf rk,O,Y,_,w,q,λes vs H1 q1 s1 r1=>?_⟩;have o1:aO H1 H1 O (λa=>O a/\a≠l/\a≠g/\a≠u):=⟨λ_ _ z _=>z,λ_ _ n z=>n z.1⟩;refine⟨λa=>O a/\a≠l/\a≠g/\a≠u,_,_,λa z=>(w.mono s1).trk a z.1,?_,q1,λd v H2 ⟨c2,q2⟩ s2 r2=>k d v H2 q2 (s1.trans s2) (r2.clnO (C:=C) (λa z=>?_) c2)⟩
  ·rw[Wn];refine .cons (.obj (s1 _ _ hl) ?_ (λz=>z.2.1 rfl) ?_) (r1.step o1)
   ·rw[Ww,Ww,<-hf.1,Wk];rfl
   ·rw[Ww];refine((hf.2.mono s1).step o1).append (.cons (.dic (s1 _ _ g3) (by rw[g4.keys];exact ek) rfl (λz=>z.2.2.1 rfl) ((g4.vals.mono s1).step o1)) (.cons (.dic (s1 _ _ u3) (by rw[u4.keys];exact eu) rfl (λz=>z.2.2.2 rfl) ((u4.vals.mono s1).step o1)) .nil))
  ·by_cases a1:a=l
   ·exact .inr (.inr ⟨dx,_,by rw[a1];exact(s1.trans s2) _ _ hl⟩)
   ·by_cases a2:a=g
    ·exact .inr (.inl ⟨og,gv,by rw[a2];exact(s1.trans s2) _ _ g3⟩)
    ·by_cases a3:a=u
     ·exact .inr (.inl ⟨ou,uv,by rw[a3];exact(s1.trans s2) _ _ u3⟩)
     ·exact .inl ⟨z,a1,a2,a3⟩
def Cy(C:L9)(i:Nat)(tk:DT):DT:=λY Q=>tk Y λy=>∃z,y= .str z/\∃l g u fd gd ud,Y[i]?=some (some (.r l C g u fd gd ud))/\oe "mark" (fd.map (·.1))=true/\Q (.bool (!(mX gd (.inr z)).isSome))
theorem Rb(hu:X.A.units+64 < Mq)(hc:lX X.K C)(hn:NoAttr X.K C cT)(ho:PE X o (lW i))(he:DE X H0 O0 e tk)(hbs:Ny o cT X.env (eval o X.env)=eval o X.env:=by rfl):PC X .NotIn e (.Attribute o cT pos) (up X.K H0 O0 (Cy C i tk)):=λaeK s U H Q I ⟨O,Y,Qd,w,q,k⟩=>
 Gq L8 he (wC ho hbs) aeK s U H Q I ⟨O,Y,_,w,q,λy uy H2 uu s2 r2=>by
  obtain⟨z,ez,l,g,u,fd,gd,ud,ei,rk,q2⟩:=uu;subst ez;cases r2;obtain⟨x1,x2,x3,dx,fs,og,ou,gv,uv,hl,hf,ne,⟨g1,g2,g3,g4⟩,u1,u2,u3,u4⟩:=(w.mono s2).sl i _ ei;exact⟨_,nM x1,l,C,dx,_,.ref g,rfl,hl,hc,hn,HU hf rk,g,_,rfl,iB.z (k:= .inr z) g3,by rw[g4.none];exact k _ _ _ q2 s2 (.bl _)⟩⟩
theorem abX{C:L9}{i:Nat}{o e:Mb}{tk:DT}{pos pos':Pos}(hu:X.A.units+64 < Mq)(hc:lX X.K C)(hn:NoAttr X.K C cT)(ho:PE X o (lW i))(he:DE X H0 O0 e tk)(hbs:Ny o cT X.env (eval o X.env)=eval o X.env:=by rfl)(hm:Nb .NotIn (.Attribute o cT pos')=false:=by rfl):PT X (.Compare e [.NotIn] [.Attribute o cT pos'] pos) (bZ X.K H0 O0 (cc (Cy C i tk))):=
 (we (Rb hu hc hn ho he hbs) hm).imp λU H Q uu=>by obtain⟨O,Y,Qd,w,q,k⟩:=uu;exact⟨O,Y,_,w,q,λd v H' uu s r=>by obtain⟨b,e,qb⟩:=uu;subst e;cases r;exact⟨b,rfl,k b H' qb s⟩⟩
inductive xX(Z:VZ)(F:List L7->List L7->(L7->Prop)->Prop)(vs:List V)(H:Hp)(Q:VK)(E:XK):Prop
 |mk (O:Ex) (vs':List V) (l:L9) (ws:List V) (ds es:List L7) (Qd:L7->Prop):vs=vs'++[.ref l]->(∀a,O a->H a≠none)->ak Z H O vs' ds->O l->H l=some (.lst ws)->ak Z H O ws es->F ds es Qd->(∀d v H',Qd d->av H H'->Dt Z H' O v d->Q v H')->xX Z F vs H Q E
def sr(N:List Str)(ds es:List L7):Dl:=ds.map (λd=>some (.v d))++(some (.b es)::Wj (N.length - (ds.length+1)) none)
theorem HX{H:Hp}{O:Ex}(tr:∀a,O a->H a≠none)(r:ak Z H O vs ds)(ol:O l)(hl:H l=some (.lst ws))(rs:ak Z H O ws es):Wd Z H O H O (start N (vs++[.ref l])) (sr N ds es):=by
 have ln:=r.length;have at1:∀(i:Nat) y,(sr N ds es)[i]?=some y->(∃d,ds[i]?=some d/\y=some (.v d))\/(i=ds.length/\y=some (.b es))\/y=none:=λi y e=>by
  unfold sr at e;by_cases h:i < ds.length
  ·rw[XI (by simpa using h),Wm]at e;cases q:ds[i]? with
   |none=>rw[q]at e;cases e
   |some d=>rw[q]at e;exact .inl ⟨d,rfl,(Xt e).symm⟩
  ·rw[Yg (by simpa using YQ h),V0,List.getElem?_cons]at e;split at e
   ·rename_i z;exact .inr (.inl ⟨L8,(Xt e).symm⟩)
   ·rw[YH]at e;split at e
    ·exact .inr (.inr (Xt e).symm)
    ·cases e
 refine⟨av.refl _,λ_ z=>z,λ_ z=>.inl z,tr,by simp[start,sr,ln],λi y e=>?_,λi j ds' es l e1=>?_⟩
 ·rcases at1 i y e with⟨d,hd,rfl⟩|⟨rfl,rfl⟩|rfl
  ·obtain⟨v,hv,rv⟩:=r.getD hd;refine⟨v,?_,rv⟩;have hi:=(Wf.mp hv).1;unfold start;rw[XI (by simp;omega),Wm,XI hi,hv];rfl
  ·refine⟨l,ws,?_,ol,hl,rs⟩;unfold start;rw[XI (by simp;omega),Wm,Yg L8,<-ln,Xu];rfl
  ·exact X8
 ·rcases at1 i _ e1 with⟨d,_,z⟩|⟨_,z⟩|z
  ·cases z;intro h;exact h.elim
  ·cases z;intro h;exact h.elim
  ·cases z
theorem mT.okB{x qual:Str}{st:MU}{f:L9}{fd:MZ}{N ps:List Str}{k:Nat}{F:List L7->List L7->(L7->Prop)->Prop}(Fu:mT Z x qual st f fd)(S:aL N ps (aq st))(len:∀ds es Q,F ds es Q->ds.length+1=ps.length)
 (hbody:∀(cdv:M3) (A:N0) (outer:List Env) (s:M6) (H:Hp) (O:Ex) (ds es:List L7) (Q:L7->Prop) (E:XK),bf k (A.deeper (Nf qual (aq st) s.heap.objs.size f cdv))->(∀a,O a->H a≠none)->F ds es Q->
  ∃t,bE (pR MX P w Z mg base N qual (aq st) f cdv A outer s H E).nox (nK st) (bp Z H O t)/\t {nx:=λ_=>Q .none,rt:=Q} (sr N ds es)):aB P w Z mg base MX (k+1) f fd ps (xX Z F):=by
 refine Fu.ok S (λvs H Q E h=>?_) (λcdv A outer s H vs Q E hr h=>?_)
 ·obtain⟨O,vs',l,ws,ds,es,Qd,rfl,_,r,_,_,_,q,_⟩:=h;rw[Wt,r.length];exact len _ _ _ q
 ·obtain⟨O,vs',l,ws,ds,es,Qd,rfl,tr,r,ol,hl,rs,q,k⟩:=h;obtain⟨t,ht,q'⟩:=hbody cdv A outer s H O ds es Qd E hr tr q;refine⟨_,ht,O,_,_,HX tr r ol hl rs,q',λO' Y' U' H' z w' S'=>?_,λd v H' z s' r'=>k d v H' z s' r',λ_ _ _ _ z=>z.elim,λ_ _ _ _ z=>z.elim⟩;exact k _ _ _ z w'.same .non
inductive xY(Z:VZ)(C:L9)(F:List L7->List L7->(List (Str×L7)->List (aj×L7)->List (aj×L7)->Prop)->Prop) (vs:List V) (H:Hp) (Q:VK) (E:XK):Prop
 |mk (x dx:L9) (vs':List V) (l:L9) (ws:List V) (H1:Hp) (O:Ex) (ds es:List L7) (Qd:List (Str×L7)->List (aj×L7)->List (aj×L7)->Prop):vs= .ref x::(vs'++[.ref l])->H=ai (ai H1 dx (.own x)) x (.ins C dx [])->H1 x=none->H1 dx=none->dx≠x->
 (∀a,O a->H1 a≠none)->ak Z H1 O vs' ds->O l->H1 l=some (.lst ws)->ak Z H1 O ws es->F ds es Qd->
 (∀fd gd ud g u O' H',Qd fd gd ud->av H1 H'->(∀a,O a->O' a)->(∀a,O' a->O a\/H1 a=none)->(∀a,O' a->H' a≠none)->O' x->¬O x->BB Z H' O O' x C g u fd gd ud->Q .non H')->xY Z C F vs H Q E
def Cz(N:List Str)(l C:L9)(ds es:List L7):Dl:=some (.i l C [])::(sr N (.none::ds) es).tail
theorem Rf{H1:Hp}{O:Ex}(tr:∀l,O l->H1 l≠none)(r:ak Z H1 O vs ds)(ol:O l)(hl:H1 l=some (.lst ws))(rs:ak Z H1 O ws es)(hx:H1 x=none)(hdx:H1 dx=none)(ne:dx≠x):
 Wd Z H1 O (ai (ai H1 dx (.own x)) x (.ins C dx [])) (λl=>O l\/l=x) (start N (.ref x::(vs++[.ref l]))) (Cz N x C ds es):=by
 have w0:=HX (N:=N) tr (.cons .non r) ol hl rs;have w1:=w0.mono (av.new (o:=HO.own x) hdx);have hx1:(ai H1 dx (.own x)) x=none:=by rw[ar (Ne.symm ne)];exact hx
 have:=w1.setY (i:=0) (p:=x) (ho:= .ins C dx []) (y0:= .i x C []) trivial hx1 λO' S a b=>⟨dx,[],rfl,a,b,aV,rfl,.nil⟩;exact this
theorem mT.okRn{x qual:Str}{st:MU}{f C:L9}{fd:MZ}{N ps:List Str}{k:Nat}{F:List L7->List L7->(List (Str×L7)->List (aj×L7)->List (aj×L7)->Prop)->Prop}(Fu:mT Z x qual st f fd)(S:aL N ps (aq st))(len:∀ds es Q,F ds es Q->ds.length+2=ps.length)
 (hbody:∀(cdv:M3) (A:N0) (outer:List Env) (s:M6) (H H1:Hp) (O:Ex) (ds es:List L7) (Q:List (Str×L7)->List (aj×L7)->List (aj×L7)->Prop) (E:XK) (l:L9),bf k (A.deeper (Nf qual (aq st) s.heap.objs.size f cdv))->(∀a,O a->H1 a≠none)->(∀b,H1 b=none->∀o z,H b≠some (.frz o z))->F ds es Q->
  ∃t,bE (pR MX P w Z mg base N qual (aq st) f cdv A outer s H E).nox (nK st) (bp Z H1 O t)/\t {nx:=λY=>∃g u fd gd ud,Y[0]?=some (some (.r l C g u fd gd ud))/\Q fd gd ud,rt:=λ_=>False} (Cz N l C ds es)):aB P w Z mg base MX (k+1) f fd ps (xY Z C F):=by
 refine Fu.ok S (λvs H Q E h=>?_) (λcdv A outer s H vs Q E hr h=>?_)
 ·obtain⟨x,dx,vs',l,ws,H1,O,ds,es,Qd,rfl,_,_,_,_,_,r,_,_,_,q,_⟩:=h;have:=len _ _ _ q;rw[V5,Wt,r.length,Y7];omega
 ·obtain⟨x,dx,vs',l,ws,H1,O,ds,es,Qd,rfl,rfl,hx,hdx,ne,tr,r,ol,hl,rs,q,k⟩:=h;obtain⟨t,ht,q'⟩:=hbody cdv A outer s (ai (ai H1 dx (.own x)) x (.ins C dx [])) H1 O ds es Qd E x hr tr (λb hb o z=>by
   unfold ai;by_cases b1:b=x
   ·simp[b1]
   ·by_cases b2:b=dx
    ·simp[b1,b2,ne]
    ·simp[b1,b2,hb]) q
  refine⟨_,ht,_,_,_,Rf tr r ol hl rs hx hdx ne,q',λO' Y' U' H' z w' S'=>?_,λd v H' z s' r'=>z.elim,λ_ _ _ _ z=>z.elim,λ_ _ _ _ z=>z.elim⟩;obtain⟨g,u,fd,gd,ud,e,z⟩:=z;obtain⟨a1,a2,a3,R⟩:=w'.sl 0 _ e;exact k fd gd ud g u O' H' z w'.same w'.sub w'.new w'.trk a2 a3 R
def HY(C:L9)(i j:Nat)(F:List L7->List L7->(List (Str×L7)->List (aj×L7)->List (aj×L7)->Prop)->Prop)(t1 t2:DT):DS:=λE Y=>t1 Y λd1=>t2 Y λd2=>∃es,Y[j]?=some (some (.b es))/\F [d1,d2] es λfd gd ud=>∀l g u,E.nx (Y.set i (some (.r l C g u fd gd ud)))
theorem Wd.lent{Z:VZ}{U:St}{Y:Dl}(w:Wd Z H0 O0 H O U Y){j:Nat}{es:List L7}(e:Y[j]?=some (some (.b es))):∃l ws,U[j]?=some (some (.ref l))/\O0 l/\H l=some (.lst ws)/\ak Z H O ws es:=by
 obtain⟨l,ws,a,b,c,d⟩:=w.sl j _ e;exact⟨l,ws,nM a,b,c,d⟩
theorem aau{p cpos pos pos':Pos}(hN:X.N.Nodup)(hi:X.N[i]?=some x)(hxl:oR X.env.scope x)
 (M:Mk X.K C f)(Fk:aB X.prog X.w X.K X.mg X.base MX k f fdt ps (xY X.K C F))(hr:bf (k+1) X.A)(hg:Gl X y)(hm:X.mg y=some (.ref C))(hb:l8 X.K fdt ps [])(hx:pQ MX X E)(ha:DE X H0 O0 a t1)(hb2:DE X H0 O0 b t2)(hcv:PE X c (lW j))
 (hdb:(y==("__debug__":Str))=false:=by decide)(he:MQ [a,b,c] X.env=(false,eval a X.env)::MQ [b,c] X.env:=by rfl)(he2:MQ [b,c] X.env=(false,eval b X.env)::MQ [c] X.env:=by rfl)(he3:MQ [c] X.env=(false,eval c X.env)::MQ [] X.env:=by rfl)(hpl:(Mj cpos (MQ [b,c] X.env)).any (·.1)=false:=by rfl)
 (hs:N3 (.Call (.Name y p) [a,b,c] [] cpos) (some (.Name x pos')) pos.line X.env=pure false:=by rfl)(hf:X.fn x=true\/X.env.scope.names.lookup x=some .local:=by first|exact .inl rfl|exact .inr rfl|assumption):
 PS X (.Assign [.Name x pos'] (.Call (.Name y p) [a,b,c] [] cpos) pos) (bp X.K H0 O0 (HY C i j F t1 t2)):=
 (mR hN hi hxl (t6 M Fk hr hg hm hb .nil hx (bj ha (bj hb2 (bj hcv cm he3) he2) he) hdb he hpl) hs hf).imp λD U H uu=>by
  obtain⟨O,Y,E,w,q,k1,k2,k3,k4⟩:=uu;refine⟨O,Y,_,w,q,λd1 v1 H1 q1 s1 r1=>⟨O,Y,_,w.mono s1,q1,λd2 v2 H2 ⟨es,ej,q2⟩ s2 r2=>?_⟩⟩;have w2:=w.mono (s1.trans s2);obtain⟨l,ws,h1,h2,h3,h4⟩:=w2.lent ej;refine⟨_,h1,λxx dx hxx hdx ne=>⟨xx,dx,[v1,v2],l,ws,H2,O,[d1,d2],es,_,rfl,rfl,hxx,hdx,ne,w2.trk,.cons (r1.mono s2) (.cons r2 .nil),w2.sub _ h2,h3,h4,q2,λfd gd ud g u O' H' qf sm sb nw tr o1 o2 R=>⟨rfl,?_⟩⟩⟩;obtain⟨w3,S3⟩:=w2.setR (i:=i) sm sb nw tr o1 o2 R;exact k1 _ _ _ _ (qf xx g u) w3 (aO.trans (.same (s1.trans s2)) S3)
def CA(C:L9)(i:Nat)(t:DS):DS:=λE Y=>∃l fd,Y[i]?=some (some (.i l C fd))/\oe "mark" (fd.map (·.1))=true/\fd.length < 900/\∀g u,t E (Y.set i (some (.r l C g u fd [] [])))
theorem CB:∀{fs:List (Str×V)},(∀p∈fs,p.1≠f)->l7 f v fs=fs++[(f,v)]
 | [],_=>rfl
 | (g,x)::fs,h=>by
  rw[l7,M4 (h (g,x) WR),CB λp hp=>h p (Wu _ hp)];rfl
theorem Rh{rest:List MU}{p1 p2 q1 q2 r1 r2:Pos}(hc:lX X.K C)(hn1:NoAttr X.K C cT)(hn2:NoAttr X.K C l9)(ho1:PE X o1 (lW i))(ho2:PE X o2 (lW i))(h:bE X rest (bp X.K H0 O0 t))
 (hs1:N3 (.Dict [] [] p1) (some (.Attribute o1 cT q1)) r1.line X.env=pure false:=by rfl)(hs2:N3 (.Dict [] [] p2) (some (.Attribute o2 l9 q2)) r2.line X.env=pure false:=by rfl):
 bE X (.Assign [.Attribute o1 cT q1] (.Dict [] [] p1) r1:: .Assign [.Attribute o2 l9 q2] (.Dict [] [] p2) r2::rest) (bp X.K H0 O0 (CA C i t)):=
 (gW (Bj ho1 HP hs1) (gW (Bj ho2 HP hs2) h)).imp λD U H uu=>by
  obtain⟨O,Y,E,w,⟨l,fd,ei,rk,hl,q⟩,k1,k2,k3,k4⟩:=uu;obtain⟨dx,fs,x1,x2,x3,h1,hf⟩:=w.ownI ei;obtain⟨kk,_,_⟩:=xW hf rk;have lf:fs.length=fd.length:=by have:=congrArg ZD hf.1;simpa using this
  have li:i < Y.length:=(Wf.mp ei).1;intro g og hg;have lg:l≠g:=λz=>by rw[z,hg]at h1;cases h1
  refine⟨_,x1,l,C,dx,fs,rfl,by rw[ar lg];exact h1,hc,hn1,L8,?_⟩;rw[CB λp hp=>(kk p hp).1];intro u ou hu;have lu:l≠u:=λz=>by rw[z,aV]at hu;cases hu
  have gu:g≠u:=λz=>by rw[<-z,ar (Ne.symm lg),aV]at hu;cases hu
  have hu0:H u=none:=by rw[ar (Ne.symm lu),ar (Ne.symm gu)]at hu;exact hu
  refine⟨_,x1,l,C,dx,fs++[(cT,.ref g)],rfl,by rw[ar lu,aV],hc,hn2,by simp;omega,?_⟩;rw[CB λp hp=>(Wo.mp hp).elim (λz=>(kk p z).2.1) λz=>by
   simp only[WH]at z;subst z;exact HS]
  rw[XX];have eh:ai (ai (ai (ai H g (.frz og (.dK []))) l (.ins C dx (fs++[(cT,.ref g)]))) u (.frz ou (.dK []))) l (.ins C dx (fs++([(cT,.ref g)]++[(l9,.ref u)])))=ai (ai (ai H g (.frz og (.dK []))) u (.frz ou (.dK []))) l (.ins C dx (fs++[(cT,.ref g),(l9,.ref u)])):=by
   funext b;unfold ai;by_cases b1:b=l
   ·simp[b1]
   ·by_cases b2:b=u<;>simp[b1,b2]
  rw[eh];have sm:av H (ai (ai H g (.frz og (.dK []))) u (.frz ou (.dK []))):=(av.new hg).trans (av.new (by rw[ar (Ne.symm gu)];exact hu0));have w1:=w.mono sm;have g0:H0 g=none:=by
   cases e:H0 g with
   |none=>rfl
   |some o=>rw[w.same _ _ e]at hg;cases hg
  have u0:H0 u=none:=by
   cases e:H0 u with
   |none=>rfl
   |some o=>rw[w.same _ _ e]at hu0;cases hu0
  have ng:¬O g:=λz=>w.trk g z hg;have nu:¬O u:=λz=>w.trk u z hu0;generalize hH2:ai (ai H g (.frz og (.dK []))) u (.frz ou (.dK []))=H2 at sm w1⊢;have g2:H2 g=some (.frz og (.dK [])):=by rw[<-hH2,ar gu,aV]
  have u2:H2 u=some (.frz ou (.dK [])):=by rw[<-hH2,aV]
  have out:∀b,H b≠none->b≠g/\b≠u:=λb hb=>⟨λz=>hb (by rw[z];exact hg),λz=>hb (by rw[z];exact hu0)⟩;have S:aO H (ai H2 l (.ins C dx (fs++[(cT,.ref g),(l9,.ref u)]))) O (λa=>O a\/a=g\/a=u):=⟨λb o e n=>by rw[ar (λz=>n (by rw[z];exact x2))];exact sm b o e,λb hb n z=>by
   rcases z with z|z|z
   ·exact n z
   ·exact(out b hb).1 z
   ·exact(out b hb).2 z⟩
  refine⟨λa=>O a\/a=g\/a=u,Y.set i (some (.r l C g u fd [] [])),E,⟨λb o e=>?_,λa z=>.inl (w.sub a z),λa z=>?_,λa z=>?_,by simp[w.len],λj y e=>?_,λj k y z a e1 y1 e2 z2 e3 e4=>?_⟩,q g u,λO2 δ2 σ2 H2 z2 w2 S2=>k1 O2 δ2 σ2 H2 z2 w2 (S.trans S2),k2,λO2 δ2 σ2 H2 z2 w2 S2=>k3 O2 δ2 σ2 H2 z2 w2 (S.trans S2),λO2 δ2 σ2 H2 z2 w2 S2=>k4 O2 δ2 σ2 H2 z2 w2 (S.trans S2)⟩
  ·have l0:H0 l=none:=(w.new l x2).resolve_left x3;rw[ar (λz=>by rw[z,l0]at e;cases e)];exact w1.same b o e
  ·rcases z with z|z|z
   ·exact w.new a z
   ·rw[z];exact .inr g0
   ·rw[z];exact .inr u0
  ·by_cases al:a=l
   ·rw[al,aV];exact λz=>nomatch z
   ·rw[ar al];rcases z with z|z|z
    ·exact w1.trk a z
    ·rw[z,g2];exact λz=>nomatch z
    ·rw[z,u2];exact λz=>nomatch z
  ·by_cases hj:j=i
   ·subst hj;rw[WM li]at e;cases e;exact⟨by rw[x1];rfl,.inl x2,x3,dx,fs,og,ou,[],[],aV,⟨hf.1,hf.2.step S⟩,gu,⟨.inr (.inl rfl),λz=>ng (w.sub _ z),by rw[ar (Ne.symm lg)];exact g2,.nil⟩,.inr (.inr rfl),λz=>nu (w.sub _ z),by rw[ar (Ne.symm lu)];exact u2,.nil⟩
   ·rw[Wg (Ne.symm hj)]at e;refine(w.sl j y e).go S (λb o ho' e' a1 a2 a3=>⟨.inl a1,?_⟩) (λb o z a1 a2 a3=>⟨.inl a1,?_⟩) λb o a1 a3=>?_
    ·have nb:b≠l:=λz=>by
      subst z
      match y,ho',e with
      |some z,ho',e=>exact hj (w.dis j i z _ b e (by cases z<;>first|trivial|cases ho') ei trivial (nM e') x1)
     rw[ar nb];exact sm _ _ a3
    ·rw[ar (λz=>by rw[z,h1]at a3;cases a3)];exact sm _ _ a3
    ·rw[ar (λz=>x3 (by rw[<-z];exact a1))];exact sm _ _ a3
  ·have mU:∀{j:Nat}{y:Sl},(Y.set i (some (.r l C g u fd [] [])))[j]?=some (some y)->y.own->∃y',Y[j]?=some (some y')/\y'.own:=λ{j y} q hq=>by
    by_cases hj:j=i
    ·subst hj;exact⟨_,ei,trivial⟩
    ·rw[Wg (Ne.symm hj)]at q;exact⟨_,q,hq⟩
   obtain⟨_,q1,r1⟩:=mU e1 y1;obtain⟨_,q2,r2⟩:=mU e2 z2;exact w.dis j k _ _ a q1 r1 q2 r2 e3 e4
def xZ(j:Nat)(dg:DG)(tb:DS):DS:=λE Y=>∃es,Y[j]?=some (some (.b es))/\qC dg tb E es Y
theorem Ri(h0:∀a,O0 a->H0 a≠none)(hp:OL (MK X.prog X.w) X.A X.env X.xe)(hc:X.calm=true)(hi:PE X iter (lW j))(hg:PG X tg g)(gd:GD X.K g dg)(hb:bE X body (bp X.K H0 O0 tb))(hs:∀x,NO iter X.env x=pure x:=by intro _;rfl):
 PS X (.For tg iter body [] pos) (bp X.K H0 O0 (xZ j dg tb)):=
 (vi hp hc (ve hi) hg hb hs).imp λD U H uu=>by
  obtain⟨O,Y,E,w,⟨es,ej,Iv,q0,qs,qe⟩,k1,k2,k3,k4⟩:=uu;obtain⟨l,vs,h1,h2,h3,r⟩:=w.lent ej;have hl0:H0 l=some (.lst vs):=by
   cases e:H0 l with
   |none=>exact absurd e (h0 l h2)
   |some o=>rw[w.same _ _ e]at h3;rw[h3]
  refine⟨_,h1,l,rfl,⟨vs,.inl (.inl h3)⟩,?_⟩;have S:d6 (tZ X.K l) (λH'=>uf H l H') vs:=d6.list (.inl (.inl h3));have hP:∀H',av H0 H'->uf H l H':=λH' s o e=>by rw[h3]at e;cases e;exact s _ _ hl0
  refine⟨λi m U' H'=>∃O' Y',m=vs.length - i/\i<=vs.length/\Wd X.K H0 O0 H' O' U' Y'/\aO H H' O O'/\Iv i Y',⟨vs.length,O,Y,MC,Xe _,w,aO.refl _ _,q0⟩,?_⟩;rintro i m σ1 H1 ⟨O1,δ1,rfl,hi,w1,S1,q1⟩;by_cases hlt:i < vs.length
  ·refine .inr ⟨S.go i H1 (hP _ w1.same) hlt,λU' H'=>∃O' Y',Wd X.K H0 O0 H' O' U' Y'/\aO H H' O O'/\Iv (i+1) Y',λU' H' uu=>by obtain⟨O',Y',w',S',q'⟩:=uu;exact⟨vs.length - (i+1),L8,O',Y',rfl,hlt,w',S',q'⟩,λx H' y=>?_⟩;have yy:=S.yl i H1 x H' (hP _ w1.same) hlt y;clear y;obtain⟨e,y⟩:=yy;subst e;obtain⟨d,ed,rd⟩:=r.get y;refine gd H0 O0 _ O1 σ1 δ1 x d _ _ w1 (rd.step S1) (qs i d δ1 ed q1) λδ2 σ2 q2 w2=>?_;refine⟨O1,δ2,_,w2,q2,λO' Y' U' H' z w' S'=>⟨O',Y',w',S1.trans S',z⟩,k2,λO' Y' U' H' z w' S'=>k1 O' Y' U' H' z w' (S1.trans S'),λO' Y' U' H' z w' S'=>⟨O',Y',w',S1.trans S',z⟩⟩
  ·have e:i=vs.length:=L8
   subst e;refine .inl ⟨S.st _ H1 (hP _ w1.same) (V4 _),?_⟩;rw[r.length]at q1;exact k1 O1 δ1 σ1 H1 (qe δ1 q1) w1 S1
def HZ(j:Nat)(F:List L7->List L7->(L7->Prop)->Prop)(t1 t2 t3:DT):DT:=λY Q=>t1 Y λd1=>t2 Y λd2=>t3 Y λd3=>∃es,Y[j]?=some (some (.o es))/\F [d1,d2,d3] es Q
theorem Rj{f:L9}{j k:Nat}{x:Str}{a b c y:Mb}{t1 t2 t3:DT}{fdt:MZ}{ps:List Str}{E:XK}{F:List L7->List L7->(L7->Prop)->Prop}{p pos:Pos}
 (Fk:aB X.prog X.w X.K X.mg X.base MX k f fdt ps (xX X.K F))(hr:bf k X.A)(hg:Gl X x)(hm:X.mg x=some (.ref f))(hk:YF X.K (.ref f)=true)(hb:l8 X.K fdt ps [])(hx:pQ MX X E)(ha:DE X H0 O0 a t1)(hb2:DE X H0 O0 b t2)(hc:DE X H0 O0 c t3)(hy:PE X y (lW j))
 (hdb:(x==("__debug__":Str))=false:=by decide)(he:MQ [a,b,c,y] X.env=(false,eval a X.env)::MQ [b,c,y] X.env:=by rfl)(he2:MQ [b,c,y] X.env=(false,eval b X.env)::MQ [c,y] X.env:=by rfl)(he3:MQ [c,y] X.env=(false,eval c X.env)::MQ [y] X.env:=by rfl)(he4:MQ [y] X.env=(false,eval y X.env)::MQ [] X.env:=by rfl)(hpl:(Mj pos (MQ [b,c,y] X.env)).any (·.1)=false:=by rfl):
 DE X H0 O0 (.Call (.Name x p) [a,b,c,y] [] pos) (HZ j F t1 t2 t3):=
 (Fv Fk hr hg hm hk hb .nil hx (bj ha (bj hb2 (bj hc (bj hy cm he4) he3) he2) he) hdb he hpl).imp λU H Q uu=>by
  obtain⟨O,Y,Qd,w,q,k⟩:=uu;refine⟨O,Y,_,w,q,λd1 v1 H1 q1 s1 r1=>⟨O,Y,_,w.mono s1,q1,λd2 v2 H2 q2 s2 r2=>⟨O,Y,_,w.mono (s1.trans s2),q2,λd3 v3 H3 ⟨es,ej,q3⟩ s3 r3=>?_⟩⟩⟩;have w3:=w.mono (s1.trans (s2.trans s3));obtain⟨l,ws,h1,h2,h3,h4,h5⟩:=w3.own ej;exact⟨_,h1,O,[v1,v2,v3],l,ws,[d1,d2,d3],es,Qd,rfl,w3.trk,.cons (r1.mono (s2.trans s3)) (.cons (r2.mono s3) (.cons r3 .nil)),h2,h4,h5,q3,λd v H4 q4 s4 r4=>k d v H4 q4 (s1.trans (s2.trans (s3.trans s4))) r4⟩
section
variable{x y z w:Option Sl}{l:Dl}{i j k m:Nat}{P:L7->Prop}
theorem lE:dO j ((x::l).set 0 y) P=dO j (y::l) P:=rfl
theorem lF:dO j ((x::l).set (i+1) y) P=dO j (x::l.set i y) P:=rfl
theorem lG:dO j (((x::l).set 0 y).set k z) P=dO j ((y::l).set k z) P:=rfl
theorem lH:dO j (((x::l).set (i+1) y).set k z) P=dO j ((x::l.set i y).set k z) P:=rfl
theorem lI:dO j ((((x::l).set 0 y).set k z).set m w) P=dO j (((y::l).set k z).set m w) P:=rfl
theorem lJ:dO j ((((x::l).set (i+1) y).set k z).set m w) P=dO j (((x::l.set i y).set k z).set m w) P:=rfl
end
section
variable{Z:VZ}{mg:Str->Option M3}{h:Md}{x q:Str}{st:MU}{f C:L9}{fd:MZ}{ps:List Str}
structure Fn (Z:VZ) (mg:Str->Option M3) (x:Str) (st:MU) (f:L9) (fd:MZ) (ps:List Str):Prop where
 F:mT Z x x st f fd
 m:mg x=some (.ref f)
 b:l8 Z fd ps []
structure Mn (Z:VZ) (x q:Str) (st:MU) (f:L9) (fd:MZ) (ps:List Str):Prop where
 F:mT Z x q st f fd
 b:l8 Z fd ps []
structure Mi (Z:VZ) (x:Str) (st:MU) (f:L9) (fd:MZ):Prop where
 a:Xv Z Mt x=some (some (.ref f))
 F:mT Z x x st f fd
structure NQ (Z:VZ) (C:L9) (x q:Str) (st:MU) (f:L9) (fd:MZ):Prop where
 a:Ys Z (.ref C) x=some (some (.ref f))
 i:PB Z (.ref f)=true
 F:mT Z x q st f fd
structure x8 (Z:VZ) (C:L9):Prop where
 c:lX Z C
 m:R4 Z C=true
 k:YF Z (.ref C)=true
theorem Mi.of{oc:M3}{od an:Option L9}{osl:Array (Option M3)}{kV doc pm cdv ct:M3}(a:Xv Z Mt x=some (some (.ref f)))(l:Z.lookup f=some ⟨oc,od,.func (Yz x x (qz st) (nK st) (aq st) .none kV doc pm an cdv ct),osl⟩)
 (c:ZY Z cdv x=true)(k:YF Z (.ref f)=true):Mi Z x st f (Yz x x (qz st) (nK st) (aq st) .none kV doc pm an cdv ct):=⟨a,FP l c k⟩
theorem NQ.of{oc:M3}{od an:Option L9}{osl:Array (Option M3)}{kV doc pm cdv ct:M3}(a:Ys Z (.ref C) x=some (some (.ref f)))(i:PB Z (.ref f)=true)(l:Z.lookup f=some ⟨oc,od,.func (Yz x q (qz st) (nK st) (aq st) .none kV doc pm an cdv ct),osl⟩)
 (c:ZY Z cdv q=true)(k:YF Z (.ref f)=true):NQ Z C x q st f (Yz x q (qz st) (nK st) (aq st) .none kV doc pm an cdv ct):=⟨a,i,FP l c k⟩
theorem Mi.fn(D:Mi Z x st f fd)(X:Z.In h)(G:h.Ns Mt mg)(hb:∀(kV doc pm:M3) (an:Option L9) (cdv ct:M3) (us:List M3),us.length=ps.length->bindArgs (Yz x x (qz st) (nK st) (aq st) .none kV doc pm an cdv ct) ⟨us,[]⟩=pure (ps.zip us):=by walk_at "b"):Fn Z mg x st f fd ps:=⟨D.F,YZ X G D.a,D.F.binds hb⟩
theorem NQ.fn(D:NQ Z C x q st f fd)(hb:∀(kV doc pm:M3) (an:Option L9) (cdv ct:M3) (us:List M3),us.length=ps.length->bindArgs (Yz x q (qz st) (nK st) (aq st) .none kV doc pm an cdv ct) ⟨us,[]⟩=pure (ps.zip us):=by walk_at "b"):Mn Z x q st f fd ps:=⟨D.F,D.F.binds hb⟩
theorem NQ.mt(D:NQ Z C x q st f fd):oT Z C x f:=⟨D.a,D.i,D.F.kp⟩
theorem NQ.mkk(D:NQ Z C "__init__" q st f fd)(c:x8 Z C):Mk Z C f:=⟨c.m,D.a,D.i,c.k⟩
theorem Fn.kp(N:Fn Z mg x st f fd ps):YF Z (.ref f)=true:=N.F.kp
end
section
variable{X:Cx}{k:Nat}{f:L9}{fd:MZ}{ps:List Str}{sp:Sp}{st:MU}{x:Str}{p pos:Pos}{e:Mb}{es:List Mb}{t:TA}
theorem mZ(F:aB X.prog X.w X.K X.mg X.base MX k f fd ps sp)(hr:bf k X.A)(hg:Gl X x)(N:Fn X.K X.mg x st f fd ps)
 (ha:PA X (e::es) t)(hdb:(x==("__debug__":Str))=false:=by decide)(he:MQ (e::es) X.env=(false,eval e X.env)::MQ es X.env:=by rfl)(hpl:(Mj pos (MQ es X.env)).any (·.1)=false:=by rfl):
 PE X (.Call (.Name x p) (e::es) [] pos) (wF sp [] E0 t):=Fv F hr hg N.m N.kp N.b .nil nq ha hdb he hpl
end
theorem aU.of{sc:ND}{N N':List Str}{k:Nat}{fr:List Nat}{scope:ND}(a:scope.kind= .function:=by rfl)(b:∀y∈scope.names,y.2= .cell->scope.names.lookup y.1=some .cell:=by decide+kernel)(c:∀y∈scope.names,y.2= .local->scope.names.lookup y.1=some .local:=by decide+kernel)(d:N'.Nodup:=by decide+kernel)(e:fr.map (λj=>N[j]?)=(N'.drop k).map some:=by rfl)(f:∀x∈N'.drop k,scope.names.lookup x=some .free:=by decide+kernel)(g:∀y∈scope.names,y.2= .free->sc.names.lookup y.1=some .cell\/sc.names.lookup y.1=some .free:=by decide+kernel)(h:∀x∈N'.drop k,sc.names.lookup x=some .cell\/sc.names.lookup x=some .free:=by decide+kernel)(i:N'.length=k+fr.length:=by rfl):aU sc N N' k fr scope:=⟨a,b,c,d,e,f,g,h,i⟩
theorem aL.of{N P:List Str}{sc:ND}(a:sc.kind= .function:=by rfl)(b:sc.isCoroutine=false:=by rfl)(c:sc.isGenerator=false:=by rfl)(d:N.Nodup:=by decide+kernel)(e:N.take P.length=P:=by rfl)(f:∀x∈P,sc.names.lookup x=some .local\/sc.names.lookup x=some .cell:=by decide+kernel)(g:∀y∈sc.names,y.2≠ .free:=by decide+kernel):aL N P sc:=⟨a,b,c,d,e,f,g⟩
section
variable{X:Cx}{H0:Hp}{O0:Ex}{pos:Pos}{a b e:Mb}{es:List Mb}{ta tb t:DT}{u:DA}{r:R2}{rd:L7->L7->(L7->Prop)->Prop}
theorem br(ho:bR X (O5 op) r)(hd:dF X.K r rd)(ha:DE X H0 O0 a ta)(hb:DE X H0 O0 b tb):DE X H0 O0 (.BinOp a op b pos) (bM rd ta tb):=Ot ho hd (df ha) (df hb)
theorem aC(ho:t8 X r)(hd:dF X.K r rd)(ha:DE X H0 O0 a ta)(hb:DE X H0 O0 b tb)(hs:∀v u,Og b false v u=operate [v,u] (Na v u):=by intro _ _;rfl):DE X H0 O0 (.Subscript a b pos) (bM rd ta tb):=nO ho hd (df ha) (df hb) hs
theorem aN(ho:bR X (Mz op) r)(hd:dF X.K r rd)(ha:DE X H0 O0 a ta)(hb:DE X H0 O0 b tb)(hm:Nb op b=false):PT X (.Compare a [op] [b] pos) (bZ X.K H0 O0 (cc (bM rd ta tb))):=BC ho hd (df ha) (df hb) hm
theorem bz(h:DE X H0 O0 e t)(hs:PA X es (nG X.K H0 O0 u))(he:MQ (e::es) X.env=(false,eval e X.env)::MQ es X.env:=by rfl):PA X (e::es) (nG X.K H0 O0 (cV t u)):=sV (df h) hs he
theorem au{k j:Nat}{f:L9}{fd:MZ}{ps:List Str}{F:Fa}{st:MU}{x:Str}{p:Pos}(G:aB X.prog X.w X.K X.mg X.base MX k f fd ps (aQ X.K F))(hr:bf j X.A)(N:Fn X.K X.mg x st f fd ps)
 (ha:PA X (e::es) (oJ X.K H0 O0 u))(hk:k<=j:=by decide)(hg:Gl X x:=by exact rfl)(hdb:(x==("__debug__":Str))=false:=by decide)(he:MQ (e::es) X.env=(false,eval e X.env)::MQ es X.env:=by rfl)(hpl:(Mj pos (MQ es X.env)).any (·.1)=false:=by rfl):
 DE X H0 O0 (.Call (.Name x p) (e::es) [] pos) (cX F u):=PE.imp (mZ G (hr.mono hk) hg N ha hdb he hpl) adQ
end
theorem acb(a v:M3):argsOk "max" ⟨[a],[(VY "default",v)]⟩:=by unfold argsOk;kernel_rfl
section
variable{prog:N4}{w:Mp}{A:N0}{E:M3->M6->Prop}
abbrev Ia(Q:M3->M6->Prop)(E:M3->M6->Prop):Result->M6->Prop:=λr s'=>match r with | .ok (.ret v)=>Q v s' | .ok _=>False | .error e=>E e s'
theorem acF(hb:entryFor table "max"=some b)
 (hc:MD (MK prog w) A.in1 (b ⟨[a],[(VY "default",d)]⟩) (λfin s'=>match fin with
  | .done f=>Ia Q E (.ok f) s' | .again c=>c.quiet=true/\NS (MK prog w) A c (Ia Q E) s') E s):
 MD (MK prog w) A (NC (.builtin "max") [a] [(VY "default",d)]) Q E s:=by
 refine wpAny_call (codeAny_call_builtin F.plain_max hb ?_);simp only[checkBuiltinCall,F.kind_max];cases hs:Manifest.signature? "max" with
 |none=>exact MO hc
 |some sg=>
  have ha:Bind.checkArgs "max" sg ⟨[a],[(VY "default",d)]⟩=pure ():=by simpa only[argsOk,hs]using acb a d
  simp only[ha];exact MO hc
variable{I:L9}{fp wr:List L9}{n:Nat}{P:Nat->M3->Prop}{St:Nat->Md->Prop}{R:Result->M6->Prop}{kw:List (Str×M3)}
theorem x9:(toString "max"++toString ".loop":String)="max.loop":=MA
theorem abA(W:Walks prog w A.in1 I fp wr n P St)(bt:Nat->Nat->Bool)(hcmp:CmpOf prog w A.in1 .Gt P bt)(S:L9)(hf:S∉fp)(k:Nat):
 ∀(j:Nat)(s:M6)(b:M3)(c:Nat),n=j+1+k->St (j+1) s.heap->P (argBest bt j) b->s.heap.get? S=some {cls:= .type "list",data:= .seq #[b,b] c}->
 (∀v h' tk,P (argBest bt (n - 1)) v->(∀a o,a∉wr->a≠S->s.heap.get? a=some o->h'.get? a=some o)->R (.ok (.ret v)) {s with heap:=h',toks:=tk})->
 NS (MK prog w) A (.builtin "max.loop" ⟨[.ref I,.none,.ref S],kw⟩) R s:=by
 have hw:S∉wr:=λh=>hf (W.sub _ h)
 induction k with
 |zero=>
  intro j s b c hn st pb hS q;refine Nx F.entry_max_loop ?_;rw[X9 F.plain_max_loop _];refine M5 (m:=seqItems? (.ref S)) (P8 hS rfl ?_);refine M5 (m:=tryCatch (NF (.ref I)) _) (Oq (W.done s _ _ (hn▸st) λh1 tk k1=>?_));have hS1:=k1 S _ hw hS;refine M5 (m:=updateSeq S _) ?_;refine PZ hS1 rfl (M5 (PF (MO (q b _ tk (by rw[hn];exact pb) λa o aw aS e=>?_))));exact(XZ _ _ (Ne.symm aS)).trans (k1 a o aw e)
 |succ k ih=>
  intro j s b c hn st pb hS q;refine Nx F.entry_max_loop ?_;rw[X9 F.plain_max_loop _];refine M5 (m:=seqItems? (.ref S)) (P8 hS rfl ?_);refine M5 (m:=tryCatch (NF (.ref I)) _) (Oq (W.item (j+1) s _ _ L8 st λv h1 tk pv st1 k1=>?_));have hS1:=k1 S _ hw hS;refine M5 (m:=tryCatch (NL [v,v] (richCompare .Gt v b >>=_)) _) (Oq (N9 (M5 (hcmp (j+1) (argBest bt j) v b _ _ _ pv pb ?_))));refine M5 (N9 (Nu (M5 (PF (MO ?_)))));cases hb:bt (j+1) (argBest bt j) with
  |true=>
   simp only[if_true];refine M5 ?_;refine PZ hS1 rfl (M5 (PF ?_));rw[x9];refine MO ⟨Nw F.plain_max_loop _,ih (j+1) _ v _ L8 (W.frame _ _ _ st1 λa ha o e=>?_) (by simp only[argBest,hb,if_true];exact pv) (X7 _ hS1 rfl) λv2 h2 t2 p2 k2=>?_⟩
   ·exact(XZ _ _ (λz:S=a=>hf (by rw[z];exact ha))).trans e
   ·exact q v2 h2 t2 p2 λa o aw aS e=>k2 a o aw aS ((XZ _ _ (Ne.symm aS)).trans (k1 a o aw e))
  |false=>
   simp only[WC,if_false];refine M5 (PF ?_);rw[x9];refine MO ⟨Nw F.plain_max_loop _,ih (j+1) _ b c L8 st1 (by simp only[argBest,hb,WC,if_false];exact pb) hS1 λv2 h2 t2 p2 k2=>?_⟩;exact q v2 h2 t2 p2 λa o aw aS e=>k2 a o aw aS (k1 a o aw e)
theorem abG{s:M6}{Q:M3->M6->Prop}(hh:A.handled=none)(hl:s.heap.IsList l (intItems xs))
 (h:∀v h' tk,(if xs.size=0 then v=Yn else(intItems xs)[argBest (λi j=>decide (numAt xs i > numAt xs j)) (xs.size - 1)]?=some v)->(∀b o,s.heap.get? b=some o->h'.get? b=some o)->Q v {s with heap:=h',toks:=tk}):
 MD (MK prog w) A (NC (.builtin "max") [.ref l] [(VY "default",.none)]) Q E s:=by
 refine acF F.entry_max ?_;refine M5 (m:=Builtin.Builtins.bindParams "max" ["key","default"] 0 ⟨[],[(VY "default",Yn)]⟩) (P1 (show _=pure [none,some Yn] from rfl) ?_);refine M5 (MO (M5 (iter_intList hl λs2 e st hfp hlI=>?_)));subst e;refine M5 (NM ?_);rw[x9];refine MO ⟨Nw F.plain_max_loop _,Nx F.entry_max_loop ?_⟩;rw[X9 F.plain_max_loop _];have W:=PR (prog:=prog) (w:=w) (A:=A.in1) hh s.heap.objs.size l hlI (intItems xs);have sz:(intItems xs).size=xs.size:=by simp[intItems]
 generalize hs2:Heap.push s.heap _=g2 at*;have kS:∀b o,s.heap.get? b=some o->g2.get? b=some o:=λb o e=>by rw[<-hs2];exact V3 _ e
 have oI:∀b o,s.heap.get? b=some o->b≠s.heap.objs.size:=λb o e=>WI (Wl e);have hS:(g2.push {cls:= .type "list",data:= .seq ([]:List M3).toArray}).get? g2.objs.size=some {cls:= .type "list",data:= .seq #[]}:=Wv _ rfl;have nf:g2.objs.size∉[s.heap.objs.size,l]:=λhm=>YY _ (hfp _ hm);have nw:g2.objs.size∉[s.heap.objs.size]:=λhm=>nf (W.sub _ hm);have st2:=W.frame 0 _ (g2.push {cls:= .type "list",data:= .seq ([]:List M3).toArray}) st λb _ o e=>V3 _ e;refine M5 (m:=seqItems? (.ref g2.objs.size)) (P8 hS rfl ?_);by_cases h0:xs.size=0
 ·refine M5 (m:=tryCatch (NF (.ref s.heap.objs.size)) _) (Oq (W.done _ _ _ (by rw[sz,h0];exact st2) λh1 tk k1=>?_));refine M5 (m:=rule _) (OI (MO (h .none _ tk (by rw[M8 h0]) λb o e=>k1 b o (λhm=>?_) (V3 _ (kS b o e)))));exact oI b o e (by simpa using hm)
 ·refine M5 (m:=tryCatch (NF (.ref s.heap.objs.size)) _) (Oq (W.item 0 _ _ _ L8 st2 λv h1 tk pv st1 k1=>?_));have hS1:=k1 _ _ nw hS;refine M5 (m:=updateSeq g2.objs.size _) ?_;refine PZ hS1 rfl ?_;rw[x9];refine MO ⟨Nw F.plain_max_loop _,abA W _ (CmpOf.ints_gt (numAt xs) (λ_ _=>intItems_at)) _ nf (xs.size - 1) 0 _ v _ L8 (W.frame _ _ _ st1 λa ha o e=>?_) pv (X7 _ hS1 rfl) λv2 h2 t2 p2 k2=>?_⟩
  ·exact(XZ _ _ (λz=>nf (by rw[z];exact ha))).trans e
  ·rw[sz]at p2;refine h v2 h2 t2 (by rw[M4 h0];exact p2) λb o e=>?_;have n1:b≠g2.objs.size:=WI (Wl (kS b o e));have n2:b∉[s.heap.objs.size]:=λhm=>oI b o e (by simpa using hm);exact k2 b o n2 n1 ((XZ _ _ (Ne.symm n1)).trans (k1 b o n2 (V3 _ (kS b o e))))
end
def gM(t:DT):DB:=λY Q=>t Y λd=>∃ds,d= .tuple ds/\Q (!ds.isEmpty)
theorem Ib(h:DE X H0 O0 e t)(he:∀whole,isTrue e X.env whole=(do let v<-whole;Nz e.pos;NL [v] (truthy v)):=by intro _;rfl):PT X e (bZ X.K H0 O0 (gM t)):=
 (Fj h he).imp λU H Q ⟨O,Y,Qd,w,q,k⟩=>⟨O,Y,_,w,q,λd v H' uu s r=>by
  obtain⟨ds,e,qb⟩:=uu;subst e;obtain⟨a,vs,rfl,hs,r⟩:=(Sh.dt r).tup;refine⟨_,.inr (.inl ⟨vs,hs,rfl⟩),?_⟩;have:(!vs.isEmpty)=!ds.isEmpty:=by cases r<;>rfl
  rw[this];exact k _ H' qb s⟩
def gN(t:DA):DT:=λY Q=>t Y λds=>∃ns:List Int,ds=[.list (ns.map .int)]/\(ns=[]->Q .none)/\∀M,M∈ns->(∀a∈ns,a<=M)->Q (.int M)
theorem Rr{a:Mb}{t:DA}{np p cp kp:Pos}{ck:Nat}(hc:X.calm=true)(hg:Gl X "max")(hm:X.mg "max"=none)(ha:PA X [a] (nG X.K H0 O0 t))
 (he:Mj p (MQ [a] X.env)=(false,eval a X.env)::Mj p (MQ [] X.env):=by rfl)(hplain:(Mj p (MQ [a] X.env)).any (·.1)=false:=by rfl):
 DE X H0 O0 (.Call (.Name "max" np) [a] [⟨some "default",.Constant .none ck cp,kp⟩] p) (gN t):=by
 intro aeK s U H Q I h;obtain⟨O,Y,Qd,w,q,kk⟩:=h;refine Oi (sJ I hg hm TL ?_);refine callWith_kw (aA (ha p aeK s U H (λvs H1=>∃ds,av H H1/\sU X.K H1 O vs ds/\∃ns:List Int,ds=[.list (ns.map .int)]/\(ns=[]->Qd .none)/\∀M,M∈ns->(∀a∈ns,a<=M)->Qd (.int M)) I ⟨O,Y,_,w,q,λds vs H1 q1 s1 r1=>⟨ds,s1,r1,q1⟩⟩) λus s1 hus=>?_) he hplain;obtain⟨vs,H1,I1,rv,ds,s1',r1,ns,e,q0,q1⟩:=hus;subst e;refine kws_cons (aA (EC aeK s1 U H1 (λv H2=>v= .non/\H2=H1) I1 ⟨rfl,rfl⟩) λu s2 ⟨v,H2,I2,r2,e2,e3⟩=>kws_nil ?_);subst e2 e3;cases r2;cases r1 with
 |cons h r=>
  cases r;obtain⟨ad,xs,rfl,hq,hd⟩:=h.lst;cases hd.intsL;obtain⟨u,rfl,rx⟩:=mH rv;cases rx;obtain⟨its,rv,pl,hz⟩:=I2.list hq;have hi:=B3 rv;obtain⟨zs,e⟩:=hi.allInts.items;have hns:ns=zs.toList.map (·.1):=by rw[<-hi.numsOf,<-nums_intItems,<-e]
  have hl:=pl.isList;rw[e]at hl;refine abG (I2.ok.hd hc) hl λv h' tk hv hk=>?_;by_cases h0:zs.size=0
  ·rw[M8 h0]at hv;subst hv;exact⟨.non,_,I2.kept (t':=tk) hk,rfl,kk _ _ _ (q0 (by rw[hns];simp[Array.size_eq_zero_iff.mp h0])) s1' .non⟩
  ·rw[M4 h0]at hv;obtain⟨t,rfl⟩:=intItems_at hv;obtain⟨h1,h2⟩:=argBest_gt (numAt zs) (zs.size - 1);refine⟨.int _,_,I2.kept (t':=tk) hk,⟨t,rfl⟩,kk _ _ _ (q1 _ ?_ λa ha=>?_) s1' (.int _)⟩
   ·rw[hns,numAt_eq];exact getD_mem (by rw[V0,WA];omega)
   ·rw[hns]at ha;obtain⟨j,hj,rfl⟩:=mem_getD ha;rw[V0,WA]at hj;rw[<-numAt_eq];exact h2 j L8
def lK(t:DA)(g:DG)(tb:DS):DS:=λE Y=>t Y λds=>∃xs,ds=[.tuple xs]/\qC g tb E (Ce 0 xs) Y
def Rt(p q:Str):Bool:=decide (p.cps.toList < q.cps.toList)
def y3(p:Str×List L7):L7:= .tuple (.str p.1::p.2)
def lL(t:DA):DA:=λY Q=>t Y λds=>∃ps:List (Str×List L7),ds=[.tuple (ps.map y3)]/\ps.length < 64/\(ps.map (·.1)).Nodup/\∀ps':List (Str×List L7),ps'.Perm ps->ps'.Pairwise (λa b=>Rt a.1 b.1=true)->Q (ps'.map y3)
theorem Ru:rT (bK 3 fr U) ((((bK 3 fr U).set 0 (some x)).set 1 (some y)).set 2 (some z)):=by
 refine⟨MC,λi v e=>?_⟩;have h:3<=i:=by
  rcases YA i 3 with h|h
  ·exfalso;unfold bK at e;rw[XI (by simpa using h),YH,M8 h]at e;cases e
  ·exact h
 rw[Wg L8,Wg L8,Wg L8];exact e
theorem Rv:pZ (va Z n (rQ (oF 0) (rQ (oF 1) (rQ (oF 2) u9)))) 3:=λfr U v H' R uu=>by obtain⟨a,xs,e,h1,h2,x,r,e1,y,r2,e2,z,r3,e3,e4,h⟩:=uu;exact⟨a,xs,e,h1,h2,x,r,e1,y,r2,e2,z,r3,e3,e4,Ru,h⟩
theorem Rx(h:PE X e t):PE X e (λU H Q=>t U H λv H1=>∃p kv H2,v= .ref p/\H1=ai H2 p (.dK kv)/\∀o,Q v (ai H2 p (.frz o (.dK kv)))):=by
 intro aeK s U H Q I q;refine aA (h aeK s U H _ I q) λu s1 ⟨v,H1,I1,r1,p,kv,H2,e1,e2,q1⟩=>?_;subst e1 e2;obtain⟨o,I2⟩:=I1.fast aV;rw[Ew]at I2;exact⟨_,_,I2,r1,q1 o⟩
def gO(t:rK):DT:=λY Q=>t Y λkd=>∃ks:List Str,kd.map (·.1)=ks.map X6/\Q (kQ ks (kd.map (·.2)))
theorem Ic(h:KE X H0 O0 e t):DE X H0 O0 e (gO t):=(Rx h).imp λU H R ⟨O,Y,Qd,w,q,k⟩=>
 ⟨O,Y,_,w,q,λkd kv p H' uu s hp r=>by obtain⟨ks,ek,qd⟩:=uu;exact⟨p,kv,H',rfl,rfl,λo=>k _ _ _ qd (s.trans (av.new hp)) (.dic aV (by rw[r.keys];exact ek) rfl (λz=>w.trk p z (by
  cases e:H p with
  |none=>rfl
  |some o=>rw[s _ _ e]at hp;cases hp)) (r.vals.mono (av.new hp)))⟩⟩
end L2
namespace PySem
open Sem (wp)
open AutoSeq1 (wpAny_loadPart')
end PySem
namespace L2
open PySem PySem.Spec PyProof.Rows PySem.W PySem.Calls
def lM(t:DA):DA:=λY Q=>t Y λds=>∃z:Str,ds=[.str z]/\z.cps.size<=1000/\Q (GA z)
def gP(t:DT)(g:DG)(tc:DB)(te:DT)(k:Nat)(fr:List Nat):DA:=λY Q=>t Y λd=>∃ks ds,d=kQ ks ds/\ks.length<=MT/\mV g tc te (bJ k fr Y) (ks.map .str) Q
theorem aaW(hc:X.calm=true)(S:aU X.env.scope X.N N' k fr scope)(hi:DE X H0 O0 iter t)(gd:GD X.K g dg)(hk:pZ g k)(hfr:fr.Nodup)
 (hg:∀fp C s H,PG (bG X scope N' fp C s H) tg g)(hf:∀fp C s H,nv (bG X scope N' fp C s H) ifs (bZ X.K H0 O0 tc))(he:∀fp C s H,PE (bG X scope N' fp C s H) elt (up X.K H0 O0 te))
 (hs:∀x,NO iter X.env x=pure x:=by intro _;rfl):FE X H0 O0 (.ListComp elt [⟨tg,iter,ifs,0⟩] scope pos) (gP t dg tc te k fr):=
 (t9 hc S (Q4 hi) hg hf he hs).imp λU H Q uu=>by obtain⟨O,Y,Qd,w,q,kk⟩:=uu;exact⟨O,Y,_,w,q,λd v H1 uu s1 r1=>by
  obtain⟨ks,ds,e,hz,q1⟩:=uu;subst e;obtain⟨a,ob,kv,rfl,h,e1,n,rr⟩:=r1.dicE;have hl:(kv.map λp=>kV p.1).length<=MT:=by
   have:=congrArg ZD e1;rw[V0,V0]at this;rw[V0,this];exact hz
  exact⟨a,ob,kv,rfl,h,λD hD=>tf d6.dk gd hfr (λv _ H' R h=>hk fr U v H' R h) (λ_ _ _ z=>z) (λ_ _ _ z=>z) (λD H' hD s'=>s' _ _ h (lQ h hD)) (HN e1) (w.mono s1) hl q1 (λds us p H' z s' hp r'=>kk ds us p H' z (s1.trans s') hp r') D hD⟩⟩
def lN(t u:DT):DA:=λY Q=>t Y λx=>∃ds,x= .list ds/\ds.length<=1000/\u Y λy=>∃i:Int,y= .int i/\0<=i/\i<=1000/\Q (Wj i.toNat ds).flatten
def lO(i:Nat)(t:DT):DS:=λE Y=>∃ds,Y[i]?=some (some (.o ds))/\t Y λd=>∃es,d= .tuple es/\ds.length+es.length<=MT/\E.nx (Y.set i (some (.o (ds++es))))
def rM(k:Int)(n:Nat):Nat:=Yk 0 (n:Int) k
def mz{α:Type}(xs:List α)(k:Int):List α:=(XB (rM k xs.length)).filterMap λ(m:Nat)=>xs[(0+(m:Int)*k).toNat]?
theorem Rz{α:Type}{xs:List α}{k:Int}{x:α}(h:x∈mz xs k):x∈xs:=by
 obtain⟨m,_,e⟩:=Yy.mp h;exact W0 e
theorem RA(hk:0 < k)(n:Nat):rM k n<=n:=by
 unfold rM Yk;rw[M8 hk];split
 ·have a:((n:Int) - 0 - 1)/ k<=(n:Int) - 0 - 1:=Int.ediv_le_self _ L8;omega
 ·omega
theorem CC{α:Type}{xs:List α}{k:Int}(hk:0 < k):(mz xs k).length<=xs.length:=by
 unfold mz;refine Wy (Zh _ _) ?_;rw[YX];exact RA hk _
theorem RB(hk:0 < k)(n:Nat):Yx none none k (n:Int)=(0,(n:Int)):=by
 unfold Yx;have h:¬k < 0:=L8
 simp only[h,if_false]
theorem aab{s:M6}{Q:Int×Int×Nat->M6->Prop}(hs:s.heap.IsSliceOf sl .none .none (.int k tk))(hk:0 < k)
 (h:Q (0,k,rM k n) s):MD (MK prog w) A (Y8 (.ref sl) (pure (n:Int))) Q E s:=by
 obtain⟨os,hos,hcs,hds⟩:=id hs;unfold Y8 SD;refine M5 (M5 (Oh hos hds (x:= .none) rfl (M5 (Oh hos hds (x:= .none) rfl (M5 (Oh hos hds (x:= .int k tk) rfl (MO ?_)))))));refine M5 (slicePart_int ?_);show MD _ _ (if (k==0)=true then _ else _) _ _ s;rw[M4 (by simp;omega)];refine M5 (QL (M5 (QL (M5 (MO ?_)))));show MD _ _ (match Yx none none k (n:Int) with | (lo,hi)=>pure (lo,k,Yk lo hi k)) _ _ s;rw[RB hk];exact MO h
theorem aag{s:M6}{Q:M3->M6->Prop}(ht:IsTup s.heap t items)(hs:s.heap.IsSliceOf sl .none .none (.int k tk))(hk:0 < k)(hz:items.size<=MT)
 (h0:Q (.ref t) s)(h:Q (.ref s.heap.objs.size) {s with heap:=s.heap.push {cls:= .type "tuple",data:= .seq (mz items.toList k).toArray}}):MD (MK prog w) A (Na (.ref t) (.ref sl)) Q E s:=by
 have htake:sizeOk (.seq (mz items.toList k).toArray):=by
  show(mz items.toList k).toArray.size<=MT;rw[Wh];have:=CC (xs:=items.toList) hk;rw[WA]at this;exact Wy this hz
 have pick:((XB (rM k items.size)).filterMap λ(m:Nat)=>items[((0:Int)+(m:Int)*k).toNat]?).toArray=(mz items.toList k).toArray:=by
  unfold mz;rw[WA];congr 1;rw[show(λ(m:Nat)=>items[((0:Int)+(m:Int)*k).toNat]?)=λ(m:Nat)=>items.toList[((0:Int)+(m:Int)*k).toNat]? from funext λm=>(Zv).symm]
 obtain⟨os,hos,hcs,hds⟩:=id hs;have hTs:s.TypeIs (.ref sl) "slice":=⟨os,hos,hcs⟩;unfold Na
 try with_reducible refine N9 ?_
 first|refine M5 (MO ?_)|skip
 refine M5 (R6 ht.typeIs MA ?_);refine M5 (Of (name:=VY "__getitem__") ht.typeIs Yf
  (Nk Yf ht.typeIs UB ?_ (Tg _ _)))
 show MD _ _ (ZA (.ref t) >>=_) _ _ s;refine M5 (tupleItemsOf_ ht ?_);refine M5 (OG hTs ?_);rw[M8 MA];refine M5 (aab hs hk ?_);show MD _ _ (if ((0:Int)==0 && k==1 && rM k items.size==items.size)=true then _ else _) _ _ s;by_cases hc:((0:Int)==0 && k==1 && rM k items.size==items.size)=true
 ·rw[M8 hc];unfold SK;refine M5 (M5 (OG ht.typeIs (MO ?_)));rw[M8 MA];exact M5 (OI (MO ⟨_,rfl,MO h0⟩))
 ·rw[M4 hc,pick]
  first
   |exact M5 (m:=Yb _) (NM (MO ⟨_,rfl,MO h⟩) htake)
   |exact M5 (m:=Yb _) (NM (M5 (MO (MO ⟨_,rfl,MO h⟩))) htake)
   |exact M5 (M5 (m:=Yb _) (NM (MO (MO ⟨_,rfl,MO h⟩)) htake))
   |exact M5 (M5 (m:=Yb _) (NM (MO ⟨_,rfl,MO h⟩) htake))
theorem CD(r:aF xs us):∀is:List Nat,aF (is.filterMap (xs[·]?)) (is.filterMap (us[·]?))
 | []=>.nil
 |i::is=>by
  rw[XS,XS];cases e:xs[i]? with
  |none=>
   have hl:=r.length;have:us[i]?=none:=Yc (by rw[<-hl];exact List.getElem?_eq_none_iff.mp e);rw[this];exact CD r is
  |some x=>
   obtain⟨u,e2,ru⟩:=aF.get r e;rw[e2];exact .cons ru (CD r is)
theorem RE(r:aF xs us)(k:Int):aF (mz xs k) (mz us k):=by
 unfold mz;rw[show us.length=xs.length from r.length.symm];have:=CD r ((XB (rM k xs.length)).map λ(m:Nat)=>(0+(m:Int)*k).toNat);rw[Y4,Y4]at this;exact this
theorem RF(r:ak Z H O xs ds):∀is:List Nat,ak Z H O (is.filterMap (xs[·]?)) (is.filterMap (ds[·]?)):=by
 have key:∀{xs:List V}{ds:List L7},ak Z H O xs ds->∀i:Nat,(xs[i]?=none/\ds[i]?=none)\/∃v d,xs[i]?=some v/\ds[i]?=some d/\Dt Z H O v d:=by
  intro xs
  induction xs with
  |nil=>intro ds r i;cases r;exact .inl ⟨rfl,rfl⟩
  |cons x xs ih=>
   intro ds r i;cases r with
   |cons a b=>
    cases i with
    |zero=>exact .inr ⟨_,_,rfl,rfl,a⟩
    |succ i=>rw[Wq,Wq];exact ih b i
 intro is
 induction is with
 |nil=>exact .nil
 |cons i is ih=>
  rw[XS,XS];rcases key r i with⟨a,b⟩|⟨v,d,a,b,c⟩
  ·rw[a,b];exact ih
  ·rw[a,b];exact .cons c ih
theorem RG(r:ak Z H O xs ds)(k:Int):ak Z H O (mz xs k) (mz ds k):=by
 unfold mz;rw[show ds.length=xs.length from r.length.symm];have:=RF r ((XB (rM k xs.length)).map λ(m:Nat)=>(0+(m:Int)*k).toNat);rw[Y4,Y4]at this;exact this
theorem RH{e st:Mb}{te ts:TE}(he:PE X e te)(hs:PE X st ts):PE X (.Subscript e (.Slice none none (some st) p2) pos) (λU H Q=>te U H λx H1=>ts U H1 λy H2=>∃a xs k,x= .ref a/\y= .int k/\0 < k/\bo X.K H2 a xs/\Q (.ref a) H2/\∀p,H2 p=none->Q (.ref p) (ai H2 p (.tup (mz xs k)))):=by
 intro aeK s U H Q I h;refine Subscript_ (aA (he aeK s U H _ I h) λv s1 ⟨x,H1,I1,r1,q1⟩=>?_);refine wpAny_Slice ?_;rw[evalPart_none];refine MO (MO ?_);rw[evalPart_some];refine aA (hs aeK s1 U H1 _ I1 q1) λvk s3 ⟨x3,H3,I3,r3,a,xs,k,e3,e4,hk,hq,q0,q⟩=>?_;subst e3 e4;cases r1;obtain⟨tk,rfl⟩:=r3;have I4:af X aeK U H3 {s3 with heap:=s3.heap.push {cls:= .type "slice",data:= .fields #[.none,.none,.int k tk]}}:=I3.kept (t':=s3.toks) λb ob q=>V3 _ q;show MD (MK X.prog X.w) X.A (QO e (.Slice none none (some st) p2) (.ref a) (.ref s3.heap.objs.size)) (EP X aeK U Q) X.xe {s3 with heap:=s3.heap.push {cls:= .type "slice",data:= .fields #[.none,.none,.int k tk]}};obtain⟨its,r,ht,hz⟩:=I4.tuple hq;have hlen:=r.length;refine tail_any (ops:=[.ref a,.ref s3.heap.objs.size]) ht.typeIs Yf.lookup ?_ (by with_unfolding_all rfl);refine aag ht (SI ..) hk (by rw[Wh];omega) ⟨.ref a,H3,I4,rfl,q0⟩ ?_;refine⟨.ref _,_,I4.laid (t':=s3.toks) (o:= .tup (mz xs k)) (λb ob q=>V3 _ q) (V4 _) ?_,rfl,q _ (I4.hok.fresh (V4 _))⟩;exact⟨Wy (CC hk) hz,_,(show aF (mz xs k) (mz its k) from RE r k),QV _ _⟩
def gQ(t u:DT):DT:=λY Q=>t Y λd=>u Y λy=>∃xs k,d= .tuple xs/\y= .int k/\0 < k/\∀ys:List L7,(∀z∈ys,z∈xs)->ys.length<=xs.length->Q (.tuple ys)
theorem aeI{e st:Mb}{t u:DT}(h:DE X H0 O0 e t)(hs:DE X H0 O0 st u):DE X H0 O0 (.Subscript e (.Slice none none (some st) p2) pos) (gQ t u):=
 (RH h hs).imp λU H Q ⟨O,Y,Qd,w,q,k⟩=>⟨O,Y,_,w,q,λd v H1 q1 s1 r1=>⟨O,Y,_,w.mono s1,q1,λy v2 H2 uu s2 r2=>by
  obtain⟨xs,n,e1,e2,hn,q2⟩:=uu;subst e1 e2;cases r2;obtain⟨a,us,rfl,h1,d1⟩:=(Sh.dt (r1.mono s2)).tup;refine⟨a,us,n,rfl,rfl,hn,h1,k _ _ _ (q2 xs (λ_ h=>h) (V4 _)) (s1.trans s2) (r1.mono s2),λp hp=>?_⟩;exact k _ _ _ (q2 (mz xs n) (λz hz=>Rz hz) (CC hn)) ((s1.trans s2).trans (av.new hp)) (.tup (.inl aV) (vv w (s1.trans s2) hp) ((RG d1 n).mono (av.new hp)))⟩⟩
end L2
namespace K66
open PySem L2
def aP(i:Nat):MU:=PySem.Challenge.pw_goneday_k66_whole_no_clash_where_no_pair.main.body.getD i (.Pass ⟨0,0,0,0⟩)
abbrev CF:MU:=aP 8
abbrev CG:MU:=aP 9
abbrev CH:MU:=aP 10
abbrev CI:MU:=aP 11
abbrev CJ:MU:=aP 12
abbrev CK:MU:=aP 13
abbrev y4:MU:=aP 14
abbrev CM:MU:=aP 15
abbrev y6:MU:=L2.inClass (aP 17) 0
abbrev CN:MU:=aP 18
abbrev y8:MU:=aP 19
abbrev CO:MU:=aP 20
abbrev y9:MU:=aP 21
abbrev vM:MU:=aP 22
abbrev z5:MU:=aP 23
abbrev z6:MU:=aP 24
abbrev z7:MU:=aP 26
abbrev z9:MU:=aP 27
abbrev Aa:MU:=aP 28
abbrev CQ:MU:=aP 29
abbrev Ab:MU:=aP 30
abbrev Ac:MU:=aP 31
abbrev Ad:MU:=aP 32
abbrev CS:MU:=aP 33
abbrev Ae:MU:=aP 35
abbrev CT:MU:=aP 36
abbrev Af:MU:=aP 37
abbrev Ag:MU:=aP 38
abbrev Ah:MU:=aP 39
abbrev CU:MU:=aP 40
abbrev CV:MU:=aP 41
abbrev CW:MU:=aP 43
abbrev Ai:MU:=aP 44
abbrev vN:MU:=aP 45
abbrev CY:MU:=L2.inClass (aP 47) 0
abbrev CZ:MU:=L2.inClass (aP 47) 1
abbrev C0:MU:=L2.inClass (aP 47) 2
abbrev Aj:MU:=L2.inClass (aP 48) 0
abbrev C1:MU:=L2.inClass (aP 48) 1
abbrev C3:MU:=L2.inClass (aP 48) 2
abbrev uz:MU:=L2.inClass (aP 48) 3
abbrev Ak:MU:=aP 49
abbrev C4:MU:=aP 50
abbrev C5:MU:=aP 51
abbrev Al:MU:=aP 52
abbrev C6:MU:=aP 53
abbrev Am:MU:=aP 55
abbrev C7:MU:=aP 56
abbrev vO:MU:=aP 57
abbrev An:MU:=aP 59
abbrev C8:MU:=aP 61
abbrev C9:MU:=aP 62
abbrev Dc:MU:=aP 63
abbrev Dd:MU:=aP 64
abbrev Df:MU:=aP 65
abbrev Ao:MU:=aP 66
abbrev Dg:MU:=aP 67
abbrev vP:MU:=aP 68
abbrev Dh:MU:=aP 69
abbrev Di:MU:=aP 70
abbrev Ap:MU:=aP 71
abbrev Dj:MU:=aP 72
abbrev Aq:MU:=aP 73
abbrev tE:MU:=aP 74
abbrev Ar:MU:=aP 75
abbrev As:MU:=aP 76
abbrev Dk:MU:=aP 77
abbrev Au:MU:=aP 78
abbrev Dm:MU:=aP 79
set_option genInjectivity false in
set_option genSizeOfSpec false in
structure cS where
 a_A:L9
 d_A:MZ
 a_B:L9
 d_B:MZ
 a_C:L9
 d_C:MZ
 a_D:L9
 d_D:MZ
 a_E:L9
 d_E:MZ
 a_F:L9
 d_F:MZ
 a_G:L9
 d_G:MZ
 a_H:L9
 d_H:MZ
 a_I:L9
 d_I:MZ
 a_J:L9
 d_J:MZ
 a_K:L9
 d_K:MZ
 a_L:L9
 d_L:MZ
 a_M:L9
 d_M:MZ
 a_N:L9
 d_N:MZ
 a_O:L9
 d_O:MZ
 a_P:L9
 d_P:MZ
 a_Q:L9
 d_Q:MZ
 a_R:L9
 d_R:MZ
 a_S:L9
 d_S:MZ
 a_T:L9
 d_T:MZ
 a_U:L9
 d_U:MZ
 a_V:L9
 d_V:MZ
 a_W:L9
 d_W:MZ
 a_X:L9
 d_X:MZ
 a_Y:L9
 d_Y:MZ
 a_Z:L9
 d_Z:MZ
 a_a:L9
 d_a:MZ
 a_b:L9
 d_b:MZ
 a_c:L9
 d_c:MZ
 a_d:L9
 d_d:MZ
 a_e:L9
 d_e:MZ
 a_f:L9
 d_f:MZ
 a_g:L9
 d_g:MZ
 a_h:L9
 d_h:MZ
 a_i:L9
 d_i:MZ
 a_j:L9
 d_j:MZ
 a_k:L9
 d_k:MZ
 a_l:L9
 d_l:MZ
 a_m:L9
 d_m:MZ
 a_n:L9
 d_n:MZ
 a_o:L9
 d_o:MZ
 a_p:L9
 d_p:MZ
 a_q:L9
 d_q:MZ
 a_r:L9
 d_r:MZ
 a_s:L9
 d_s:MZ
 a_t:L9
 d_t:MZ
 a_u:L9
 d_u:MZ
 a_v:L9
 d_v:MZ
 a_w:L9
 d_w:MZ
 a_x:L9
 d_x:MZ
 a_y:L9
 d_y:MZ
 a_z:L9
 d_z:MZ
 q06:L9
 q07:MZ
 q08:L9
 q09:MZ
 q1a:L9
 q1b:MZ
 q1c:L9
 q1d:MZ
 q1e:L9
 q1f:MZ
 q1g:L9
 q1h:MZ
 q1i:L9
 q1j:MZ
 q1k:L9
 q1l:MZ
 q1m:L9
 q1n:MZ
 q1o:L9
 q1p:MZ
 q1q:L9
 q1r:MZ
 q1s:L9
 q1t:MZ
 q1u:L9
 q1v:MZ
 q1w:L9
 q1x:MZ
 q1y:L9
 q1z:MZ
 q1A:L9
 q1B:MZ
 q1C:L9
 q0P:MZ
 q0Q:M3
 q0u:M3
 q0v:M3
 q0w:M3
 q0R:L9
 q0a:L9
 q0b:L9
 q0c:L9
structure Txt (Z:VZ) (mg:Str->Option M3) (t:cS):Prop where
 F_A:Fn Z mg "is_leap" CF t.a_A t.d_A ["year"]
 F_B:Fn Z mg "month_length" CG t.a_B t.d_B ["year","month"]
 F_C:Fn Z mg "leaps_before" CH t.a_C t.d_C ["year"]
 F_D:Fn Z mg "year_start" CI t.a_D t.d_D ["year"]
 F_E:Fn Z mg "year_of" CJ t.a_E t.d_E ["day"]
 F_F:Fn Z mg "parts_of" CK t.a_F t.d_F ["day"]
 F_G:Fn Z mg "number_of" y4 t.a_G t.d_G ["year","month","day"]
 F_H:Fn Z mg "later" CM t.a_H t.d_H ["day","many","unit"]
 F_I:Mn Z "__init__" "Paper.__init__" y6 t.a_I t.d_I ["self","deeds","name"]
 F_J:Fn Z mg "place_of" CN t.a_J t.d_J ["deed"]
 F_K:Fn Z mg "comings" y8 t.a_K t.d_K ["deeds"]
 F_L:Fn Z mg "coming_of" CO t.a_L t.d_L ["deeds","paper"]
 F_M:Fn Z mg "papers" y9 t.a_M t.d_M ["deeds"]
 F_N:Fn Z mg "maker_comings" vM t.a_N t.d_N ["deeds","coming"]
 F_O:Fn Z mg "makers" z5 t.a_O t.d_O ["deeds","paper"]
 F_P:Fn Z mg "line_of" z6 t.a_P t.d_P ["deeds","paper"]
 F_Q:Fn Z mg "latest" z7 t.a_Q t.d_Q ["deeds","words","day"]
 F_R:Fn Z mg "rules_on" z9 t.a_R t.d_R ["deeds","day"]
 F_S:Fn Z mg "holds_on" Aa t.a_S t.d_S ["deeds","day"]
 F_T:Fn Z mg "is_told" CQ t.a_T t.d_T ["target","coming"]
 F_U:Fn Z mg "holding" Ab t.a_U t.d_U ["holds","line"]
 F_V:Fn Z mg "happened" Ac t.a_V t.d_V ["paper","happening"]
 F_W:Fn Z mg "base_of" Ad t.a_W t.d_W ["paper","since","day"]
 F_X:Fn Z mg "reckoned" CS t.a_X t.d_X ["paper","parts","day"]
 F_Y:Fn Z mg "rules_over" Ae t.a_Y t.d_Y ["paper","rules","day"]
 F_Z:Fn Z mg "has_gone" CT t.a_Z t.d_Z ["gone","paper","day"]
 F_a:Fn Z mg "staying" Af t.a_a t.d_a ["paper","rules","day","gone"]
 F_b:Fn Z mg "going" Ag t.a_b t.d_b ["paper","rules","day","gone"]
 F_c:Fn Z mg "leave_rules" Ah t.a_c t.d_c ["kind","rules"]
 F_d:Fn Z mg "stays" CU t.a_d t.d_d ["deeds","day","paper","gone"]
 F_e:Fn Z mg "goes" CV t.a_e t.d_e ["deeds","day","paper","gone"]
 F_f:Fn Z mg "bases" CW t.a_f t.d_f ["since","paper"]
 F_g:Fn Z mg "reckonings" Ai t.a_g t.d_g ["ready","parts"]
 F_h:Fn Z mg "turning_days" vN t.a_h t.d_h ["deeds"]
 F_i:Mn Z "__init__" "Look.__init__" CY t.a_i t.d_i ["self","day","paper","to_stay","to_go","bars","leave"]
 F_j:Mn Z "lets_go" "Look.lets_go" CZ t.a_j t.d_j ["self"]
 F_k:Mn Z "as_row" "Look.as_row" C0 t.a_k t.d_k ["self"]
 F_l:Mn Z "__init__" "Round.__init__" Aj t.a_l t.d_l ["self","deeds","day","done"]
 F_m:Mn Z "mark" "Round.mark" C1 t.a_m t.d_m ["self","row"]
 F_n:Mn Z "unused" "Round.unused" C3 t.a_n t.d_n ["self","kind"]
 F_o:Mn Z "look" "Round.look" uz t.a_o t.d_o ["self","paper","line"]
 F_p:Fn Z mg "shelf_of" Ak t.a_p t.d_p ["deeds"]
 F_q:Fn Z mg "looks_on" C4 t.a_q t.d_q ["deeds","shelf","day","done"]
 F_r:Fn Z mg "walk" C5 t.a_r t.d_r ["deeds","days","done"]
 F_s:Fn Z mg "rows_of" Al t.a_s t.d_s ["looks"]
 F_t:Fn Z mg "plan_looks" C6 t.a_t t.d_t ["deeds"]
 F_u:Fn Z mg "clashes" Am t.a_u t.d_u ["deeds"]
 F_v:Fn Z mg "clash" C7 t.a_v t.d_v ["deeds"]
 F_w:Fn Z mg "clashing" vO t.a_w t.d_w ["deeds","day"]
 F_x:Fn Z mg "plan" An t.a_x t.d_x ["deeds"]
 F_y:Fn Z mg "_law_mixed" C8 t.a_y t.d_y ["_law_cell"]
 F_z:Fn Z mg "_law_pack" C9 t.a_z t.d_z ["_law_script","_law_k"]
 q0d:Fn Z mg "_law_take" Dc t.q06 t.q07 ["_law_pack_here","_law_size"]
 q0S:Fn Z mg "_law_length" Dd t.q08 t.q09 ["_law_year","_law_month"]
 q1D:Fn Z mg "_law_ahead" Df t.q1a t.q1b ["_law_year"]
 q1E:Fn Z mg "_law_day" Ao t.q1c t.q1d ["_law_date"]
 q1F:Fn Z mg "_law_drawn_date" Dg t.q1e t.q1f ["_law_pack_here","_law_most"]
 q0T:Fn Z mg "_law_pool" vP t.q1g t.q1h ["_law_pack_here","_law_many"]
 q1G:Fn Z mg "_law_when" Dh t.q1i t.q1j ["_law_pack_here","_law_far"]
 q1H:Fn Z mg "_law_parts" Di t.q1k t.q1l ["_law_pack_here","_law_kinds","_law_pool_here","_law_far"]
 q1I:Fn Z mg "_law_one" Ap t.q1m t.q1n ["_law_pack_here","_law_sort","_law_pool_here","_law_kinds","_law_far"]
 q1J:Fn Z mg "_law_quarrel" Dj t.q1o t.q1p ["_law_one_here","_law_other"]
 q1K:Fn Z mg "_law_deeds" Aq t.q1q t.q1r ["_law_script"]
 q1L:Fn Z mg "_law_first_right" tE t.q1s t.q1t ["_law_deeds_here","_law_told"]
 q0U:Fn Z mg "_law_none_right" Ar t.q1u t.q1v ["_law_deeds_here"]
 q1M:Fn Z mg "_law_without" As t.q1w t.q1x ["_law_deeds_here","_law_name"]
 q0V:Fn Z mg "_law_peeled" Dk t.q1y t.q1z ["_law_deeds_here","_law_side"]
 q0W:Fn Z mg "_law_one_sided" Au t.q1A t.q1B ["_law_deeds_here","_law_words"]
 q0X:Fn Z mg "law" Dm t.q1C t.q0P ["_law_script"]
 q2c:∀(s:M6)(u:M3),BindsTo s t.q0P ⟨[u],[]⟩ [("_law_script",u)]
 q1T:mg "MONTH_DAYS"=some t.q0Q
 e_MONTH_DAYS:∃a,t.q0Q= .ref a/\∀H,bo Z H a [V.int 31,V.int 28,V.int 31,V.int 30,V.int 31,V.int 30,V.int 31,V.int 31,V.int 30,V.int 31,V.int 30,V.int 31]
 q0Y:mg "FIRST_YEAR"=some t.q0u
 q0x:aG (.int 2000) t.q0u
 q1U:mg "ROUND_DAYS"=some t.q0v
 q0Z:aG (.int 146097) t.q0v
 q1V:mg "ROUND_YEARS"=some t.q0w
 q00:aG (.int 400) t.q0w
 q2d:mg "NoPaper"=some (.ref t.q0R)
 q0E:mg "Paper"=some (.ref t.q0a)
 q1W:mg "Look"=some (.ref t.q0b)
 q1X:mg "Round"=some (.ref t.q0c)
 q0g:lX Z t.q0a
 q0F:Mk Z t.q0a t.a_I
 q0y:NoAttr Z t.q0a "name"
 q0l:NoAttr Z t.q0a "coming"
 q0m:NoAttr Z t.q0a "kind"
 q0z:NoAttr Z t.q0a "makers"
 q0G:NoAttr Z t.q0a "happenings"
 q0e:lX Z t.q0b
 q1N:Mk Z t.q0b t.a_i
 q0o:NoAttr Z t.q0b "day"
 q0p:NoAttr Z t.q0b "paper"
 q0A:NoAttr Z t.q0b "to_stay"
 q0q:NoAttr Z t.q0b "to_go"
 q0H:NoAttr Z t.q0b "bars"
 q0I:NoAttr Z t.q0b "leave"
 q1O:oT Z t.q0b "lets_go" t.a_j
 q1P:oT Z t.q0b "as_row" t.a_k
 q0f:lX Z t.q0c
 q1Q:Mk Z t.q0c t.a_l
 q0r:NoAttr Z t.q0c "day"
 q0s:NoAttr Z t.q0c "rules"
 q0J:NoAttr Z t.q0c "holds"
 q0K:NoAttr Z t.q0c "leaves"
 q0n:NoAttr Z t.q0c "gone"
 q0B:NoAttr Z t.q0c "used"
 q1R:oT Z t.q0c "mark" t.a_m
 q1Y:oT Z t.q0c "unused" t.a_n
 q1Z:oT Z t.q0c "look" t.a_o
 q01:mg "all"=none
 q0C:mg "any"=none
 q0L:mg "dict"=none
 q02:mg "divmod"=none
 q0t:mg "int"=none
 q0M:mg "isinstance"=none
 q0i:mg "len"=none
 q03:mg "list"=none
 q0N:mg "max"=none
 q0D:mg "min"=none
 q0j:mg "range"=none
 q04:mg "set"=none
 q0k:mg "sorted"=none
 q0O:mg "sum"=none
 q0h:mg "tuple"=none
theorem RJ:aL ["year"] ["year"] (aq CF):= .of
theorem acE:aL ["year","month"] ["year","month"] (aq CG):= .of
theorem Ie:aL ["year","past"] ["year"] (aq CH):= .of
theorem abJ:aL ["year"] ["year"] (aq CI):= .of
theorem Ig:aL ["day","year"] ["day"] (aq CJ):= .of
theorem uA:aL ["day","year","left","month"] ["day"] (aq CK):= .of
theorem Ih:aL ["year","month","day","before"] ["year","month","day"] (aq y4):= .of
theorem uB:aL ["day","many","unit","months","parts","place","year","month"] ["day","many","unit"] (aq CM):= .of
theorem Ii:aL ["self","deeds","name","coming"] ["self","deeds","name"] (aq y6):= .of
theorem aad:aL ["deed"] ["deed"] (aq CN):= .of
theorem RN:aL ["deeds"] ["deeds"] (aq y8):= .of
theorem Ij:aL ["deeds","paper","deed"] ["deeds","paper"] (aq CO):= .of
theorem abZ:aL ["deeds"] ["deeds"] (aq y9):= .of
theorem Ik:aL ["deeds","coming","named"] ["deeds","coming"] (aq vM):= .of
theorem acd:aL ["deeds","paper"] ["deeds","paper"] (aq z5):= .of
theorem Av:aL ["deeds","paper","line","place"] ["deeds","paper"] (aq z6):= .of
theorem Aw:aL ["deeds","words","day","found","deed","known"] ["deeds","words","day"] (aq z7):= .of
theorem RQ:aL ["deeds","day"] ["deeds","day"] (aq z9):= .of
theorem ab0:aL ["deeds","day"] ["deeds","day"] (aq Aa):= .of
theorem RS:aL ["target","coming"] ["target","coming"] (aq CQ):= .of
theorem uC:aL ["holds","line","names","hold","target","deep","reached"] ["holds","line"] (aq Ab):= .of
theorem aam:aL ["paper","happening"] ["paper","happening"] (aq Ac):= .of
theorem Il:aL ["paper","since","day","days"] ["paper","since","day"] (aq Ad):= .of
theorem Im:aL ["paper","parts","day","base"] ["paper","parts","day"] (aq CS):= .of
theorem abE:aL ["paper","rules","day"] ["paper","rules","day"] (aq Ae):= .of
theorem Io:aL ["gone","paper","day","went"] ["gone","paper","day"] (aq CT):= .of
theorem uD:aL ["paper","rules","day","gone","left","calls","rule","parts","due"] ["paper","rules","day","gone"] (aq Af):= .of
theorem uE:aL ["paper","rules","day","gone","away","calls","rule","parts","due"] ["paper","rules","day","gone"] (aq Ag):= .of
theorem aaE:aL ["kind","rules"] ["kind","rules"] (aq Ah):= .of
theorem RW:aL ["deeds","day","paper","gone"] ["deeds","day","paper","gone"] (aq CU):= .of
theorem RX:aL ["deeds","day","paper","gone"] ["deeds","day","paper","gone"] (aq CV):= .of
theorem Ip:aL ["since","paper","days"] ["since","paper"] (aq CW):= .of
theorem Dp:aL ["ready","parts","days","paper"] ["ready","parts"] (aq Ai):= .of
theorem Ax:aL ["deeds","ready","days","deed"] ["deeds"] (aq vN):= .of
theorem aa5:aL ["self","day","paper","to_stay","to_go","bars","leave"] ["self","day","paper","to_stay","to_go","bars","leave"] (aq CY):= .of
theorem RZ:aL ["self"] ["self"] (aq CZ):= .of
theorem abt:aL ["self"] ["self"] (aq C0):= .of
theorem Dq:aL ["self","deeds","day","done","leaves","row"] ["self","deeds","day","done"] (aq Aj):= .of
theorem aaI:aL ["self","row"] ["self","row"] (aq C1):= .of
theorem Iq:aL ["self","kind","deed"] ["self","kind"] (aq C3):= .of
theorem uF:aL ["self","paper","line","to_stay","to_go","asking","leave","bars"] ["self","paper","line"] (aq uz):= .of
theorem R3:aL ["deeds"] ["deeds"] (aq Ak):= .of
theorem uG:aL ["deeds","shelf","day","done","here","told","paper","line","look"] ["deeds","shelf","day","done"] (aq C4):= .of
theorem uH:aL ["deeds","days","done","shelf","rows","told","day","looks"] ["deeds","days","done"] (aq C5):= .of
theorem aa6:aL ["looks"] ["looks"] (aq Al):= .of
theorem aaG:aL ["deeds"] ["deeds"] (aq C6):= .of
theorem aeF:aL ["deeds"] ["deeds"] (aq Am):= .of
theorem Ds:aL ["deeds","found","first"] ["deeds"] (aq C7):= .of
theorem Ir:aL ["deeds","day","latest"] ["deeds","day"] (aq vO):= .of
theorem Du:aL ["deeds","rows","row"] ["deeds"] (aq An):= .of
theorem aaC:aL ["_law_cell"] ["_law_cell"] (aq C8):= .of
theorem R8:aL ["_law_script","_law_k"] ["_law_script","_law_k"] (aq C9):= .of
theorem Iu:aL ["_law_pack_here","_law_size","_law_digit"] ["_law_pack_here","_law_size"] (aq Dc):= .of
theorem R9:aL ["_law_year","_law_month"] ["_law_year","_law_month"] (aq Dd):= .of
theorem Iw:aL ["_law_year","_law_gone"] ["_law_year"] (aq Df):= .of
theorem Ay:aL ["_law_date","_law_year","_law_month","_law_number"] ["_law_date"] (aq Ao):= .of
theorem tF:aL ["_law_pack_here","_law_most","_law_century","_law_any_year","_law_year","_law_month","_law_last","_law_number"] ["_law_pack_here","_law_most"] (aq Dg):= .of
theorem uI:aL ["_law_pack_here","_law_many","_law_letters","_law_turn","_law_size","_law_at"] ["_law_pack_here","_law_many"] (aq vP):= .of
theorem Iy:aL ["_law_pack_here","_law_far","_law_date"] ["_law_pack_here","_law_far"] (aq Dh):= .of
theorem uJ:aL ["_law_pack_here","_law_kinds","_law_pool_here","_law_far","_law_word","_law_kind","_law_since","_law_many","_law_unit"] ["_law_pack_here","_law_kinds","_law_pool_here","_law_far"] (aq Di):= .of
theorem tG:aL ["_law_pack_here","_law_sort","_law_pool_here","_law_kinds","_law_far","_law_day_here","_law_name","_law_other","_law_kind","_law_own","_law_target"] ["_law_pack_here","_law_sort","_law_pool_here","_law_kinds","_law_far"] (aq Ap):= .of
theorem Iz:aL ["_law_one_here","_law_other","_law_words"] ["_law_one_here","_law_other"] (aq Dj):= .of
theorem px:aL ["_law_script","_law_head","_law_pool_here","_law_kinds","_law_far","_law_many","_law_found","_law_at","_law_sort","_law_k","_law_deed"] ["_law_script"] (aq Aq):= .of
theorem su:aL ["_law_deeds_here","_law_told","_law_day_here","_law_paper","_law_one_here","_law_other","_law_early","_law_gone","_law_here"] ["_law_deeds_here","_law_told"] (aq tE):= .of
theorem IA:aL ["_law_deeds_here","_law_days"] ["_law_deeds_here"] (aq Ar):= .of
theorem abH:aL ["_law_deeds_here","_law_name"] ["_law_deeds_here","_law_name"] (aq As):= .of
theorem vQ:aL ["_law_deeds_here","_law_side","_law_out","_law_turn","_law_told"] ["_law_deeds_here","_law_side"] (aq Dk):= .of
theorem abx:aL ["_law_deeds_here","_law_words"] ["_law_deeds_here","_law_words"] (aq Au):= .of
theorem Dv:aL ["_law_script","_law_deeds_here","_law_told"] ["_law_script"] (aq Dm):= .of
theorem IB{α:Type}{us:List α}(h:us.length=1):∃a,us=[a]:=List.length_eq_one_iff.mp h
theorem IC{α:Type}{us:List α}(h0:us.length=2):∃a b,us=[a,b]:=by
 cases us with
 |nil=>cases h0
 |cons a us=>
  obtain⟨b,z0⟩:=IB (us:=us) (ZV h0);exact⟨a,b,by rw[z0]⟩
theorem ID{α:Type}{us:List α}(h0:us.length=3):∃a b c,us=[a,b,c]:=by
 cases us with
 |nil=>cases h0
 |cons a us=>
  obtain⟨b,c,z0⟩:=IC (us:=us) (ZV h0);exact⟨a,b,c,by rw[z0]⟩
theorem IE{α:Type}{us:List α}(h0:us.length=4):∃a b c d,us=[a,b,c,d]:=by
 cases us with
 |nil=>cases h0
 |cons a us=>
  obtain⟨b,c,d,z0⟩:=ID (us:=us) (ZV h0);exact⟨a,b,c,d,by rw[z0]⟩
theorem IF{α:Type}{us:List α}(h0:us.length=5):∃a b c d p,us=[a,b,c,d,p]:=by
 cases us with
 |nil=>cases h0
 |cons a us=>
  obtain⟨b,c,d,p,z0⟩:=IE (us:=us) (ZV h0);exact⟨a,b,c,d,p,by rw[z0]⟩
theorem IG{α:Type}{us:List α}(h0:us.length=6):∃a b c d p q,us=[a,b,c,d,p,q]:=by
 cases us with
 |nil=>cases h0
 |cons a us=>
  obtain⟨b,c,d,p,q,z0⟩:=IF (us:=us) (ZV h0);exact⟨a,b,c,d,p,q,by rw[z0]⟩
theorem Sd{α:Type}{us:List α}(h0:us.length=7):∃a b c d p q r,us=[a,b,c,d,p,q,r]:=by
 cases us with
 |nil=>cases h0
 |cons a us=>
  obtain⟨b,c,d,p,q,r,z0⟩:=IG (us:=us) (ZV h0);exact⟨a,b,c,d,p,q,r,by rw[z0]⟩
local macro_rules | `(tactic| walk_at "b")=>`(tactic| (intro _ _ _ _ _ _ us hl;first | (cases ls0 (us:=us) hl;rfl) | (obtain⟨a,e⟩:=IB (us:=us) hl;subst e;rfl) | (obtain⟨a,b,e⟩:=IC (us:=us) hl;subst e;rfl) | (obtain⟨a,b,c,e⟩:=ID (us:=us) hl;subst e;rfl) | (obtain⟨a,b,c,d,e⟩:=IE (us:=us) hl;subst e;rfl) | (obtain⟨a,b,c,d,p,e⟩:=IF (us:=us) hl;subst e;rfl) | (obtain⟨a,b,c,d,p,q,e⟩:=IG (us:=us) hl;subst e;rfl) | (obtain⟨a,b,c,d,p,q,r,e⟩:=Sd (us:=us) hl;subst e;rfl)))
theorem txt_mk{Z:VZ}(X:Z.In h)(G:h.Ns Mt mg)
 
 
 
 
 (a0:Mi Z "is_leap" CF f0 e0)
 (a1:Mi Z "month_length" CG f1 e1)
 (a2:Mi Z "leaps_before" CH f2 e2)
 (a3:Mi Z "year_start" CI f3 e3)
 (a4:Mi Z "year_of" CJ f4 e4)
 (a5:Mi Z "parts_of" CK f5 e5)
 (a6:Mi Z "number_of" y4 f6 e6)
 (a7:Mi Z "later" CM f7 e7)
 (a8:NQ Z q0a "__init__" "Paper.__init__" y6 f8 e8)
 (a9:Mi Z "place_of" CN f9 e9)
 (a10:Mi Z "comings" y8 f10 e10)
 (a11:Mi Z "coming_of" CO f11 e11)
 (a12:Mi Z "papers" y9 f12 e12)
 (a13:Mi Z "maker_comings" vM f13 e13)
 (a14:Mi Z "makers" z5 f14 e14)
 (a15:Mi Z "line_of" z6 f15 e15)
 (a16:Mi Z "latest" z7 f16 e16)
 (a17:Mi Z "rules_on" z9 f17 e17)
 (a18:Mi Z "holds_on" Aa f18 e18)
 (a19:Mi Z "is_told" CQ f19 e19)
 (a20:Mi Z "holding" Ab f20 e20)
 (a21:Mi Z "happened" Ac f21 e21)
 (a22:Mi Z "base_of" Ad f22 e22)
 (a23:Mi Z "reckoned" CS f23 e23)
 (a24:Mi Z "rules_over" Ae f24 e24)
 (a25:Mi Z "has_gone" CT f25 e25)
 (a26:Mi Z "staying" Af f26 e26)
 (a27:Mi Z "going" Ag f27 e27)
 (a28:Mi Z "leave_rules" Ah f28 e28)
 (a29:Mi Z "stays" CU f29 e29)
 (a30:Mi Z "goes" CV f30 e30)
 (a31:Mi Z "bases" CW f31 e31)
 (a32:Mi Z "reckonings" Ai f32 e32)
 (a33:Mi Z "turning_days" vN f33 e33)
 (a34:NQ Z q0b "__init__" "Look.__init__" CY f34 e34)
 (a35:NQ Z q0b "lets_go" "Look.lets_go" CZ f35 e35)
 (a36:NQ Z q0b "as_row" "Look.as_row" C0 f36 e36)
 (a37:NQ Z q0c "__init__" "Round.__init__" Aj f37 e37)
 (a38:NQ Z q0c "mark" "Round.mark" C1 f38 e38)
 (a39:NQ Z q0c "unused" "Round.unused" C3 f39 e39)
 (a40:NQ Z q0c "look" "Round.look" uz f40 e40)
 (a41:Mi Z "shelf_of" Ak f41 e41)
 (a42:Mi Z "looks_on" C4 f42 e42)
 (a43:Mi Z "walk" C5 f43 e43)
 (a44:Mi Z "rows_of" Al f44 e44)
 (a45:Mi Z "plan_looks" C6 f45 e45)
 (a46:Mi Z "clashes" Am f46 e46)
 (a47:Mi Z "clash" C7 f47 e47)
 (a48:Mi Z "clashing" vO f48 e48)
 (a49:Mi Z "plan" An f49 e49)
 (a50:Mi Z "_law_mixed" C8 f50 e50)
 (a51:Mi Z "_law_pack" C9 f51 e51)
 (a52:Mi Z "_law_take" Dc f52 e52)
 (a53:Mi Z "_law_length" Dd f53 e53)
 (a54:Mi Z "_law_ahead" Df f54 e54)
 (a55:Mi Z "_law_day" Ao f55 e55)
 (a56:Mi Z "_law_drawn_date" Dg f56 e56)
 (a57:Mi Z "_law_pool" vP f57 e57)
 (a58:Mi Z "_law_when" Dh f58 e58)
 (a59:Mi Z "_law_parts" Di f59 e59)
 (a60:Mi Z "_law_one" Ap f60 e60)
 (a61:Mi Z "_law_quarrel" Dj f61 e61)
 (a62:Mi Z "_law_deeds" Aq f62 e62)
 (a63:Mi Z "_law_first_right" tE f63 e63)
 (a64:Mi Z "_law_none_right" Ar f64 e64)
 (a65:Mi Z "_law_without" As f65 e65)
 (a66:Mi Z "_law_peeled" Dk f66 e66)
 (a67:Mi Z "_law_one_sided" Au f67 e67)
 (a68:Mi Z "law" Dm f68 e68)
 (q10:Xv Z Mt "MONTH_DAYS"=some (some (.ref q05)))(q12:Z.lookup q05=some ⟨.type "tuple",q2e,.seq q1S q2f,q2g⟩)(q13:aF [V.int 31,V.int 28,V.int 31,V.int 30,V.int 31,V.int 30,V.int 31,V.int 31,V.int 30,V.int 31,V.int 30,V.int 31] q1S.toList)(q14:q1S.size<=MT)
 (q15:Xv Z Mt "FIRST_YEAR"=some (some q0u))(q0x:aG (.int 2000) q0u)
 (q16:Xv Z Mt "ROUND_DAYS"=some (some q0v))(q0Z:aG (.int 146097) q0v)
 (q17:Xv Z Mt "ROUND_YEARS"=some (some q0w))(q00:aG (.int 400) q0w)
 (q18:Xv Z Mt "NoPaper"=some (some (.ref q0R)))
 (q19:Xv Z Mt "Paper"=some (some (.ref q0a)))
 (q2a:Xv Z Mt "Look"=some (some (.ref q0b)))
 (q2b:Xv Z Mt "Round"=some (some (.ref q0c)))
 (q0g:x8 Z q0a)
 (q0y:NoAttr Z q0a "name")
 (q0l:NoAttr Z q0a "coming")
 (q0m:NoAttr Z q0a "kind")
 (q0z:NoAttr Z q0a "makers")
 (q0G:NoAttr Z q0a "happenings")
 (q0e:x8 Z q0b)
 (q0o:NoAttr Z q0b "day")
 (q0p:NoAttr Z q0b "paper")
 (q0A:NoAttr Z q0b "to_stay")
 (q0q:NoAttr Z q0b "to_go")
 (q0H:NoAttr Z q0b "bars")
 (q0I:NoAttr Z q0b "leave")
 (q0f:x8 Z q0c)
 (q0r:NoAttr Z q0c "day")
 (q0s:NoAttr Z q0c "rules")
 (q0J:NoAttr Z q0c "holds")
 (q0K:NoAttr Z q0c "leaves")
 (q0n:NoAttr Z q0c "gone")
 (q0B:NoAttr Z q0c "used")
 (q01:Xv Z Mt "all"=some none)
 (q0C:Xv Z Mt "any"=some none)
 (q0L:Xv Z Mt "dict"=some none)
 (q02:Xv Z Mt "divmod"=some none)
 (q0t:Xv Z Mt "int"=some none)
 (q0M:Xv Z Mt "isinstance"=some none)
 (q0i:Xv Z Mt "len"=some none)
 (q03:Xv Z Mt "list"=some none)
 (q0N:Xv Z Mt "max"=some none)
 (q0D:Xv Z Mt "min"=some none)
 (q0j:Xv Z Mt "range"=some none)
 (q04:Xv Z Mt "set"=some none)
 (q0k:Xv Z Mt "sorted"=some none)
 (q0O:Xv Z Mt "sum"=some none)
 (q0h:Xv Z Mt "tuple"=some none):∃t:cS,Txt Z mg t:=by
 refine⟨⟨f0,e0,f1,e1,f2,e2,f3,e3,f4,e4,f5,e5,f6,e6,f7,e7,f8,e8,f9,e9,f10,e10,f11,e11,f12,e12,f13,e13,f14,e14,f15,e15,f16,e16,f17,e17,f18,e18,f19,e19,f20,e20,f21,e21,f22,e22,f23,e23,f24,e24,f25,e25,f26,e26,f27,e27,f28,e28,f29,e29,f30,e30,f31,e31,f32,e32,f33,e33,f34,e34,f35,e35,f36,e36,f37,e37,f38,e38,f39,e39,f40,e40,f41,e41,f42,e42,f43,e43,f44,e44,f45,e45,f46,e46,f47,e47,f48,e48,f49,e49,f50,e50,f51,e51,f52,e52,f53,e53,f54,e54,f55,e55,f56,e56,f57,e57,f58,e58,f59,e59,f60,e60,f61,e61,f62,e62,f63,e63,f64,e64,f65,e65,f66,e66,f67,e67,f68,e68,.ref q05,q0u,q0v,q0w,q0R,q0a,q0b,q0c⟩,?_⟩;have bl:∀(s:M6)(u:M3),BindsTo s e68 ⟨[u],[]⟩ [("_law_script",u)]:=λs v=>by
  obtain⟨oc,od,kV,doc,pm,an,cdv,ct,osl,rfl,_⟩:=a68.F.ex;exact .of_eq rfl
 exact⟨a0.fn X G,a1.fn X G,a2.fn X G,a3.fn X G,a4.fn X G,a5.fn X G,a6.fn X G,a7.fn X G,a8.fn,a9.fn X G,a10.fn X G,a11.fn X G,a12.fn X G,a13.fn X G,a14.fn X G,a15.fn X G,a16.fn X G,a17.fn X G,a18.fn X G,a19.fn X G,a20.fn X G,a21.fn X G,a22.fn X G,a23.fn X G,a24.fn X G,a25.fn X G,a26.fn X G,a27.fn X G,a28.fn X G,a29.fn X G,a30.fn X G,a31.fn X G,a32.fn X G,a33.fn X G,a34.fn,a35.fn,a36.fn,a37.fn,a38.fn,a39.fn,a40.fn,a41.fn X G,a42.fn X G,a43.fn X G,a44.fn X G,a45.fn X G,a46.fn X G,a47.fn X G,a48.fn X G,a49.fn X G,a50.fn X G,a51.fn X G,a52.fn X G,a53.fn X G,a54.fn X G,a55.fn X G,a56.fn X G,a57.fn X G,a58.fn X G,a59.fn X G,a60.fn X G,a61.fn X G,a62.fn X G,a63.fn X G,a64.fn X G,a65.fn X G,a66.fn X G,a67.fn X G,a68.fn X G,bl,YZ X G q10,⟨q05,rfl,λH=>.inr ⟨_,_,_,q12,rfl,rfl,q14,q13⟩⟩,YZ X G q15,q0x,YZ X G q16,q0Z,YZ X G q17,q00,YZ X G q18,YZ X G q19,YZ X G q2a,YZ X G q2b,q0g.c,a8.mkk q0g,q0y,q0l,q0m,q0z,q0G,q0e.c,a34.mkk q0e,q0o,q0p,q0A,q0q,q0H,q0I,a35.mt,a36.mt,q0f.c,a37.mkk q0f,q0r,q0s,q0J,q0K,q0n,q0B,a38.mt,a39.mt,a40.mt,XQ X G q01,XQ X G q0C,XQ X G q0L,XQ X G q02,XQ X G q0t,XQ X G q0M,XQ X G q0i,XQ X G q03,XQ X G q0N,XQ X G q0D,XQ X G q0j,XQ X G q04,XQ X G q0k,XQ X G q0O,XQ X G q0h⟩
local macro_rules | `(tactic| walk_at "o")=>`(tactic| first|exact OZ rfl|exact O8 rfl)
theorem MH{p:Prop}(h:p:=by walk_at "o"):p:=h
local macro_rules | `(tactic| walk_at "a") =>OP "A5 ET EW EV EU vb oF lW tC t5 E7 rI pP rU E9 Fb adj NN adi NP DmT Be tB EH EI EJ EM EN ER wF Fo wD wI Fp Fq va rQ u9 EY adu adp ac9 N5 adl N7 N8 adm dj dY dn L2.start V2 WD V5 WB Wj WN WK Wn Xc Xd XC Xw Xu Wz Wq WW WX WO exists_eq_left' exists_eq_left exists_and_left exists_and_right V.int.injEq V.bl.injEq V.str.injEq V.ref.injEq Wx and_true true_and XD exists_const decide_eq_true_eq XE XF Xo Xp WJ decide_eq_false_iff_not and_assoc bK Xa W3 Xb L2.WQ L2.cmK or_true true_or"
open Day
theorem IH:aU (aq y4) ["year","month","day","before"] ["other","year"] 1 [0] ⟨V7,[ (V1 ".0",Mc),(V1 "other",Mc),(V1 "month_length",W4),(V1 "year",Wi)],false,false,[]⟩:= .of
def II:Sp:=λvs H Q _=>∃(y:Int),vs=[.int y]/\Q (.bl (pk y)) H
theorem aco(T:Txt Z mg t):aB P w Z mg base MX 1 t.a_A t.d_A ["year"] II:=by
 refine T.F_A.F.ok RJ (λvs H Q E h=>?_) (λcdv A outer s H vs Q E hr h=>?_)
 ·obtain⟨y,rfl,_⟩:=h;rfl
 ·obtain⟨y,rfl,k⟩:=h;refine⟨_,(l5 (mG (Mv (wy vo (bD rj (pv 0) bC) bC (aD _)) (A4 (EO (wy vo (bD rj (pv 0) bC) bC (aD _)) (A4 (wy ac6 (bD rj (pv 0) bC) bC (aD _)))))))),?_⟩;walk_at "a";have e:pk y=(decide (y % 400=0) || (decide (y % 4=0) && !decide (y % 100=0))):=rfl;rw[e]at k;by_cases h1:y % 400=0
  ·simpa [h1]using k
  ·by_cases h2:y % 4=0
   ·simpa [h1,h2]using k
   ·simpa [h1,h2]using k
def IJ:Sp:=λvs H Q _=>∃(y m:Int),vs=[.int y,.int m]/\1<=m/\m<=12/\Q (.int (aX y m)) H
theorem Dw(T:Txt Z mg t):aB P w Z mg base MX 2 t.a_B t.d_B ["year","month"] IJ:=by
 refine T.F_B.F.ok acE (λvs H Q E h=>?_) (λcdv A outer s H vs Q E hr h=>?_)
 ·obtain⟨y,m,rfl,_⟩:=h;rfl
 ·obtain⟨y,m,rfl,h1,h2,k⟩:=h;obtain⟨a,ea,hM⟩:=T.e_MONTH_DAYS;have T_r:aG (.ref a) t.q0Q:=ea;refine⟨_,(gW (sM (PW.pt (EL (rR vo (pv 1) bC (aD _)) (EK (EG (mZ (aco T) (hr.mono MA) rfl T.F_A (bj (pv 0) cm)))))) (l5 (mG bC)) sL)
   (l5 (mG (pU aE (tY rfl T.q1T T_r) (bD mS (pv 1) bC) (λ_ _=>rfl))))),?_⟩
  walk_at "a";simp only[II];walk_at "a";have fin:∀{v:Int},v=aX y m->Q (.int v) H:=λe=>by rw[e];exact k
  have tail:aX y m=Cg.getD (m - 1).toNat 0->wJ Z (.ref a) (.int (m - 1)) H Q:=λe=>by
   refine⟨a,_,m - 1,.int (aX y m),rfl,rfl,hM H,?_,k⟩;rw[e];rcases xR h1 h2 with z|z|z|z|z|z|z|z|z|z|z|z<;>subst z<;>rfl
  by_cases hm:m=2
  ·rw[M8 hm];by_cases hl:pk y=true
   ·rw[M8 hl];exact fin (by unfold aX;rw[M8 ⟨hm,hl⟩])
   ·rw[M4 hl];exact tail (by unfold aX;rw[M4 (λz=>hl z.2)])
  ·rw[M4 hm];exact tail (Ck hm)
def IK:Sp:=λvs H Q _=>∃(y:Int),vs=[.int y]/\Q (.int (lb y)) H
theorem Sg(T:Txt Z mg t):aB P w Z mg base MX 1 t.a_C t.d_C ["year"] IK:=by
 refine T.F_C.F.ok Ie (λvs H Q E h=>?_) (λcdv A outer s H vs Q E hr h=>?_)
 ·obtain⟨y,rfl,_⟩:=h;rfl
 ·obtain⟨y,rfl,k⟩:=h;refine⟨_,(gW (mR (i:=1) Ie.nd rfl MH (bD mS (pv 0) bC))
   (l5 (mG (bD bF (bD mS (bD qw (pv 1) bC) (bD qw (pv 1) bC)) (bD qw (pv 1) bC))))),?_⟩
  walk_at "a";exact k
def Az:Sp:=λvs H Q _=>∃(y:Int),vs=[.int y]/\Q (.int (cg y)) H
theorem Dx(T:Txt Z mg t):aB P w Z mg base MX 2 t.a_D t.d_D ["year"] Az:=by
 refine T.F_D.F.ok abJ (λvs H Q E h=>?_) (λcdv A outer s H vs Q E hr h=>?_)
 ·obtain⟨y,rfl,_⟩:=h;rfl
 ·obtain⟨y,rfl,k⟩:=h;refine⟨_,(l5 (mG (bD mS (bD bF (bD rg bC (bD mS (pv 0) (tY rfl T.q0Y T.q0x))) (mZ (Sg T) (hr.mono MA) rfl T.F_C (bj (pv 0) cm))) (mZ (Sg T) (hr.mono MA) rfl T.F_C (bj (tY rfl T.q0Y T.q0x) cm))))),?_⟩;walk_at "a";simp only[IK];walk_at "a";exact k
def IL:Sp:=λvs H Q _=>∃(d:Int),vs=[.int d]/\Q (.int (uu d)) H
theorem Si(T:Txt Z mg t):aB P w Z mg base MX 3 t.a_E t.d_E ["day"] IL:=by
 refine T.F_E.F.ok Ig (λvs H Q E h=>?_) (λcdv A outer s H vs Q E hr h=>?_)
 ·obtain⟨d,rfl,_⟩:=h;rfl
 ·obtain⟨d,rfl,k⟩:=h;refine⟨_,(gW (mR (i:=1) Ig.nd rfl MH (bD bF (tY rfl T.q0Y T.q0x) (bD qw (bD rg (pv 0) (tY rfl T.q1V T.q00)) (tY rfl T.q1U T.q0Z))))
   (gW (sM (rR wu (mZ (Dx T) (hr.mono MA) rfl T.F_D (bj (pv 1) cm)) (pv 0) (aD _)) (l5 (mG (bD mS (pv 1) bC))) sL)
   (gW (sM (rR rn (mZ (Dx T) (hr.mono MA) rfl T.F_D (bj (bD bF (pv 1) bC) cm)) (pv 0) (aD _)) (l5 (mG (bD bF (pv 1) bC))) sL)
   (l5 (mG (pv 1)))))),?_⟩
  walk_at "a";simp only[Az];walk_at "a";unfold uu at k;split
  ·rename_i h;rw[M8 h]at k;exact k
  ·rename_i h;rw[M4 h]at k;split
   ·rename_i h;rw[M8 h]at k;exact k
   ·rename_i h;rw[M4 h]at k;exact k
def Sj:Sp:=λvs H Q _=>∃(d:Int),vs=[.int d]/\∀(p:L9)(H':Hp)(y m n:Int),sk d y m n->av H H'->H p=none->H' p=some (.tup [.int y,.int m,.int n])->Q (.ref p) H'
theorem Sk(T:Txt Z mg t):aB P w Z mg base MX 4 t.a_F t.d_F ["day"] Sj:=by
 refine T.F_F.F.ok uA (λvs H Q E h=>?_) (λcdv A outer s H vs Q E hr h=>?_)
 ·obtain⟨d,rfl,_⟩:=h;rfl
 ·obtain⟨d,rfl,k⟩:=h;refine⟨_,(gW (mR (i:=1) uA.nd rfl MH (mZ (Si T) (hr.mono MA) rfl T.F_E (bj (pv 0) cm)))
   (gW (mR (i:=2) uA.nd rfl MH (bD mS (pv 0) (mZ (Dx T) (hr.mono MA) rfl T.F_D (bj (pv 1) cm))))
   (gW (mR (i:=3) uA.nd rfl MH bC)
   (gW (E1 XR (rR MM (pv 2) (mZ (Dw T) (hr.mono MA) rfl T.F_B (bj (pv 1) (bj (pv 3) cm))) (aD _)) (gW (mR (i:=2) uA.nd rfl MH (bD mS (pv 2) (mZ (Dw T) (hr.mono MA) rfl T.F_B (bj (pv 1) (bj (pv 3) cm)))))
   (l5 (mR (i:=3) uA.nd rfl MH (bD bF (pv 3) bC)))))
   (l5 (mG (Fs (bj (pv 1) (bj (pv 3) (bj (bD bF (pv 2) bC) cm)))))))))),?_⟩
  walk_at "a";simp only[IL];walk_at "a";simp only[Az];walk_at "a";have yo:=aeE d;generalize uu d=y at*;refine⟨λm U H'=>H'=H/\∃mo:Int,1<=mo/\mo<=12/\aT y mo<=d - cg y/\m=(12 - mo).toNat/\U=[some (.int d),some (.int y),some (.int (d - cg y - aT y mo)),some (.int mo)],⟨11,rfl,1,MA,MA,?_,rfl,?_⟩,?_⟩
  ·rw[Cm];omega
  ·rw[Cm];simp
  ·rintro m U H' ⟨rfl,mo,h1,h2,hb,rfl,rfl⟩;walk_at "a";simp only[IJ];walk_at "a";refine⟨h1,h2,?_⟩;have ys:=xO y;have ba:=Cp (y:=y) h1 h2;split
   ·rename_i hge;have lt12:mo < 12:=by
     by_cases z:mo < 12
     ·exact z
     ·have e:mo=12:=L8
      subst e;have:=(Cn y);have:=xQ y;omega
    refine⟨_,λ_ _ h=>h,h1,h2,(12 - (mo+1)).toNat,L8,rfl,mo+1,L8,L8,?_,rfl,?_⟩
    ·rw[mY h1];omega
    ·rw[mY h1,show d - cg y - (aT y mo+aX y mo)=d - cg y - aT y mo - aX y mo by omega]
   ·rename_i hlt;refine⟨by show 3<=MT;decide,λp hp=>?_⟩;refine k p _ y mo (d - cg y - aT y mo+1) ⟨h1,h2,L8,L8,by unfold pq;omega⟩ (av.new hp) hp aV
def aa9:Sp:=λvs H Q _=>∃(y m n:Int),vs=[.int y,.int m,.int n]/\1<=m/\m<=12/\∀H',av H H'->Q (.int (pq y m n)) H'
theorem aaT(T:Txt Z mg t):aB P w Z mg base MX 3 t.a_G t.d_G ["year","month","day"] aa9:=by
 refine T.F_G.F.ok Ih (λvs H Q E h=>?_) (λcdv A outer s H vs Q E hr h=>?_)
 ·obtain⟨y,m,n,rfl,_⟩:=h;rfl
 ·obtain⟨y,m,n,rfl,h1,h2,k⟩:=h;refine⟨_,(gW (mR (i:=3) Ih.nd rfl MH (dA (FX rfl) rfl T.q0O Sy (bj (t9 rfl IH (E6 rfl T.q0j (bj bC (bj (pv 1) cm))) (λ_ _ _ _=>(aJ (i:=0) IH.nd rfl MH)) (λ_ _ _ _=>FV) (λ_ _ _ _=>(mZ (Dw T) (hr.mono MA) rfl T.F_B (bj (pv 1) (bj (pv 0) cm))))) cm)))
   (l5 (mG (bD mS (bD bF (bD bF (mZ (Dx T) (hr.mono MA) rfl T.F_D (bj (pv 0) cm)) (pv 3)) (pv 2)) bC)))),?_⟩
  walk_at "a";refine⟨L8,L8,?_⟩;refine aeh (λi=>.int (aX y (1+(i:Int)))) L8 (λi H' R hi s1 hR=>?_) (λD H' hD s1 e1=>?_)
  ·walk_at "a";exact⟨_,_,rfl,L8,L8,hR H' (av.refl _)⟩
  ·refine⟨D,rfl,(XB (m - 1).toNat).map λ(i:Nat)=>aX y (1+(i:Int)),bb.of (by rw[e1,Wk];rfl),?_⟩;simp only[Az];walk_at "a";exact k H' s1
def vR(u:Str):Prop:=u="days"\/u="months"\/u="years"
def tH(d k:Int)(u:Str)(r:Int):Prop:=(u="days"/\r=d+k)\/(u="months"/\∃y m n,sk d y m n/\r=xS y m n k)\/(u="years"/\∃y m n,sk d y m n/\r=xS y m n (k*12))
theorem IM:¬(("months":Str)="days"):=MN
theorem IP:¬(("years":Str)="days"):=MN
theorem IQ:¬(("months":Str)="years"):=MN
def abT:Sp:=λvs H Q _=>∃(d k:Int)(u:Str),vs=[.int d,.int k,.str u]/\vR u/\∀r H',tH d k u r->av H H'->Q (.int r) H'
theorem aeH(T:Txt Z mg t):aB P w Z mg base MX 5 t.a_H t.d_H ["day","many","unit"] abT:=by
 refine T.F_H.F.ok uB (λvs H Q E h=>?_) (λcdv A outer s H vs Q E hr h=>?_)
 ·obtain⟨d,k,u,rfl,_⟩:=h;rfl
 ·obtain⟨d,mk,u,rfl,hu,k⟩:=h;refine⟨_,(gW (sM (rR vo (pv 2) A3 (aD _)) (l5 (mG (bD bF (pv 0) (pv 1)))) sL)
   (gW (mR (i:=3) uB.nd rfl MH (ES (rR vo (pv 2) A3 (aD _)) (bD rg (pv 1) bC) (pv 1)))
   (gW (mR (i:=4) uB.nd rfl MH (mZ (Sk T) (hr.mono MA) rfl T.F_F (bj (pv 0) cm)))
   (gW (mR (i:=5) uB.nd rfl MH (bD bF (bD mS (bD bF (bD rg (pU aE (pv 4) bC (λ_ _=>rfl)) bC) (pU aE (pv 4) bC (λ_ _=>rfl))) bC) (pv 3)))
   (gW (mR (i:=6) uB.nd rfl MH (bD qw (pv 5) bC))
   (gW (mR (i:=7) uB.nd rfl MH (bD bF (bD rj (pv 5) bC) bC))
   (l5 (mG (mZ (aaT T) (hr.mono MA) rfl T.F_G (bj (pv 6) (bj (pv 7) (bj (dA (Bg rfl) rfl T.q0D RM (bj (pU aE (pv 4) bC (λ_ _=>rfl)) (bj (mZ (Dw T) (hr.mono MA) rfl T.F_B (bj (pv 6) (bj (pv 7) cm))) cm))) cm)))))))))))),?_⟩
  walk_at "a";by_cases hd:u="days"
  ·rw[M8 hd];exact k _ H (.inl ⟨hd,rfl⟩) (av.refl _)
  ·rw[M4 hd];by_cases hy:u="years"
   ·rw[M8 hy];refine⟨d,rfl,λp H' y m n D s1 _ e1=>?_⟩;refine qA (bo.of e1) rfl ⟨y,rfl,qA (bo.of e1) rfl ⟨m,rfl,qA (bo.of e1) rfl ?_⟩⟩;refine⟨_,_,rfl,L8,L8,n,rfl,_,rfl,_,_,_,rfl,L8,L8,λH2 s2=>?_⟩;exact k _ H2 (.inr (.inr ⟨hy,y,m,n,D,by unfold xS;rw[F0]⟩)) (s1.trans s2)
   ·rw[M4 hy];have hm:u="months":=by rcases hu with z|z|z;exact absurd z hd;exact z;exact absurd z hy
    refine⟨d,rfl,λp H' y m n D s1 _ e1=>?_⟩;refine qA (bo.of e1) rfl ⟨y,rfl,qA (bo.of e1) rfl ⟨m,rfl,qA (bo.of e1) rfl ?_⟩⟩;refine⟨_,_,rfl,L8,L8,n,rfl,_,rfl,_,_,_,rfl,L8,L8,λH2 s2=>?_⟩;exact k _ H2 (.inr (.inl ⟨hm,y,m,n,D,by unfold xS;rw[F0]⟩)) (s1.trans s2)
def F_H:Fa:=λds Q=>∃(d i:Int)(u:Str),ds=[.int d,.int i,.str u]/\vR u/\∀r,tH d i u r->Q (.int r)
theorem IS(T:Txt Z mg t):aB P w Z mg base MX 5 t.a_H t.d_H ["day","many","unit"] (aQ Z F_H):=
 (aeH T).imp λvs H Q E uu=>by
  obtain⟨O,ds,Qd,tr,hs,⟨d,i,u,e,hu,q⟩,k⟩:=uu;subst e;cases hs with
  |cons a r=>cases r with
   |cons b r=>cases r with
    |cons c r=>cases r;cases a;cases b;cases c;exact⟨d,i,u,rfl,hu,λz H' L s1=>k _ _ H' (q z L) s1 (.int _)⟩
theorem abS(h:tH d k u r)(h':tH d k u r'):r=r':=by
 rcases h with⟨e,h⟩|⟨e,y,m,n,D,h⟩|⟨e,y,m,n,D,h⟩<;>rcases h' with⟨e',h'⟩|⟨e',y',m',n',D',h'⟩|⟨e',y',m',n',D',h'⟩
 ·rw[h,h']
 ·exact absurd (e'.symm.trans e) IM
 ·exact absurd (e'.symm.trans e) IP
 ·exact absurd (e.symm.trans e') IM
 ·obtain⟨rfl,rfl,rfl⟩:=D.uniq D';rw[h,h']
 ·exact absurd (e.symm.trans e') IQ
 ·exact absurd (e.symm.trans e') IP
 ·exact absurd (e'.symm.trans e) IQ
 ·obtain⟨rfl,rfl,rfl⟩:=D.uniq D';rw[h,h']
structure Pp where
 d:Int
 nm:Str
 kd:Str
 ms:List Str
def Pp.enc(p:Pp):L7:= .tuple [.str (VY "paper"),.int p.d,.str p.nm,.str p.kd,.tuple (p.ms.map .str)]
def Pp.key(p:Pp):Int×Str:=(p.d,p.nm)
def oM:L7->Int×Str
 | .tuple (_:: .int d:: .str n::_)=>(d,n)
 |_=>(0,VY "")
def Pp.lt(a b:Pp):Prop:=aY a.key b.key=true
instance (a b:Pp):Decidable (a.lt b):=by unfold Pp.lt;infer_instance
theorem IT(p:Int×Str):aY p p=false:=by unfold aY;simp[List.lt_irrefl]
theorem IU(h1:aY a b=true)(h2:aY b c=true):aY a c=true:=by
 unfold aY at h1 h2⊢;simp only[Zn,Xs,decide_eq_true_eq]at h1 h2⊢;rcases h1 with h1|⟨h1,h1'⟩<;>rcases h2 with h2|⟨h2,h2'⟩
 ·left;omega
 ·left;omega
 ·left;omega
 ·right;exact⟨h1.trans h2,Tb h1' h2'⟩
theorem AA(h:aY a b=true):¬aY b a=true:=λz=>by
 have:=IU h z;rw[IT]at this;cases this
theorem ab3(h:a≠b):aY a b=true\/aY b a=true:=by
 have T:=Hh (n:=2) (kp:=λi=>if i=0 then a else b) (λi j hi hj e=>by
  have:i=0\/i=1:=L8
  have:j=0\/j=1:=L8
  rcases ‹i=0\/i=1› with rfl|rfl<;>rcases ‹j=0\/j=1› with rfl|rfl
  ·rfl
  ·exact absurd e h
  ·exact absurd e.symm h
  ·rfl)
 have:=T.tot 0 1 L8 L8 L8;simp at this;cases hb:aY b a with
 |true=>exact .inr rfl
 |false=>rw[hb]at this;exact .inl (by simpa using this)
theorem Pp.lt_irr(a:Pp):¬a.lt a:=by unfold Pp.lt;rw[IT];simp
theorem Pp.lt_tr{a b c:Pp}(h1:a.lt b)(h2:b.lt c):a.lt c:=IU h1 h2
theorem sA{α:Type}{r:α->α->Prop}(as:∀a b,r a b->¬r b a):∀{l1 l2:List α},l1.Perm l2->l1.Pairwise r->l2.Pairwise r->l1=l2
 | [],l2,p,_,_=>by rw[p.nil_eq]
 |a::l1,[],p,_,_=>by have:=p.length_eq;simp at this
 |a::l1,b::l2,p,h1,h2=>by
  have e:a=b:=by
   have m1:a∈b::l2:=p.mem_iff.mp MC;have m2:b∈a::l1:=p.mem_iff.mpr MC;rcases Wc.mp m1 with e|m1
   ·exact e
   ·rcases Wc.mp m2 with e|m2
    ·exact e.symm
    ·exact absurd ((XO.mp h1).1 b m2) (as _ _ ((XO.mp h2).1 a m1))
  subst e;rw[sA as ((List.perm_cons a).mp p) (XO.mp h1).2 (XO.mp h2).2]
def uK(x:Pp):List Pp->List Pp
 | []=>[x]
 |y::l=>if x.lt y then x::y::l else y::uK x l
def bV(ps:List Pp):List Pp:=ps.foldr uK []
theorem Dy(x:Pp):∀l,(uK x l).Perm (x::l)
 | []=>.refl _
 |y::l=>by
  unfold uK;split
  ·exact .refl _
  ·exact((Dy x l).cons y).trans (.swap x y l)
theorem pz:∀ps:List Pp,(bV ps).Perm ps
 | []=>.refl _
 |x::ps=>(Dy x (bV ps)).trans ((pz ps).cons x)
theorem IV{x:Pp}:∀{l:List Pp},(∀y∈l,y.nm≠x.nm)->l.Pairwise Pp.lt->(uK x l).Pairwise Pp.lt
 | [],_,_=>SE _ _
 |y::l,hn,h=>by
  have hp:=XO.mp h;unfold uK;split
  ·rename_i hl;refine XO.mpr ⟨λz hz=>?_,h⟩;rcases Wc.mp hz with e|e
   ·subst e;exact hl
   ·exact Pp.lt_tr hl (hp.1 z e)
  ·rename_i hl;refine XO.mpr ⟨λz hz=>?_,IV (λz hz=>hn z (by simp[hz])) hp.2⟩;rcases Wc.mp ((Dy x l).mem_iff.mp hz) with e|e
   ·subst e;rcases ab3 (a:=y.key) (b:=z.key) (λz=>hn y MC (congrArg RK z)) with w|w
    ·exact w
    ·exact absurd w hl
   ·exact hp.1 z e
theorem uL:∀{ps:List Pp},(ps.map (·.nm)).Nodup->(bV ps).Pairwise Pp.lt
 | [],_=>.nil
 |x::ps,h=>by
  rw[V2,XW]at h;exact IV (λy hy e=>h.1 (by rw[<-e];exact Wb.mpr ⟨y,(pz ps).mem_iff.mp hy,rfl⟩)) (uL h.2)
theorem qI:x∈bV ps↔x∈ps:=(pz ps).mem_iff
theorem qJ:(bV ps).length=ps.length:=(pz ps).length_eq
theorem Pp.asym(a b:Pp)(h:a.lt b):¬b.lt a:=AA h
theorem abe{ps os:List Pp}(nd:(ps.map (·.nm)).Nodup)(hp:os.Perm ps)(hs:os.Pairwise Pp.lt):os=bV ps:=
 sA Pp.asym (hp.trans (pz ps).symm) hs (uL nd)
theorem Dz{ps:List Pp}(nd:(ps.map (·.nm)).Nodup):((ps.filter f).map (·.nm)).Nodup:=nd.sublist (YL.map _)
theorem IW{ps:List Pp}(nd:(ps.map (·.nm)).Nodup):bV (ps.filter f)=(bV ps).filter f:=
 (abe (Dz nd) ((pz ps).filter f) ((uL nd).sublist YL)).symm
theorem acI{ps:List Pp}{ds:List L7}(nd:(ps.map (·.nm)).Nodup)(hp:ds.Perm (ps.map Pp.enc))(hs:ds.Pairwise λa b=>aY (oM a) (oM b)=true):ds=(bV ps).map Pp.enc:=by
 refine sA (λa b h=>AA h) (hp.trans ((pz ps).symm.map _)) hs ?_;rw[X1];exact uL nd
theorem abf{ps:List Pp}(nd:(ps.map (·.nm)).Nodup)(ha:a∈ps)(hb:b∈ps)(e:a.nm=b.nm):a=b:=by
 induction ps with
 |nil=>cases ha
 |cons x ps ih=>
  rw[V2,XW]at nd;rcases Wc.mp ha with ea|ha1<;>rcases Wc.mp hb with eb|hb1
  ·rw[ea,eb]
  ·subst ea;exact absurd (Wb.mpr ⟨b,hb1,e.symm⟩) nd.1
  ·subst eb;exact absurd (Wb.mpr ⟨a,ha1,e⟩) nd.1
  ·exact ih nd.2 ha1 hb1
structure sC (ps:List Pp):Prop where
 ln:ps.length<=41
 nd:(ps.map (·.nm)).Nodup
 nm:∀p∈ps,V6 p.nm=true
 kd:∀p∈ps,V6 p.kd=true
 ms:∀p∈ps,(∀m∈p.ms,V6 m=true)/\p.ms.length<=50
theorem sC.filter(g:sC ps)(f:Pp->Bool):sC (ps.filter f):=
 ⟨Wy (Xi _ _) g.ln,Dz g.nd,λp hp=>g.nm p (Wr.mp hp).1,λp hp=>g.kd p (Wr.mp hp).1,λp hp=>g.ms p (Wr.mp hp).1⟩
def AB(c p:Pp):Bool:=c.ms.contains p.nm && aY p.key c.key
def pA(ps:List Pp)(c:Pp):List Pp:=(bV ps).filter (AB c)
inductive De where
 |pap (p:Pp)
 |oth (w:Str) (d:Int) (nm:Str) (r:List L7)
def De.enc:De->L7
 | .pap p=>p.enc
 | .oth w d nm r=>.tuple (.str w:: .int d:: .str nm::r)
def De.w:De->Str
 | .pap _=>VY "paper"
 | .oth w _ _ _=>w
def De.d:De->Int
 | .pap p=>p.d
 | .oth _ d _ _=>d
def De.nm:De->Str
 | .pap p=>p.nm
 | .oth _ _ nm _=>nm
def De.pp:De->Option Pp
 | .pap p=>some p
 |_=>none
def aI(xs:List De):List Pp:=xs.filterMap De.pp
structure qK (xs:List De):Prop where
 gp:sC (aI xs)
 np:∀w d nm r,De.oth w d nm r∈xs->w≠VY "paper"
 ln:xs.length<=41
 w:∀x∈xs,V6 x.w=true
 nm:∀x∈xs,V6 x.nm=true
theorem IX:p∈aI xs↔De.pap p∈xs:=by
 unfold aI;rw[Yy];constructor
 ·rintro⟨x,hx,e⟩;cases x with
  |pap q=>cases e;exact hx
  |oth w d nm r=>cases e
 ·intro h;exact⟨_,h,rfl⟩
theorem IY(ps:List Pp):aI (ps.map De.pap)=ps:=by
 unfold aI;rw[Y4];exact List.filterMap_some
theorem Sx(ps:List Pp):ps.map Pp.enc=(ps.map De.pap).map De.enc:=by rw[Wk];rfl
theorem DC:V6 (VY "paper")=true:=MN
theorem qK.of(g:sC ps):qK (ps.map De.pap):=by
 refine⟨by rw[IY];exact g,λw d nm r h=>?_,by rw[V0];exact g.ln,λx hx=>?_,λx hx=>?_⟩
 ·obtain⟨p,_,e⟩:=Wb.mp h;cases e
 ·obtain⟨p,_,rfl⟩:=Wb.mp hx;exact DC
 ·obtain⟨p,hp,rfl⟩:=Wb.mp hx;exact g.nm p hp
local macro_rules | `(tactic| walk_at "d") =>do let a <- OP "cD V2 WD V5 WB Xc Xd Wj WN WK"; let b <- OP Oj; `(tactic| ((try $a:tactic); $b:tactic))
theorem IZ:aU (aq y8) ["deeds"] ["deed"] 1 [] ⟨V7,[(V1 ".0",Mc),(V1 "deed",Mc)],false,false,[]⟩:= .of
theorem I0:aU (aq y9) ["deeds"] ["deed"] 1 [] ⟨V7,[(V1 ".0",Mc),(V1 "deed",Mc)],false,false,[]⟩:= .of
theorem Ja:aU (aq vM) ["deeds","coming","named"] ["deed","coming"] 1 [1] ⟨V7,[ (V1 ".0",Mc),(V1 "deed",Mc),(V1 "coming",Wi)],false,false,[]⟩:= .of
theorem Jb:aU (aq vM) ["deeds","coming","named"] ["deed","coming"] 1 [1] ⟨V7,[ (V1 ".0",Mc),(V1 "deed",Mc),(V1 "place_of",W4),(V1 "coming",Wi)],false,false,[]⟩:= .of
theorem Jc:aU (aq z5) ["deeds","paper"] ["deed"] 1 [] ⟨V7,[(V1 ".0",Mc),(V1 "deed",Mc)],false,false,[]⟩:= .of
theorem gS{α:Type}{enc:α->L7}{g:DG}{tc:DB}{te:DT}{δ0:Dl}{xs:List α}{Q:List L7->Prop}(p:α->Bool)(f:α->L7)
 (h:∀x∈xs,∀(R:L7->Prop) (S:Prop),(if p x=true then R (f x) else S)->g (enc x) δ0 λδ2=>tc δ2 λok=>if ok=true then te δ2 R else S)(q:Q ((xs.filter p).map f)):mV g tc te δ0 (xs.map enc) Q:=by
 refine⟨λi acc=>acc=((xs.take i).filter p).map f,rfl,?_,?_⟩
 ·rintro i z acc hz rfl;rw[Wm]at hz;cases hz':xs[i]? with
  |none=>rw[hz']at hz;cases hz
  |some x=>
   rw[hz']at hz;cases hz;refine h x (W0 hz') (λy=>((xs.take i).filter p).map f++[y]=((xs.take (i+1)).filter p).map f) (((xs.take i).filter p).map f=((xs.take (i+1)).filter p).map f) ?_;rw[XA,hz'];by_cases e:p x=true
   ·rw[M8 e];simp[e]
   ·rw[M4 e];simp[e]
 ·rintro acc rfl;rw[V0,WU (V4 _)];exact q
theorem qL{α:Type}{enc:α->L7}{g:DG}{tc:DB}{te:DT}{δ0:Dl}{xs:List α}{Q:List L7->Prop}(p:α->Bool)(f:α->L7)
 (h:∀x∈xs,∀(R:L7->Prop) (S:Prop),(p x=true->R (f x))->(p x=false->S)->g (enc x) δ0 λδ2=>tc δ2 λok=>if ok=true then te δ2 R else S)(q:Q ((xs.filter p).map f)):mV g tc te δ0 (xs.map enc) Q:=
 gS p f (λx hx R S z=>h x hx R S (λe=>by rw[M8 e]at z;exact z) (λe=>by rw[M4 (by rw[e];exact We)]at z;exact z)) q
theorem pB{α:Type}(l:List α):l.filter (λ_=>true)=l:=VF.mpr λ_ _=>rfl
theorem cI{a b:Str}(h:a≠b):(a==b)=false:=by simpa using h
theorem abm{ws:List Str}:((ws.map V8).any λd=>Ws d (.str w))=ws.contains w:=by
 induction ws with
 |nil=>rfl
 |cons a ws ih=>
  rw[V2,WY,ih,bT,QZ];congr 1;by_cases h:a=w
  ·simp[h]
  ·rw[cI h,cI (Ne.symm h)]
theorem Jd{ms:List Str}(h:∀m∈ms,V6 m=true):X0 (ms.map .str)=true:=(xA (n:=1) (BV h)).1
def qa(f:Pp->Bool):De->Bool
 | .pap p=>f p
 |_=>false
theorem uM:∀xs:List De,(xs.filter (qa f)).map De.enc=((aI xs).filter f).map Pp.enc
 | []=>rfl
 | .pap p::xs=>by
  have ih:=uM (f:=f) xs;show _=(Q1 f (p::aI xs)).map Pp.enc;rw[W6,W6];by_cases h:f p=true
  ·rw[M8 h,M8 (show qa f (.pap p)=true from h),V2,V2,ih];rfl
  ·rw[M4 h,M4 (show ¬qa f (.pap p)=true from h),ih]
 | .oth w d nm r::xs=>by
  have ih:=uM (f:=f) xs;show _=(Q1 f (aI xs)).map Pp.enc;rw[W6,M4 (show ¬qa f (.oth w d nm r)=true from We),ih]
def DD:Fa:=λds Q=>∃p:De,ds=[p.enc]/\Q (eG (p.d,p.nm))
theorem DH(T:Txt Z mg t):aB P w Z mg base MX 1 t.a_J t.d_J ["deed"] (aQ Z DD):=by
 refine T.F_J.F.okD aad (λds Q h=>?_) (λ_ _ _ _ H O ds Q E hr h=>?_)
 ·obtain⟨p,rfl,_⟩:=h;rfl
 ·obtain⟨p,rfl,q⟩:=h;refine'⟨_,?A,?B⟩
  case A=>
   refine' az ?C
   case' C=>refine' aM ?D
   case' D=>refine' bq ?E
   case' E=>refine' aa ?F ?G
   case F=>exact(aC aE aH (dv 0) ag)
   case' G=>refine' aa ?H ah
   case H=>exact(aC aE aH (dv 0) ag)
  case B=>
  clear hr T;cases p<;>simp only[De.enc,Pp.enc]<;>walk_at "d"<;>exact q
theorem ab2{ps:List Pp}(h:d∈ps.map Pp.enc)(R:L7->Prop)(q:R (eG (oM d))):DD [d] R:=by
 obtain⟨p,hp,rfl⟩:=Wb.mp h;exact⟨.pap p,rfl,q⟩
theorem Je{ps:List Pp}(nd:(ps.map (·.nm)).Nodup):(ps.map Pp.key).Nodup:=by
 rw[ZZ,X1]at nd⊢;exact nd.imp λh e=>h (congrArg RK e)
def F_K:Fa:=λds Q=>∃xs:List De,(ds=[.list (xs.map De.enc)]\/ds=[.tuple (xs.map De.enc)])/\qK xs/\Q (.list ((bV (aI xs)).map Pp.enc))
theorem Jf(T:Txt Z mg t):aB P w Z mg base MX 4 t.a_K t.d_K ["deeds"] (aQ Z F_K):=by
 refine T.F_K.F.okD RN (λds Q h=>?_) (λ_ _ _ _ H O ds Q E hr h=>?_)
 ·obtain⟨ps,h|h,_⟩:=h<;>subst h<;>rfl
 ·obtain⟨xs,e,gd,q⟩:=h;refine'⟨_,?A,?B⟩
  case A=>
   refine' az ?C
   case' C=>refine' aM ?D
   case D=>exact(fe (Hn oM rfl (DH T) (bf.in1 (bf.in1 (hr.mono MA))) T.F_J.b rfl T.F_J.m rfl T.q0k YC (bz (fe (aaD rfl IZ (df (dv 0)) aK bS MA (λ_ _ _ _=>(aJ (i:=0) IZ.nd rfl MH)) (λ_ _ _ _=>(eM (aN (mv hr) mw (aC aE aH (dv 0) ag) aZ (aD _)))) (λ_ _ _ _=>(dv 0)))) bw)))
  case B=>
  clear hr T;have ln:=gd.ln;have pl:=gd.gp.ln;have step:∀x∈xs,∀(R:L7->Prop)(S:Prop),(if qa (λ_=>true) x=true then R x.enc else S)->(if (x.w==VY "paper")=true then R x.enc else S):=λx hx R S h=>by
   cases x with
   |pap p=>exact h
   |oth w d nm r=>
    rw[show((De.oth w d nm r).w==VY "paper")=false from cI (gd.np w d nm r hx),M4 We];rw[M4 (show ¬qa (λ_=>true) (.oth w d nm r)=true from We)]at h;exact h
  have fin:∀ds':List L7,ds'.Perm ((aI xs).map Pp.enc)->ds'.Pairwise (λa b=>aY (oM a) (oM b)=true)->Q (.list ds'):=λds' h1 h2=>by
   rw[acI gd.gp.nd h1 h2];exact q
  have tail:(∀d∈(aI xs).map Pp.enc,∀R:L7->Prop,R (eG (oM d))->DD [d] R)/\((aI xs).map Pp.enc).length < 64/\(((aI xs).map Pp.enc).map oM).Nodup:=by
   refine⟨λd hd R z=>ab2 hd R z,by rw[V0];omega,?_⟩;rw[Wk];exact Je gd.gp.nd
  rcases e with e|e<;>subst e<;>walk_at "d"
  ·refine⟨by rw[V0];omega,gS (qa λ_=>true) De.enc (λx hx R S h=>?_) ?_⟩
   ·have h:=step x hx R S h;cases x<;>simp only[De.enc,De.w,Pp.enc]at h⊢<;> walk_at "d"<;>exact h
   ·rw[uM,pB];exact⟨tail.1,tail.2.1,tail.2.2,fin⟩
  ·refine⟨by rw[V0];omega,gS (qa λ_=>true) De.enc (λx hx R S h=>?_) ?_⟩
   ·have h:=step x hx R S h;cases x<;>simp only[De.enc,De.w,Pp.enc]at h⊢<;> walk_at "d"<;>exact h
   ·rw[uM,pB];exact⟨tail.1,tail.2.1,tail.2.2,fin⟩
def abQ:Fa:=λds Q=>∃(xs:List De)(c:Pp),ds=[.tuple (xs.map De.enc),.str c.nm]/\qK xs/\c∈aI xs/\Q c.enc
theorem DI(T:Txt Z mg t):aB P w Z mg base MX 1 t.a_L t.d_L ["deeds","paper"] (aQ Z abQ):=by
 refine T.F_L.F.okD Ij (λds Q h=>?_) (λ_ _ _ _ H O ds Q E hr h=>?_)
 ·obtain⟨ps,c,rfl,_⟩:=h;rfl
 ·obtain⟨xs,c,rfl,gd,hc,q⟩:=h;refine'⟨_,?A,?B⟩
  case A=>
   refine' ao ?C ?D
   case C=>
    refine' vz XR rfl (dv 0) ?E aK ?F
    case E=>exact(aJ (i:=2) Ij.nd rfl MH)
    case' F=>refine' az ?G
    case' G=>refine' bI ?H ?I bH
    case H=>exact(PW.pt (nF (aN (mv hr) mw (aC aE aH (dv 2) ag) aZ (aD _)) (nA (aN (cF hr.units) cG (aC aE aH (dv 2) ag) (dv 1) (aD _)))))
    case' I=>refine' az ?J
    case J=>exact(aM (dv 2))
   case D=>refine' az aez
  case B=>
  clear hr T;walk_at "d";refine⟨λi Y=>(∀x∈aI (xs.take i),x.nm≠c.nm)/\∃o2,Y=[some (Sl.v (.tuple (xs.map De.enc))),some (Sl.v (.str c.nm)),o2],⟨by simp[aI],_,rfl⟩,?_,?_⟩
  ·rintro i z Y hz ⟨hn,o2,rfl⟩;rw[Wm]at hz;cases hz':xs[i]? with
   |none=>rw[hz']at hz;cases hz
   |some x=>
    rw[hz']at hz;cases hz;have hx:=W0 hz';cases x with
    |pap p=>
     simp only[De.enc,Pp.enc];walk_at "d";refine⟨cQ.mpr (gd.nm _ hx),cQ.mpr (gd.gp.nm c hc),?_⟩;split
     ·rename_i h;have e:=abf gd.gp.nd (IX.mpr hx) hc (eq_of_beq h);subst e;exact q
     ·rename_i h;refine⟨λy hy=>?_,_,rfl⟩;rw[XA,hz']at hy;unfold aI at hy;rw[Td]at hy;rcases Wo.mp hy with z|z
      ·exact hn y z
      ·have:y=p:=by simpa [De.pp]using z
       rw[this];exact λe=>h (by rw[e];exact beq_self_eq_true _)
    |oth w d nm r=>
     simp only[De.enc];walk_at "d";rw[cI (gd.np w d nm r hx),M4 We];refine⟨λy hy=>?_,_,rfl⟩;rw[XA,hz']at hy;unfold aI at hy;rw[Td]at hy;rcases Wo.mp hy with z|z
     ·exact hn y z
     ·simp[De.pp]at z
  ·rintro Y ⟨hn,o2,rfl⟩;rw[V0,WU (V4 _)]at hn;exact absurd rfl (hn c hc)
def F_M:Fa:=λds Q=>∃xs:List De,ds=[.tuple (xs.map De.enc)]/\qK xs/\Q (.tuple (((bV (aI xs)).map (·.nm)).map .str))
theorem DJ(T:Txt Z mg t):aB P w Z mg base MX 5 t.a_M t.d_M ["deeds"] (aQ Z F_M):=by
 refine T.F_M.F.okD abZ (λds Q h=>?_) (λ_ _ _ _ H O ds Q E hr h=>?_)
 ·obtain⟨ps,rfl,_⟩:=h;rfl
 ·obtain⟨xs,rfl,gd,q⟩:=h;refine'⟨_,?A,?B⟩
  case A=>
   refine' az ?C
   case' C=>refine' aM ?D
   case D=>exact(PE.imp (lY nX rfl T.q0h ny (bz (fe (mJ rfl I0 (df (au (Jf T) hr T.F_K (aa (dv 0) ah))) aK bS MA (λ_ _ _ _=>(aJ (i:=0) I0.nd rfl MH)) (λ_ _ _ _=>mK) (λ_ _ _ _=>(aC aE aH (dv 0) ag)))) bw)) (cf n5))
  case B=>
  clear hr T;walk_at "d";refine⟨xs,.inr rfl,gd,_,rfl,by rw[V0,qJ];have:=gd.gp.ln;omega,gS (λ_=>true) (λp:Pp=>.str p.nm) (λx hx R S h=>?_) ?_⟩
  ·simp only[Pp.enc];walk_at "d";rw[M8 rfl]at h;exact h
  ·rw[pB];rw[Wk]at q;exact q
def aaJ:Fa:=λds Q=>∃(xs:List De)(c:Pp),ds=[.tuple (xs.map De.enc),c.enc]/\qK xs/\c∈aI xs/\Q (.list ((pA (aI xs) c).map Pp.enc))
theorem Jg(T:Txt Z mg t):aB P w Z mg base MX 5 t.a_N t.d_N ["deeds","coming"] (aQ Z aaJ):=by
 refine T.F_N.F.okD Ik (λds Q h=>?_) (λ_ _ _ _ H O ds Q E hr h=>?_)
 ·obtain⟨ps,c,rfl,_⟩:=h;rfl
 ·obtain⟨xs,c,rfl,gd,hc,q⟩:=h;refine'⟨_,?A,?B⟩
  case A=>
   refine' ao ?C ?D
   case C=>exact(tu (i:=2) Ik.nd rfl MH (sf rfl Ja (df (dv 0)) aK bS MA (λ_ _ _ _=>(aJ (i:=0) Ja.nd rfl MH)) (λ_ _ _ _=>(eM (PW.pt (nF (aN (mv hr) mw (aC aE aH (dv 0) ag) aZ (aD _)) (nA (aN (vD hr) r6 (aC aE aH (dv 0) ag) (aC aE aH (dv 1) ag) rfl)))))) (λ_ _ _ _=>(dv 0))))
   case' D=>refine' az ?E
   case' E=>refine' aM ?F
   case F=>exact(au (Jf T) hr T.F_K (aa (fe (mJ rfl Jb (df (dv 2)) aK bS MA (λ_ _ _ _=>(aJ (i:=0) Jb.nd rfl MH)) (λ_ _ _ _=>(eM (aN (aac hr.units0) abD (au (DH T) hr T.F_J (aa (dv 0) ah)) (au (DH T) hr T.F_J (aa (dv 1) ah)) (aD _)))) (λ_ _ _ _=>(dv 0)))) ah))
  case B=>
  clear hr T;have ln:=gd.ln;have pl:=gd.gp.ln;obtain⟨hm1,hm2⟩:=gd.gp.ms c hc;walk_at "d";refine⟨by rw[V0];omega,gS (qa λp=>c.ms.contains p.nm) De.enc (λx hx R S h=>?_) ?_⟩
  ·cases x with
   |pap p=>
    simp only[De.enc,Pp.enc];walk_at "d";refine⟨cQ.mpr (gd.nm _ hx),Jd hm1,?_⟩;rw[abm];exact h
   |oth w d nm r=>
    simp only[De.enc];walk_at "d";rw[cI (gd.np w d nm r hx),M4 We];rw[M4 (show ¬qa _ (.oth w d nm r)=true from We)]at h;exact h
  ·rw[uM];have fl:=Xi (λp:Pp=>c.ms.contains p.nm) (aI xs);refine⟨by rw[V0];omega,gS (λp=>aY p.key c.key) Pp.enc (λx hx R S h=>?_) ?_⟩
   ·walk_at "d";exact⟨.pap x,rfl,.pap c,rfl,x.key,rfl,c.key,rfl,h⟩
   ·rw[Sx];refine⟨_,.inl rfl,qK.of ((gd.gp.filter _).filter _),?_⟩;rw[IY,IW (Dz gd.gp.nd),IW gd.gp.nd,U8];have e:(bV (aI xs)).filter (λa=>aY a.key c.key && c.ms.contains a.nm)=pA (aI xs) c:=by
     unfold pA AB;congr 1;funext a;rw[Vs]
    rw[e];exact q
theorem DK(g:sC ps):(pA ps c).length<=41:=by
 unfold pA;have h1:=Xi (AB c) (bV ps);have h2:=qJ (ps:=ps);have h3:=g.ln;omega
def F_O:Fa:=λds Q=>∃(xs:List De)(c:Pp),ds=[.tuple (xs.map De.enc),.str c.nm]/\qK xs/\c∈aI xs/\Q (.tuple (((pA (aI xs) c).map (·.nm)).map .str))
theorem aa4(T:Txt Z mg t):aB P w Z mg base MX 6 t.a_O t.d_O ["deeds","paper"] (aQ Z F_O):=by
 refine T.F_O.F.okD acd (λds Q h=>?_) (λ_ _ _ _ H O ds Q E hr h=>?_)
 ·obtain⟨ps,c,rfl,_⟩:=h;rfl
 ·obtain⟨xs,c,rfl,gd,hc,q⟩:=h;refine'⟨_,?A,?B⟩
  case A=>
   refine' az ?C
   case' C=>refine' aM ?D
   case D=>exact(PE.imp (lY nX rfl T.q0h ny (bz (fe (mJ rfl Jc (df (au (Jg T) hr T.F_N (aa (dv 0) (aa (au (DI T) hr T.F_L (aa (dv 0) (aa (dv 1) ah))) ah)))) aK bS MA (λ_ _ _ _=>(aJ (i:=0) Jc.nd rfl MH)) (λ_ _ _ _=>mK) (λ_ _ _ _=>(aC aE aH (dv 0) ag)))) bw)) (cf n5))
  case B=>
  clear hr T;walk_at "d";refine⟨xs,c,rfl,gd,hc,xs,c,rfl,gd,hc,⟨_,rfl,by rw[V0];have:=DK (c:=c) gd.gp;omega,gS (λ_=>true) (λp:Pp=>.str p.nm) (λx hx R S h=>?_) ?_⟩⟩
  ·simp only[Pp.enc];walk_at "d";rw[M8 rfl]at h;exact h
  ·rw[pB];rw[Wk]at q;exact q
local macro_rules | `(tactic| walk_at "e") =>OP (Oj++" Sl.i.injEq exists_and_left")
theorem Jh:aU (aq y6) ["self","deeds","name","coming"] ["deed","name"] 1 [2] ⟨V7,[ (V1 ".0",Mc),(V1 "deed",Mc),(V1 "name",Wi)],false,false,[]⟩:= .of
theorem DL:aU (aq Ac) ["paper","happening"] ["day","other","happening"] 2 [1] ⟨V7,[ (V1 ".0",Mc),(V1 "day",Mc),(V1 "other",Mc),(V1 "happening",Wi)],false,false,[]⟩:= .of
section
inductive cJ where
 |com
 |fst (wd:Str)
 |lst (wd:Str)
def cJ.enc:cJ->L7
 | .com=>.tuple [.str (VY "coming")]
 | .fst wd=>.tuple [.str (VY "first"),.str wd]
 | .lst wd=>.tuple [.str (VY "last"),.str wd]
def cJ.Ok:cJ->Prop
 | .com=>True
 | .fst wd=>V6 wd=true
 | .lst wd=>V6 wd=true
inductive Pt where
 |two (w kd:Str)
 |five (w kd:Str) (s:cJ) (k:Int) (u:Str)
def Pt.enc:Pt->L7
 | .two w kd=>.tuple [.str w,.str kd]
 | .five w kd s k u=>.tuple [.str w,.str kd,s.enc,.int k,.str u]
def KG(w:Str):Prop:=w=VY "keep"\/w=VY "gone"
def Pt.Ok:Pt->Prop
 | .two w kd=>¬KG w/\V6 w=true/\V6 kd=true
 | .five w kd s k u=>KG w/\V6 kd=true/\s.Ok/\0<=k/\k < 1000/\vR u
def De.isR:De->Bool
 | .oth w _ _ _=>w==VY "rule"
 |_=>false
def De.isH:De->Bool
 | .oth w _ _ _=>w==VY "happens"
 |_=>false
def De.isE:De->Bool
 | .oth w _ _ _=>w==VY "rule" || w==VY "end"
 |_=>false
structure nH (xs:List De):Prop where
 gx:qK xs
 hp:∀d nm r,De.oth (VY "happens") d nm r∈xs->∃wd,r=[.str wd]/\V6 wd=true
 ru:∀d nm r,De.oth (VY "rule") d nm r∈xs->∃pt:Pt,r=[pt.enc]/\pt.Ok
 nd:xs.Nodup
 d0:∀x∈xs,0<=x.d/\x.d < 100000
 re:∀x∈xs,∀y∈xs,x.isE=true->y.isE=true->x.d=y.d->x.nm=y.nm->x=y
def mn(nm:Str):De->Bool
 | .oth w _ n _=>w==VY "happens" && n==nm
 |_=>false
def DM:De->Int×Str
 | .oth _ d _ [.str wd]=>(d,wd)
 |x=>(x.d,VY "")
def nI(xs:List De)(nm:Str):List (Int×Str):=(xs.filter (mn nm)).map DM
theorem SF(g:nH xs)(nm:Str):(nI xs nm).Nodup:=by
 unfold nI;rw[ZZ,X1];refine List.Pairwise.imp_of_mem (λ{a b} ha hb h e=>?_) (g.nd.sublist YL);obtain⟨a1,a2⟩:=Wr.mp ha;obtain⟨b1,b2⟩:=Wr.mp hb;cases a with
 |pap p=>cases a2
 |oth w d n r=>
  cases b with
  |pap p=>cases b2
  |oth w' d' n' r'=>
   simp only[mn,Xs,beq_iff_eq]at a2 b2;obtain⟨rfl,rfl⟩:=a2;obtain⟨rfl,rfl⟩:=b2;obtain⟨wd,rfl,_⟩:=g.hp _ _ _ a1;obtain⟨wd',rfl,_⟩:=g.hp _ _ _ b1;simp only[DM,Z6]at e;exact h (by rw[e.1,e.2])
structure Rp where
 c:Pp
 ts:List Str
 hs:List (Int×Str)
def Rp.enc(C:L9)(r:Rp):L7:=Hs C [(VY "name",.str r.c.nm),(VY "coming",.int r.c.d),(VY "kind",.str r.c.kd),(VY "makers",.tuple (r.ts.map .str)),(VY "happenings",.list (r.hs.map eG))]
open Classical in
def qM(l:List (Int×Str)):List (Int×Str):=if h:∃s:List (Int×Str),s.Perm l/\s.Pairwise (λa b=>aY a b=true) then h.choose else []
theorem SG{s l:List (Int×Str)}(h1:s.Perm l)(h2:s.Pairwise λa b=>aY a b=true):s=qM l:=by
 unfold qM;have h:∃s:List (Int×Str),s.Perm l/\s.Pairwise (λa b=>aY a b=true):=⟨s,h1,h2⟩;rw[dif_pos h];exact sA (λa b z=>AA z) (h1.trans h.choose_spec.1.symm) h2 h.choose_spec.2
def dh(xs:List De)(c:Pp):Rp:=⟨c,(pA (aI xs) c).map (·.nm),qM (nI xs c.nm)⟩
theorem qN(h:g≠f):mj f d ((g,x)::r)=(g,x)::mj f d r:=by rw[mj,M4 h]
theorem ab8:mj (VY "coming") b (mj (VY "name") a [])=[(VY "name",a),(VY "coming",b)]:=by
 rw[show mj (VY "name") a []=[(VY "name",a)] from rfl,qN MN];rfl
theorem abF:mj (VY "kind") c [(VY "name",a),(VY "coming",b)]=[(VY "name",a),(VY "coming",b),(VY "kind",c)]:=by
 rw[qN MN,qN MN];rfl
theorem SJ:mj (VY "makers") d [(VY "name",a),(VY "coming",b),(VY "kind",c)]=[(VY "name",a),(VY "coming",b),(VY "kind",c),(VY "makers",d)]:=by
 rw[qN MN,qN MN,qN MN];rfl
theorem aax:mj (VY "happenings") e [(VY "name",a),(VY "coming",b),(VY "kind",c),(VY "makers",d)]=[(VY "name",a),(VY "coming",b),(VY "kind",c),(VY "makers",d),(VY "happenings",e)]:=by
 rw[qN MN,qN MN,qN MN,qN MN];rfl
def SM(C:L9):Fa:=λds Q=>∃(xs:List De)(c:Pp),ds=[.tuple (xs.map De.enc),.str c.nm]/\nH xs/\c∈aI xs/\((∀z,z∈qM (nI xs c.nm)↔z∈nI xs c.nm)->(qM (nI xs c.nm)).Pairwise (λa b=>aY a b=true)->(qM (nI xs c.nm)).length<=41->Q ((dh xs c).enc C))
theorem AD(T:Txt Z mg t):aB P w Z mg base MX 7 t.a_I t.d_I ["self","deeds","name"] (vH Z t.q0a (SM t.q0a)):=by
 refine T.F_I.F.okI Ii (λds Q h=>?_) (λcdv A outer s H H1 O ds Q E l hr h=>?_)
 ·obtain⟨xs,c,rfl,_⟩:=h;rfl
 ·obtain⟨xs,c,rfl,gd,hc,q⟩:=h;refine'⟨_,?A,?B⟩
  case A=>
   refine' ao ?C ?D
   case C=>exact(bg (i:=3) Ii.nd rfl MH (au (DI T) hr T.F_L (aa (dv 1) (aa (dv 2) ah))))
   case' D=>refine' ao ?E ?F
   case E=>exact(nS (C:=t.q0a) (i:=0) T.q0g T.q0y (pv 0) (aC aE aH (dv 3) ag))
   case' F=>refine' ao ?G ?H
   case G=>exact(nS (C:=t.q0a) (i:=0) T.q0g T.q0l (pv 0) (aC aE aH (dv 3) ag))
   case' H=>refine' ao ?I ?J
   case I=>exact(nS (C:=t.q0a) (i:=0) T.q0g T.q0m (pv 0) (aC aE aH (dv 3) ag))
   case' J=>refine' ao ?K ?L
   case K=>exact(nS (C:=t.q0a) (i:=0) T.q0g T.q0z (pv 0) (au (aa4 T) hr T.F_O (aa (dv 1) (aa (dv 2) ah))))
   case' L=>refine' az ?M
   case M=>exact(nS (C:=t.q0a) (i:=0) T.q0g T.q0G (pv 0) (fe (Qg rfl T.q0k YC (bz (fe (oZ rfl Jh (df (dv 1)) aK bS MA (λ_ _ _ _=>(aJ (i:=0) Jh.nd rfl MH)) (λ_ _ _ _=>(eM (PW.pt (nF (aN (mv hr) mw (aC aE aH (dv 0) ag) aZ (aD _)) (nA (aN (cF hr.units) cG (aC aE aH (dv 0) ag) (dv 1) (aD _))))))) (λ_ _ _ _=>(bq (aa (aC aE aH (dv 0) ag) (aa (aC aE aH (dv 0) ag) ah)))))) bw))))
  case B=>
  clear hr T;simp only[xM,cD,V2,WD,WN,WK,QF,V5,WB,Xc,Xd,Wj];walk_at "e";refine⟨xs,c,rfl,gd.gx,hc,?_⟩;simp only[Pp.enc];walk_at "e";simp only[ab8,abF,SJ,aax];have ln:=gd.gx.ln;have lt:∀n:Nat,n < 10->n < 1000:=λn h=>by omega
  refine⟨lt 1 MA,lt 2 MA,xs,c,rfl,gd.gx,hc,⟨lt 3 MA,by rw[V0];omega,qL (mn c.nm) (λx=>eG (DM x)) (λx hx R S h1 h0=>?_) ?_⟩⟩
  ·cases x with
   |pap p=>
    simp only[De.enc,Pp.enc];walk_at "d";exact h0 rfl
   |oth w d nm r=>
    simp only[De.enc];walk_at "d";by_cases e:w=VY "happens"
    ·subst e;obtain⟨wd,rfl,_⟩:=gd.hp _ _ _ hx;rw[M8 (beq_self_eq_true _)];refine⟨cQ.mpr (gd.gx.nm _ hx),cQ.mpr (gd.gx.gp.nm c hc),?_⟩;split
     ·rename_i h2;exact⟨_,cO,h1 (by simp only[mn,beq_self_eq_true,W9];exact h2)⟩
     ·rename_i h2;exact h0 (by simp only[mn,beq_self_eq_true,W9];simpa using h2)
    ·rw[cI e,M4 We];exact h0 (by simp only[mn,cI e,Zs])
  ·have hl:(nI xs c.nm).length<=41:=by
    unfold nI;rw[V0];have:=Xi (mn c.nm) xs;omega
   refine⟨nI xs c.nm,by unfold nI;rw[Wk];rfl,L8,SF gd c.nm,λhs h1 h2=>⟨lt 4 MA,?_⟩⟩;have e:=SG h1 h2;have q:=q (λz=>by rw[<-e];exact h1.mem_iff) (by rw[<-e];exact h2) (by rw[<-e,h1.length_eq];exact hl);rw[e];exact q
def vS(hs:List (Int×Str)):Prop:=hs.length<=41/\∀z∈hs,V6 z.2=true
def mP(hs:List (Int×Str))(wd:Str):List Int:=(hs.filter λz=>z.2==wd).map (·.1)
def F_V(C:L9):Fa:=λds Q=>∃(r:Rp)(wd:Str),ds=[r.enc C,.str wd]/\vS r.hs/\V6 wd=true/\Q (.list ((mP r.hs wd).map .int))
theorem SN:aW [VY "name",VY "coming",VY "kind",VY "makers",VY "happenings"] [a,b,c,d,e] (VY "happenings")=some e:=by
 simp only[aW];rw[M4 MN,M4 MN,M4 MN,M4 MN,M8 trivial]
theorem AE:aW [VY "name",VY "coming",VY "kind",VY "makers",VY "happenings"] [a,b,c,d,e] (VY "coming")=some b:=by
 simp only[aW];rw[M4 MN,M8 trivial]
theorem AF:aW [VY "name",VY "coming",VY "kind",VY "makers",VY "happenings"] [a,b,c,d,e] (VY "kind")=some c:=by
 simp only[aW];rw[M4 MN,M4 MN,M8 trivial]
theorem Ji(T:Txt Z mg t):aB P w Z mg base MX 1 t.a_V t.d_V ["paper","happening"] (aQ Z (F_V t.q0a)):=by
 refine T.F_V.F.okD aam (λds Q h=>?_) (λ_ _ _ _ H O ds Q E hr h=>?_)
 ·obtain⟨r,wd,rfl,_⟩:=h;rfl
 ·obtain⟨r,wd,rfl,⟨hl,hok⟩,wok,q⟩:=h;refine'⟨_,?A,?B⟩
  case A=>
   refine' az ?C
   case' C=>refine' aM ?D
   case' D=>refine' fe ?E
   case E=>exact(mJ rfl DL (df (bW (C:=t.q0a) T.q0g T.q0G (dv 0))) (oY (cU aK (cU aK oX))) B9 MA (λ_ _ _ _=>(oH (n:=2) rfl (cE (aJ (i:=0) DL.nd rfl MH) (cE (aJ (i:=1) DL.nd rfl MH) oG)))) (λ_ _ _ _=>(eM (aN (cF hr.units) cG (dv 1) (dv 2) (aD _)))) (λ_ _ _ _=>(dv 0)))
  case B=>
  clear hr T;walk_at "d";refine⟨[VY "name",VY "coming",VY "kind",VY "makers",VY "happenings"],_,rfl,_,SN,_,rfl,by rw[V0];omega,gS (λz:Int×Str=>z.2==wd) (λz=>.int z.1) (λx hx R S h=>?_) ?_⟩
  ·simp only[eG];walk_at "d";exact⟨cQ.mpr (hok x hx),cQ.mpr wok,h⟩
  ·unfold mP at q;rw[Wk]at q;exact q
end
theorem Jj:aU (aq z7) ["deeds","words","day","found","deed","known"] ["name","found"] 1 [3] ⟨V7,[ (V1 ".0",Mc),(V1 "name",Mc),(V1 "found",Wi)],false,false,[]⟩:= .of
def F_Q:Fa:=λds Q=>∃(xs:List Rw)(ws:List Str)(n:Int),ds=[.tuple (xs.map Rw.enc),.tuple (ws.map .str),.int n]/\(∀x∈xs,V6 x.w=true)/\X0 (ws.map .str)=true/\xs.length < 64/\∀res,pj ws n xs res->Q (.list (res.map Rw.enc))
theorem acr{ws:List Str}:((ws.map V8).any λd=>Ws d (.str w))=decide (w∈ws):=by
 induction ws with
 |nil=>simp
 |cons a ws ih=>
  rw[V2,WY,ih,bT];by_cases h:a=w
  ·simp[h]
  ·have h':(a==w)=false:=by simpa using h
   rw[h'];simp[Ne.symm h]
theorem Jk(T:Txt Z mg t):aB P w Z mg base MX 1 t.a_Q t.d_Q ["deeds","words","day"] (aQ Z F_Q):=by
 refine T.F_Q.F.okD Aw (λds Q h=>?_) (λ_ _ _ _ H O ds Q E hr h=>?_)
 ·obtain⟨xs,ws,n,rfl,_⟩:=h;rfl
 ·obtain⟨xs,ws,n,rfl,hw,hws,h64,q⟩:=h;refine'⟨_,?A,?B⟩
  case A=>
   refine' ao ?C ?D
   case C=>exact(GZ (i:=3) Aw.nd rfl MH GY)
   case' D=>refine' ao ?E ?F
   case E=>
    refine' vz XR rfl (dv 0) ?G aK ?H
    case G=>exact(aJ (i:=4) Aw.nd rfl MH)
    case' H=>refine' az ?I
    case' I=>refine' bI ?J ?K bH
    case J=>exact(PW.pt (nF (aN (vD hr) r6 (aC aE aH (dv 4) ag) (dv 1) rfl) (nA (aN rn n4 (aC aE aH (dv 4) ag) (dv 2) (aD _)))))
    case' K=>refine' ao ?L ?M
    case L=>exact(bg (i:=5) Aw.nd rfl MH (aeA (i:=3) hr.units (pv 3) (aC aE aH (dv 4) ag) ⟨rfl,rfl,rfl,rfl⟩))
    case' M=>refine' az ?N
    case' N=>refine' bI ?O ?P bH
    case O=>exact(PW.pt (oW (aN sP tw (dv 5) mI (aD _)) (qB (aN wt n4 (aC aE aH (dv 5) ag) (aC aE aH (dv 4) ag) (aD _)))))
    case' P=>refine' az ?Q
    case Q=>exact(G0 (i:=3) hr.units (pv 3) (aC aE aH (dv 4) ag) (dv 4))
   case' F=>refine' az ?R
   case' R=>refine' aM ?S
   case' S=>refine' fe ?T
   case T=>exact(mJ rfl Jj (df (fe (aaf (i:=3) rfl rfl T.q0k YC (pv 3)))) aK bS MA (λ_ _ _ _=>(aJ (i:=0) Jj.nd rfl MH)) (λ_ _ _ _=>mK) (λ_ _ _ _=>(aee (i:=1) hr.units (pv 1) (dv 0) (λ_ _=>rfl))))
  case B=>
  clear hr T;walk_at "d";refine⟨λi Y=>∃L o4 o5,my ws n (xs.take i) L/\Y=[some (Sl.v (.tuple (xs.map Rw.enc))),some (Sl.v (.tuple (ws.map .str))),some (Sl.v (.int n)),some (Sl.k (ph L)),o4,o5],⟨[],_,_,my.nil _ _,rfl⟩,?_,?_⟩
  ·rintro i x Y hx ⟨L,o4,o5,hL,rfl⟩;rw[Wm]at hx;cases hx':xs[i]? with
   |none=>rw[hx']at hx;cases hx
   |some y=>
    rw[hx']at hx;cases hx;have hy:y∈xs:=W0 hx';have tk:xs.take (i+1)=xs.take i++[y]:=by rw[XA,hx'];rfl
    simp only[Rw.enc];walk_at "d";have hle:L.length < 64:=by have:=hL.le;rw[Xr]at this;omega
    have hk:(ph L).length < 16777216:=by unfold ph;rw[V0];omega
    have en:WG (V8 y.w::Wa y.n::V8 y.nm::y.r)=y.enc:=rfl;refine⟨cQ.mpr (hw y hy),hws,?_⟩;rw[acr];by_cases hin:y.w∈ws
    ·rw[M8 (decide_eq_true hin)];by_cases hn:y.n<=n
     ·rw[M8 hn,BY,en];cases hl:mx L y.nm with
      |none=>
       rw[M8 (show mM ((Option.map Rw.enc none).getD ZE)=true from rfl)];exact⟨hk,_,by rw[tk];exact hL.put ⟨hin,hn⟩ (λz e=>by rw[hl]at e;cases e),G2 L y.nm y,_,rfl⟩
      |some z=>
       rw[M4 (by simp[mM,Rw.enc])];refine⟨_,rfl,_,cN,_,rfl,?_⟩;split
       ·rename_i hlt;exact⟨hk,_,by rw[tk];exact hL.put ⟨hin,hn⟩ (λz' e=>by rw[hl]at e;cases e;exact hlt),G2 L y.nm y,_,rfl⟩
       ·rename_i hlt;exact⟨L,by rw[tk];exact hL.keep hl hlt,rfl,_,rfl⟩
     ·rw[M4 hn];exact⟨L,by rw[tk];exact hL.skip (λz=>hn z.2),rfl,_,rfl⟩
    ·rw[M4 (by simpa using hin)];exact⟨L,by rw[tk];exact hL.skip (λz=>hin z.1),rfl,_,rfl⟩
  ·rintro Y ⟨L,o4,o5,hL,rfl⟩;walk_at "d";rw[V0,WU (V4 _)]at hL;have hle:L.length < 64:=by have:=hL.le;omega
   refine⟨L.map (·.1),by unfold ph;rw[Wk,Wk];rfl,by rw[V0];exact hle,by rw[V0,(rJ _).length_eq,V0];omega,?_⟩;refine xC (λx=>match x with | .str nm=>((mx L nm).map Rw.enc).getD .none|_=>.none) (λx hx R hR=>?_) ?_
   ·obtain⟨nm,hnm,rfl⟩:=Wb.mp hx;obtain⟨z,hz⟩:=BZ ((rJ _).mem_iff.mp hnm);walk_at "d";refine⟨z.enc,by rw[BY,hz];rfl,?_⟩;have hR:R (((mx L nm).map Rw.enc).getD .none):=hR;rw[hz]at hR;exact hR
   ·have e:∀l:List Str,(∀a∈l,a∈L.map (·.1))->(l.map V8).map (λx=>match x with | .str nm=>((mx L nm).map Rw.enc).getD .none|_=>.none)=(l.filterMap (mx L)).map Rw.enc:=by
     intro l
     induction l with
     |nil=>intro _;rfl
     |cons a l ih=>
      intro hl;obtain⟨z,hz⟩:=BZ (hl a MC);rw[V2,V2,XS,hz,ih λb hb=>hl b (by simp[hb])];simp[hz]
    rw[e _ λa ha=>(rJ _).mem_iff.mp ha];exact q _ hL.res
theorem Jl:aU (aq z9) ["deeds","day"] ["deed"] 1 [] ⟨V7,[(V1 ".0",Mc),(V1 "deed",Mc)],false,false,[]⟩:= .of
section
def pC:List Str:=["rule","end"]
def rN(res:List Rw):List L7:=(res.filter λx=>x.w==VY "rule").map λx=>.tuple [.str x.nm,x.r.headD .none]
structure Jm (xs:List Rw):Prop where
 st:∀x∈xs,V6 x.w=true
 ru:∀x∈xs,x.w=VY "rule"->∃p,x.r=[p]
 le:xs.length < 64
def SQ:Fa:=λds Q=>∃(xs:List Rw)(n:Int),ds=[.tuple (xs.map Rw.enc),.int n]/\Jm xs/\∀res,pj pC n xs res->Q (.tuple (rN res))
theorem ace(T:Txt Z mg t):aB P w Z mg base MX 2 t.a_R t.d_R ["deeds","day"] (aQ Z SQ):=by
 refine T.F_R.F.okD RQ (λds Q h=>?_) (λ_ _ _ _ H O ds Q E hr h=>?_)
 ·obtain⟨xs,n,rfl,_⟩:=h;rfl
 ·obtain⟨xs,n,rfl,ok,q⟩:=h;refine'⟨_,?A,?B⟩
  case A=>
   refine' az ?C
   case' C=>generalize hG2:VE _ _ _ _=eg2
   refine' aM ?D
   case' D=>subst hG2
   exact(PE.imp (lY nX rfl T.q0h ny (bz (fe (mJ rfl Jl (df (au (Jk T) hr T.F_Q (aa (dv 0) (aa (bq (aa aZ (aa aZ ah))) (aa (dv 1) ah))))) aK bS MA (λ_ _ _ _=>(aJ (i:=0) Jl.nd rfl MH)) (λ_ _ _ _=>(eM (aN (mv hr) mw (aC aE aH (dv 0) ag) aZ (aD _)))) (λ_ _ _ _=>(bq (aa (aC aE aH (dv 0) ag) (aa (aC aE aH (dv 0) ag) ah)))))) bw)) (cf n5))
  case B=>
  clear hr T;walk_at "d";refine⟨xs,pC,n,rfl,ok.st,MN,ok.le,λres hres=>⟨_,rfl,?_,?_⟩⟩
  ·rw[V0];have:=hres.le;have:=ok.le;omega
  refine Ph (λx=>match x with | .tuple (.str w:: .int n:: .str nm::r)=>if (w==VY "rule")=true then some (.tuple [.str nm,r.headD .none]) else none|_=>none) (λx hx R S h=>?_) ?_
  ·obtain⟨y,hy,rfl⟩:=Wb.mp hx;simp only[Rw.enc]at h⊢;walk_at "d";by_cases hr:(y.w==VY "rule")=true
   ·rw[M8 hr]at h⊢;obtain⟨p,hp⟩:=ok.ru y (hres.it y hy).1 (eq_of_beq hr);rw[hp]at h⊢;exact⟨p,cO,h⟩
   ·rw[M4 hr]at h⊢;exact h
  ·have e:∀l:List Rw,(l.map Rw.enc).filterMap (λx=>match x with | .tuple (.str w:: .int n:: .str nm::r)=>if (w==VY "rule")=true then some (.tuple [.str nm,r.headD .none]) else none|_=>none)=rN l:=by
    intro l
    induction l with
    |nil=>rfl
    |cons a l ih=>
     rw[V2,XS,ih];unfold rN;simp only[Rw.enc,W6];by_cases hr:(a.w==VY "rule")=true
     ·rw[M8 hr,M8 hr];rfl
     ·rw[M4 hr,M4 hr]
   rw[e];exact q res hres
theorem Jn{s s':cJ}(h:s.enc=s'.enc):s=s':=by
 have n1:VY "first"≠VY "last":=MN
 cases s<;>cases s'<;>simp only[cJ.enc,WL,Wx,WS,and_true,reduceCtorEq,and_false]at h
 ·rfl
 ·rw[h.2]
 ·exact absurd h.1 n1
 ·exact absurd h.1.symm n1
 ·rw[h.2]
theorem Jo{a b:Pt}(h:a.enc=b.enc):a=b:=by
 cases a<;>cases b<;>simp only[Pt.enc,WL,Wx,WS,WT,and_true,reduceCtorEq,and_false]at h
 ·rw[h.1,h.2]
 ·obtain⟨h1,h2,h3,h4,h5⟩:=h;rw[h1,h2,Jn h3,h4,h5]
theorem Jp{α β:Type}{f:α->β}:∀{l:List α},(l.map f).Nodup->∀{a b:α},a∈l->b∈l->f a=f b->a=b
 |x::l,nd,a,b,ha,hb,e=>by
  rw[V2,XW]at nd;rcases Wc.mp ha with ea|ha1<;>rcases Wc.mp hb with eb|hb1
  ·rw[ea,eb]
  ·subst ea;exact absurd (Wb.mpr ⟨b,hb1,e.symm⟩) nd.1
  ·subst eb;exact absurd (Wb.mpr ⟨a,ha1,e⟩) nd.1
  ·exact Jp nd.2 ha1 hb1 e
def De.rw:De->Rw
 | .pap p=>⟨VY "paper",p.d,p.nm,[.str p.kd,.tuple (p.ms.map .str)]⟩
 | .oth w d nm r=>⟨w,d,nm,r⟩
theorem De.rw_enc(x:De):x.rw.enc=x.enc:=by cases x<;>rfl
theorem Jq(xs:List De):(xs.map De.rw).map Rw.enc=xs.map De.enc:=by
 rw[Wk];congr 1;funext x;exact x.rw_enc
def Jr(xs:List De)(n:Int)(z:Str×Pt):Prop:=∃d,d<=n/\De.oth (VY "rule") d z.1 [z.2.enc]∈xs/\∀x∈xs,x.isE=true->x.nm=z.1->x.d<=n->x.d<=d
def uN(a b:Str×Pt):Prop:=me a.1 b.1=true/\a.1≠b.1
def rO(xs:List De)(n:Int)(L:List (Str×Pt)):Prop:=L.Pairwise uN/\∀z,z∈L↔Jr xs n z
theorem aap(a b:Str×Pt)(h:uN a b):¬uN b a:=λz=>h.2 (BQ h.1 z.1)
theorem Js{L:List (Str×Pt)}(h:L.Pairwise uN):L.Nodup:=h.imp λ{a b} z e=>z.2 (by rw[e])
theorem aaU{L M:List (Str×Pt)}(h1:L.Pairwise uN)(h2:M.Pairwise uN)(h:∀z,z∈L↔z∈M):L=M:=
 sA aap ((ZC (Js h1) (Js h2)).mpr h) h1 h2
open Classical in
def dM(xs:List De)(n:Int):List (Str×Pt):=if h:∃L,rO xs n L then h.choose else []
theorem Jt(h:rO xs n L):L=dM xs n:=by
 unfold dM;have e:∃L,rO xs n L:=⟨L,h⟩;rw[dif_pos e];exact aaU h.1 e.choose_spec.1 λz=>(h.2 z).trans (e.choose_spec.2 z).symm
def lP(z:Str×Pt):L7:= .tuple [.str z.1,z.2.enc]
theorem acu{x:De}(np:x.rw.w∈pC)(hp:∀p,x≠ .pap p):x.isE=true:=by
 cases x with
 |pap p=>exact absurd rfl (hp p)
 |oth w d nm r=>
  have:w=VY "rule"\/w=VY "end":=by
   have h:w∈pC:=np;unfold pC at h;rcases Wc.mp h with e|h
   ·exact .inl e
   ·rcases Wc.mp h with e|h
    ·exact .inr e
    ·cases h
  rcases this with e|e
  ·simp[De.isE,e]
  ·simp[De.isE,e]
theorem Ju{x:De}(h:x.isE=true):x.rw.w∈pC/\x.rw.nm=x.nm/\x.rw.n=x.d:=by
 cases x with
 |pap p=>cases h
 |oth w d nm r=>
  refine⟨?_,rfl,rfl⟩;simp only[De.isE,Zn,beq_iff_eq]at h;show w∈pC;unfold pC;rcases h with e|e
  ·rw[e];exact WR
  ·rw[e];exact Wu _ WR
theorem SW:VY "paper"∉pC:=MN
theorem Jv(g:nH xs)(h:pj pC n (xs.map De.rw) res):∃L,rO xs n L/\rN res=L.map lP:=by
 have from1:∀x∈res,x.w=VY "rule"->∃pt:Pt,pt.Ok/\x.r=[pt.enc]/\De.oth (VY "rule") x.n x.nm [pt.enc]∈xs:=λx hx hw=>by
  obtain⟨h1,_,_⟩:=h.it x hx;obtain⟨y,hy,rfl⟩:=Wb.mp h1;cases y with
  |pap p=>exact absurd hw (by show VY "paper"≠_;decide+kernel)
  |oth w d nm r=>
   have hw:w=VY "rule":=hw;subst hw;obtain⟨pt,e,ok⟩:=g.ru _ _ _ hy;subst e;exact⟨pt,ok,rfl,hy⟩
 have pick:∀l:List Rw,(∀x∈l,x∈res)->∃L:List (Str×Pt),rN l=L.map lP/\L.map (·.1)=(l.filter λx=>x.w==VY "rule").map (·.nm)/\∀z∈L,∃x∈l,x.w=VY "rule"/\x.nm=z.1/\x.r=[z.2.enc]:=by
  intro l
  induction l with
  |nil=>intro _;exact⟨[],rfl,rfl,MC⟩
  |cons a l ih=>
   intro hl;obtain⟨L,e1,e2,e3⟩:=ih λx hx=>hl x (by simp[hx]);by_cases hr:(a.w==VY "rule")=true
   ·obtain⟨pt,_,er,_⟩:=from1 a (hl a MC) (eq_of_beq hr);refine⟨(a.nm,pt)::L,?_,?_,?_⟩
    ·unfold rN at e1⊢;rw[W6,M8 hr,V2,V2,e1,er];rfl
    ·rw[W6,M8 hr,V2,V2,e2]
    ·intro z hz;rcases Wc.mp hz with rfl|hz
     ·exact⟨a,MC,eq_of_beq hr,rfl,er⟩
     ·obtain⟨x,hx,h'⟩:=e3 z hz;exact⟨x,by simp[hx],h'⟩
   ·refine⟨L,?_,?_,?_⟩
    ·unfold rN at e1⊢;rw[W6,M4 hr,e1]
    ·rw[W6,M4 hr,e2]
    ·intro z hz;obtain⟨x,hx,h'⟩:=e3 z hz;exact⟨x,by simp[hx],h'⟩
 obtain⟨L,e1,e2,e3⟩:=pick res λ_ h=>h;have key:∀x∈res,∀pt:Pt,x.r=[pt.enc]->x.w=VY "rule"->Jr xs n (x.nm,pt):=λx hx pt er hw=>by
  obtain⟨pt',_,er',hm⟩:=from1 x hx hw;obtain⟨h1,⟨_,h2⟩,h3⟩:=h.it x hx;rw[er]at er';rw[<-(Pq er').1]at hm;refine⟨x.n,h2,hm,λy hy ye yn yd=>?_⟩;obtain⟨a,b,c⟩:=Ju ye;have:=h3 y.rw (Wb.mpr ⟨y,hy,rfl⟩) ⟨a,by rw[c];exact yd⟩ (by rw[b];exact yn);rw[c]at this;exact this
 refine⟨L,⟨?_,λz=>⟨λhz=>?_,λhz=>?_⟩⟩,e1⟩
 ·have up:(L.map (·.1)).Pairwise λa b=>me a b=true:=by
   rw[e2];exact h.up.sublist (YL.map _)
  have nd:(L.map (·.1)).Nodup:=by
   rw[e2];exact h.nd.sublist (YL.map _)
  rw[X1]at up;rw[ZZ,X1]at nd;exact up.and nd
 ·obtain⟨x,hx,hw,hn,hr⟩:=e3 z hz;have:=key x hx z.2 hr hw;rw[hn]at this;exact this
 ·obtain⟨d,hd,hm,hal⟩:=hz;have hmr:(De.oth (VY "rule") d z.1 [z.2.enc]).rw∈xs.map De.rw:=Wb.mpr ⟨_,hm,rfl⟩;have hok:nR pC n (De.oth (VY "rule") d z.1 [z.2.enc]).rw:=⟨WR,hd⟩;obtain⟨x,hx,xn⟩:=h.al _ hmr hok;have xn:x.nm=z.1:=xn;obtain⟨h1,⟨h2a,h2b⟩,h3⟩:=h.it x hx;obtain⟨y,hy,ey⟩:=Wb.mp h1;have hyE:y.isE=true:=acu (by rw[ey];exact h2a) λp hp=>by
   rw[hp]at ey;rw[<-ey]at h2a;exact SW h2a
  obtain⟨_,yb,yc⟩:=Ju hyE;have dd:d<=x.n:=h3 _ hmr hok xn.symm;have dd2:x.n<=d:=by
   have:=hal y hy hyE (by rw[<-yb,ey];exact xn) (by rw[<-yc,ey];exact h2b);rw[<-yc,ey]at this;exact this
  have ee:y=De.oth (VY "rule") d z.1 [z.2.enc]:=g.re y hy _ hm hyE (by simp[De.isE]) (by rw[<-yc,ey];exact UT dd2 dd) (by rw[<-yb,ey];exact xn);subst ee;have hw:x.w=VY "rule":=by rw[<-ey];rfl
  have hr:x.r=[z.2.enc]:=by rw[<-ey];rfl
  have:z.1∈L.map (·.1):=by
   rw[e2];exact Wb.mpr ⟨x,Wr.mpr ⟨hx,by rw[hw];exact beq_self_eq_true _⟩,xn⟩
  obtain⟨v,hv,vn⟩:=Wb.mp this;obtain⟨x',hx',hw',hn',hr'⟩:=e3 v hv;have exx:x'=x:=Jp h.nd hx' hx (hn'.trans (vn.trans xn.symm));rw[exx,hr]at hr';have:v=z:=by
   obtain⟨v1,v2⟩:=v;obtain⟨z1,z2⟩:=z;have a1:v1=z1:=vn;have a2:z2.enc=v2.enc:=(Pq hr').1;rw[a1,Jo a2.symm]
  rw[<-this];exact hv
def SX:Fa:=λds Q=>∃(xs:List De)(n:Int),ds=[.tuple (xs.map De.enc),.int n]/\nH xs/\(rO xs n (dM xs n)->(dM xs n).length<=41->Q (.tuple ((dM xs n).map lP)))
theorem Jw(g:nH xs)(wok:∀w d nm r,De.oth w d nm r∈xs->V6 w=true):Jm (xs.map De.rw):=by
 refine⟨λx hx=>?_,λx hx hw=>?_,?_⟩
 ·obtain⟨y,hy,rfl⟩:=Wb.mp hx;cases y with
  |pap p=>show V6 (VY "paper")=true;decide+kernel
  |oth w d nm r=>exact wok _ _ _ _ hy
 ·obtain⟨y,hy,rfl⟩:=Wb.mp hx;cases y with
  |pap p=>exact absurd hw (by show VY "paper"≠_;decide+kernel)
  |oth w d nm r=>
   have hw:w=VY "rule":=hw;subst hw;obtain⟨pt,e,_⟩:=g.ru _ _ _ hy;exact⟨_,e⟩
 ·rw[V0];have:=g.gx.ln;omega
theorem DN(T:Txt Z mg t):aB P w Z mg base MX 2 t.a_R t.d_R ["deeds","day"] (aQ Z SX):=
 (ace T).imp λvs H Q E ⟨O,ds,Qd,tr,hs,⟨xs,n,e,g,q⟩,k⟩=>⟨O,ds,Qd,tr,hs,⟨xs.map De.rw,n,by rw[Jq];exact e,Jw g (λw d nm r h=>g.gx.w _ h),λres hres=>by
  obtain⟨L,h1,h2⟩:=Jv g hres;have e:=Jt h1;rw[h2,e];refine q (by rw[<-e];exact h1) ?_;have hl:(rN res).length<=res.length:=by unfold rN;rw[V0];exact Xi _ _
  have:=hres.le;rw[V0]at this;rw[h2,V0,e]at hl;have:=g.gx.ln;omega⟩,k⟩
end
theorem Jx:aU (aq Ad) ["paper","since","day","days"] ["other","day"] 1 [2] ⟨V7,[ (V1 ".0",Mc),(V1 "other",Mc),(V1 "day",Wi)],false,false,[]⟩:= .of
section
open Classical in
def qO(d k:Int)(u:Str):Int:=if h:∃r,tH d k u r then h.choose else 0
theorem Jy(h:tH d k u r):r=qO d k u:=by
 unfold qO;rw[dif_pos ⟨r,h⟩];exact abS h (Exists.choose_spec (⟨r,h⟩:∃r,tH d k u r))
def di:Option Int->L7
 |none=>.none
 |some i=>.int i
def nU(r:Rp):Prop:=vS r.hs/\V6 r.c.kd=true/\r.ts.length<=41/\∀m∈r.ts,V6 m=true
def uO(r:Rp)(wd:Str)(n:Int):List Int:=(mP r.hs wd).filter λz=>decide (z<=n)
def AG(r:Rp)(n:Int):cJ->Option Int
 | .com=>some r.c.d
 | .fst wd=>(uO r wd n).head?
 | .lst wd=>(uO r wd n).getLast?
theorem acL{l:List Int}{Q:L7->Prop}(q:Q (di l.head?)):if (!(l.map λz=>Wa z).isEmpty)=false then Q .none else ∃d,atI (l.map λz=>Wa z) 0=some d/\Q d:=by
 cases l with
 |nil=>rw[M8 (by rfl)];exact q
 |cons a l=>rw[M4 MC];exact⟨.int a,bN,q⟩
theorem Bn{l:List L7}{a:L7}:atI (l++[a]) (-1)=some a:=by
 unfold atI pT;rw[M4 L8,M8 (by rw[Wt,Y7];omega)];rw[show((-1:Int)+((l++[a]).length:Nat)).toNat=l.length by rw[Wt,Y7];omega];simp
theorem aa2{l:List Int}{Q:L7->Prop}(q:Q (di l.getLast?)):if (!(l.map λz=>Wa z).isEmpty)=false then Q .none else ∃d,atI (l.map λz=>Wa z) (-1)=some d/\Q d:=by
 rcases List.eq_nil_or_concat l with e|⟨l',a,e⟩
 ·subst e;rw[M8 (by rfl)];exact q
 ·rw[List.concat_eq_append]at e;subst e;rw[M4 MC];refine⟨.int a,?_,?_⟩
  ·rw[Ww];exact Bn
  ·rw[List.getLast?_concat]at q;exact q
def S4(C:L9):Fa:=λds Q=>∃(r:Rp)(s:cJ)(n:Int),ds=[r.enc C,s.enc,.int n]/\s.Ok/\nU r/\Q (di (AG r n s))
theorem S5(T:Txt Z mg t):aB P w Z mg base MX 2 t.a_W t.d_W ["paper","since","day"] (aQ Z (S4 t.q0a)):=by
 refine T.F_W.F.okD Il (λds Q h=>?_) (λ_ _ _ _ H O ds Q E hr h=>?_)
 ·obtain⟨r,s,n,rfl,_⟩:=h;rfl
 ·obtain⟨r,si,n,rfl,hsi,hh,q⟩:=h;refine'⟨_,?A,?B⟩
  case A=>
   refine' ao ?C ?D
   case C=>
    refine' bI ?E ?F bH
    case E=>exact(aN (mv hr) mw (aC aE aH (dv 1) ag) aZ (aD _))
    case' F=>refine' az ?G
    case G=>exact(aM (bW (C:=t.q0a) T.q0g T.q0l (dv 0)))
   case' D=>refine' ao ?H ?I
   case H=>exact(tu (i:=3) Il.nd rfl MH (adY rfl Jx (df (au (Ji T) hr T.F_V (aa (dv 0) (aa (aC aE aH (dv 1) ag) ah)))) aK bS MA (λ_ _ _ _=>(aJ (i:=0) Jx.nd rfl MH)) (λ_ _ _ _=>(eM (aN rn n4 (dv 0) (dv 1) (aD _)))) (λ_ _ _ _=>(dv 0))))
   case' I=>refine' ao ?J ?K
   case J=>
    refine' bI ?L ?M bH
    case L=>exact(rC (vK (dv 3)))
    case M=>refine' az (aM mI)
   case' K=>refine' az ?N
   case' N=>refine' aM ?O
   case O=>exact(vw (aN (mv hr) mw (aC aE aH (dv 1) ag) aZ (aD _)) (aC dB d9 (dv 3) ag) (aC dB d9 (dv 3) (BW ag)))
  case B=>
  clear hr T;have dl:∀wd,(mP r.hs wd).length<=41:=λwd=>by
   unfold mP;rw[V0];exact Wy (Xi _ _) hh.1.1
  cases si with
  |com=>
   simp only[cJ.enc];walk_at "d";exact⟨[VY "name",VY "coming",VY "kind",VY "makers",VY "happenings"],_,rfl,_,AE,q⟩
  |fst wd=>
   simp only[cJ.enc];walk_at "d";rw[cI (show VY "first"≠VY "coming" by decide+kernel),M4 We];have dl:=dl wd;refine⟨r,wd,rfl,hh.1,hsi,_,rfl,by rw[V0];omega,gS (λz=>decide (z<=n)) (λz=>.int z) (λx hx R S h=>?_) ?_⟩
   ·walk_at "d";simpa using h
   ·have q:Q (di (uO r wd n).head?):=q;unfold uO at q;exact acL q
  |lst wd=>
   simp only[cJ.enc];walk_at "d";rw[cI (show VY "last"≠VY "coming" by decide+kernel),M4 We];have dl:=dl wd;refine⟨r,wd,rfl,hh.1,hsi,_,rfl,by rw[V0];omega,gS (λz=>decide (z<=n)) (λz=>.int z) (λx hx R S h=>?_) ?_⟩
   ·walk_at "d";simpa using h
   ·have q:Q (di (uO r wd n).getLast?):=q;unfold uO at q;exact aa2 q
def nV(r:Rp)(n:Int):Pt->Option Int
 | .five _ _ s k u=>(AG r n s).map λb=>qO b k u
 | .two _ _=>none
def S6(C:L9):Fa:=λds Q=>∃(r:Rp)(w kd:Str)(s:cJ)(k:Int)(u:Str)(n:Int),ds=[r.enc C,(Pt.five w kd s k u).enc,.int n]/\s.Ok/\vR u/\nU r/\Q (di (nV r n (.five w kd s k u)))
theorem Jz(T:Txt Z mg t):aB P w Z mg base MX 6 t.a_X t.d_X ["paper","parts","day"] (aQ Z (S6 t.q0a)):=by
 refine T.F_X.F.okD Im (λds Q h=>?_) (λ_ _ _ _ H O ds Q E hr h=>?_)
 ·obtain⟨r,w,kd,s,k,u,n,rfl,_⟩:=h;rfl
 ·obtain⟨r,wo,kd,si,k,u,n,rfl,hsi,hu,hh,q⟩:=h;refine'⟨_,?A,?B⟩
  case A=>
   refine' ao ?C ?D
   case C=>
    refine' bg (i:=3) Im.nd rfl MH ?E (hs:=se)
    case E=>exact(au (S5 T) hr T.F_W (aa (dv 0) (aa (aC aE aH (dv 1) ag) (aa (dv 2) ah))))
   case' D=>refine' ao ?F ?G
   case F=>
    refine' bI ?H ?I bH
    case H=>exact(aN sP tw (dv 3) mI (aD _))
    case I=>refine' az (aM mI)
   case' G=>refine' az ?J
   case' J=>refine' aM ?K
   case K=>exact(au (IS T) hr T.F_H (aa (dv 3) (aa (aC aE aH (dv 1) ag) (aa (aC aE aH (dv 1) ag) ah))))
  case B=>
  clear hr T;simp only[Pt.enc];walk_at "d";refine⟨r,si,n,rfl,hsi,hh,?_⟩;have q:Q (di ((AG r n si).map λb=>qO b k u)):=q;cases hb:AG r n si with
  |none=>
   rw[hb]at q;simp only[di,mM];walk_at "d";exact q
  |some b=>
   rw[hb]at q;simp only[di,mM];walk_at "d";exact⟨b,k,u,rfl,hu,λx hx=>by rw[Jy hx];exact q⟩
theorem uP(g:nH xs)(hc:c∈aI xs)(h1:∀z,z∈qM (nI xs c.nm)↔z∈nI xs c.nm)(h3:(qM (nI xs c.nm)).length<=41):nU (dh xs c):=by
 refine⟨⟨h3,λz hz=>?_⟩,g.gx.gp.kd c hc,?_,λm hm=>?_⟩
 ·have hz:=(h1 z).mp hz;unfold nI at hz;obtain⟨x,hx,e⟩:=Wb.mp hz;obtain⟨hx1,hx2⟩:=Wr.mp hx;cases x with
  |pap p=>cases hx2
  |oth w d nm r=>
   simp only[mn,Xs,beq_iff_eq]at hx2;obtain⟨rfl,rfl⟩:=hx2;obtain⟨wd,rfl,hw⟩:=g.hp _ _ _ hx1;rw[<-e];exact hw
 ·show((pA (aI xs) c).map (·.nm)).length<=41;rw[V0];exact DK g.gx.gp
 ·obtain⟨p,hp,rfl⟩:=Wb.mp hm;exact g.gx.gp.nm p (qI.mp (Wr.mp hp).1)
end
theorem JA:aU (aq Ae) ["paper","rules","day"] ["pair","paper"] 1 [0] ⟨V7,[ (V1 ".0",Mc),(V1 "pair",Mc),(V1 "paper",Wi)],false,false,[]⟩:= .of
theorem JB:aU (aq Af) ["paper","rules","day","gone","left","calls","rule","parts","due"] ["maker","gone","day"] 1 [3,2] ⟨V7,[ (V1 ".0",Mc),(V1 "maker",Mc),(V1 "has_gone",W4),(V1 "day",Wi),(V1 "gone",Wi)],false,false,[]⟩:= .of
theorem JC:aU (aq Ag) ["paper","rules","day","gone","away","calls","rule","parts","due"] ["maker","gone","day"] 1 [3,2] ⟨V7,[ (V1 ".0",Mc),(V1 "maker",Mc),(V1 "has_gone",W4),(V1 "day",Wi),(V1 "gone",Wi)],false,false,[]⟩:= .of
theorem DP:aU (aq Ah) ["kind","rules"] ["rule","parts","kind"] 2 [0] ⟨V7,[ (V1 ".0",Mc),(V1 "rule",Mc),(V1 "parts",Mc),(V1 "kind",Wi)],false,false,[]⟩:= .of
structure Gn where
 ks:List Str
 gs:List Int
def Gn.enc(g:Gn):L7:=kQ g.ks (g.gs.map .int)
def sE:List Str->List Int->Str->Option Int
 |k::ks,d::ds,z=>if k=z then some d else sE ks ds z
 |_,_,_=>none
theorem JD:∀(ks:List Str)(gs:List Int)(z:Str),aW ks (gs.map .int) z=(sE ks gs z).map .int
 | [],_,_=>rfl
 |_::_,[],_=>rfl
 |k::ks,g::gs,z=>by
  rw[V2];unfold aW sE;by_cases h:k=z
  ·rw[M8 h,M8 h];rfl
  ·rw[M4 h,M4 h];exact JD ks gs z
def Gn.at(g:Gn)(z:Str):Option Int:=sE g.ks g.gs z
def Gn.has(g:Gn)(n:Int)(z:Str):Bool:=match g.at z with
 |some d=>decide (d<=n)
 |none=>false
def S7:Fa:=λds Q=>∃(g:Gn)(z:Str)(n:Int),ds=[g.enc,.str z,.int n]/\Q (.bool (g.has n z))
theorem JE(T:Txt Z mg t):aB P w Z mg base MX 1 t.a_Z t.d_Z ["gone","paper","day"] (aQ Z S7):=by
 refine T.F_Z.F.okD Io (λds Q h=>?_) (λ_ _ _ _ H O ds Q E hr h=>?_)
 ·obtain⟨g,z,n,rfl,_⟩:=h;rfl
 ·obtain⟨g,z,n,rfl,q⟩:=h;refine'⟨_,?A,?B⟩
  case A=>
   refine' ao ?C ?D
   case C=>exact(bg (i:=3) Io.nd rfl MH (QS hr.units (dv 0) (dv 1) ⟨rfl,rfl,rfl,rfl⟩))
   case' D=>refine' az ?E
   case' E=>refine' aM ?F
   case F=>exact(BE (nz wx xD (df (dv 3)) (df mI) (aD _)) (BD (nz rn n4 (df (dv 3)) (df (dv 2)) (aD _))))
  case B=>
  clear hr T;simp only[Gn.enc];walk_at "d";refine⟨g.ks,_,rfl,?_⟩;rw[JD];have q:Q (.bool (match g.at z with|some d=>decide (d<=n)|none=>false)):=q;unfold Gn.at at q;cases hd:sE g.ks g.gs z with
  |none=>
   rw[hd]at q;simp only[Xh,Qm,mM];walk_at "d";exact q
  |some d=>
   rw[hd]at q;simp only[Xg,Option.getD_some,mM];walk_at "d";exact q
theorem JF:aW [VY "name",VY "coming",VY "kind",VY "makers",VY "happenings"] [a,b,c,d,e] (VY "makers")=some d:=by
 simp only[aW];rw[M4 MN,M4 MN,M4 MN,M8 trivial]
def Pt.wd:Pt->Str
 | .two w _=>w
 | .five w _ _ _ _=>w
def Pt.kd:Pt->Str
 | .two _ kd=>kd
 | .five _ kd _ _ _=>kd
theorem Pt.kdOk{p:Pt}(h:p.Ok):V6 p.kd=true:=by cases p with|two w kd=>exact h.2.2|five w kd s k u=>exact h.2.1
theorem Pt.at1(p:Pt):∃l,p.enc= .tuple l/\atI l 1=some (.str p.kd):=by cases p<;>exact⟨_,rfl,cN⟩
theorem Pt.at0(p:Pt):∃l,p.enc= .tuple l/\atI l 0=some (.str p.wd):=by cases p<;>exact⟨_,rfl,bN⟩
def qc(L:List (Str×Pt)):Prop:=L.length<=41/\∀z∈L,z.2.Ok
def oh(r:Rp)(n:Int)(L:List (Str×Pt)):List (Str×Pt):=if r.c.d > n then [] else L.filter λz=>z.2.kd==r.c.kd
def ab1(C:L9):Fa:=λds Q=>∃(r:Rp)(L:List (Str×Pt))(n:Int),ds=[r.enc C,.tuple (L.map lP),.int n]/\nU r/\qc L/\Q (.list ((oh r n L).map lP))
theorem JG(T:Txt Z mg t):aB P w Z mg base MX 1 t.a_Y t.d_Y ["paper","rules","day"] (aQ Z (ab1 t.q0a)):=by
 refine T.F_Y.F.okD abE (λds Q h=>?_) (λ_ _ _ _ H O ds Q E hr h=>?_)
 ·obtain⟨r,L,n,rfl,_⟩:=h;rfl
 ·obtain⟨r,L,n,rfl,hr',hL,q⟩:=h;refine'⟨_,?A,?B⟩
  case A=>
   refine' ao ?C ?D
   case C=>
    refine' bI ?E ?F bH
    case E=>exact(aN wu n4 (bW (C:=t.q0a) T.q0g T.q0l (dv 0)) (dv 2) (aD _))
    case' F=>refine' az ?G
    case G=>exact(aM (fe (g8 ah)))
   case' D=>refine' az ?H
   case' H=>refine' aM ?I
   case' I=>refine' fe ?J
   case J=>exact(oZ rfl JA (df (dv 1)) aK bS MA (λ_ _ _ _=>(aJ (i:=0) JA.nd rfl MH)) (λ_ _ _ _=>(eM (aN (cF hr.units) cG (aC aE aH (aC aE aH (dv 0) ag) ag) (bW (C:=t.q0a) T.q0g T.q0m (dv 1)) (aD _)))) (λ_ _ _ _=>(dv 0)))
  case B=>
  clear hr T;walk_at "d";refine⟨[VY "name",VY "coming",VY "kind",VY "makers",VY "happenings"],_,rfl,_,AE,r.c.d,rfl,?_⟩;unfold oh at q;by_cases hd:r.c.d > n
  ·rw[M8 hd]at q⊢;exact q
  ·rw[M4 hd]at q⊢;refine⟨by rw[V0];have:=hL.1;omega,gS (λz:Str×Pt=>z.2.kd==r.c.kd) lP (λx hx R S h=>?_) q⟩;simp only[lP];obtain⟨l,e1,e2⟩:=Pt.at1 x.2;rw[e1];walk_at "d";refine⟨_,e2,[VY "name",VY "coming",VY "kind",VY "makers",VY "happenings"],_,rfl,_,AF,cQ.mpr (Pt.kdOk (hL.2 x hx)),cQ.mpr hr'.2.1,?_⟩;rw[bT];simp only[lP]at h;rw[e1]at h;exact h
def bA(z:Str×L7):L7:= .tuple [.str z.1,z.2]
def oi(r:Rp)(n:Int)(g:Gn):List Str:=r.ts.filter λm=>!g.has n m
def oj(r:Rp)(n:Int)(g:Gn):List Str:=r.ts.filter λm=>g.has n m
def uQ(n:Int):Option Int->Bool
 |none=>true
 |some d=>decide (d > n)
def pE(r:Rp)(n:Int)(g:Gn):Pt->Option L7
 | .five w kd s k u=>if w=VY "keep"/\uQ n (nV r n (.five w kd s k u))=true then some (di (nV r n (.five w kd s k u))) else none
 | .two w kd=>if w=VY "while" then(oi r n g).head?.map .str else none
def pF(r:Rp)(n:Int)(g:Gn):Pt->Option L7
 | .five w kd s k u=>if w=VY "gone"/\uQ n (nV r n (.five w kd s k u))=false then some (di (nV r n (.five w kd s k u))) else none
 | .two w kd=>if w=VY "follow" then(oj r n g).head?.map .str else none
def qg(r:Rp)(n:Int)(g:Gn)(z:Str×Pt):List (Str×L7):=((pE r n g z.2).map λb=>(z.1,b)).toList
def qh(r:Rp)(n:Int)(g:Gn)(z:Str×Pt):List (Str×L7):=((pF r n g z.2).map λb=>(z.1,b)).toList
def gT(r:Rp)(n:Int)(g:Gn)(L:List (Str×Pt)):List (Str×L7):=(oh r n L).flatMap (qg r n g)
def lZ(r:Rp)(n:Int)(g:Gn)(L:List (Str×Pt)):List (Str×L7):=(oh r n L).flatMap (qh r n g)
theorem AH{α β:Type}{f:α->List β}(h:∀x,(f x).length<=1):∀l:List α,(l.flatMap f).length<=l.length
 | []=>by simp
 |x::l=>by
  rw[YI,Wt,V5];have:=h x;have:=AH h l;omega
theorem DQ{α:Type}(o:Option α):o.toList.length<=1:=by cases o<;>simp
theorem JH{f:Str×Pt->Option L7}(M:List (Str×Pt))(hM:M.length<=41):∃acc:Nat->List L7,acc 0=[]/\(∀i,(acc i).length<=41)/\(∀i x,M[i]?=some x->f x=none->acc (i+1)=acc i)/\(∀i x,M[i]?=some x->∀b,f x=some b->acc (i+1)=acc i++[.tuple [.str x.1,b]])/\acc M.length=(M.flatMap λz=>((f z).map λb=>(z.1,b)).toList).map bA:=by
 refine⟨λi=>((M.take i).flatMap λz=>((f z).map λb=>(z.1,b)).toList).map bA,rfl,λi=>?_,λi x hx e=>?_,λi x hx b e=>?_,?_⟩
 ·show(X3 bA _).length<=41;rw[V0];refine Wy (AH (λz=>DQ _) _) ?_;rw[Xr];omega
 ·show X3 bA _=X3 bA _;rw[XA,hx,Yw];simp[e]
 ·show X3 bA _=X3 bA _++_;rw[XA,hx,Yw,Ww];simp[e,bA]
 ·show X3 bA _=_;rw[WU (V4 _)]
theorem AI(h:qc L):qc (oh r n L):=by
 unfold oh;split
 ·exact⟨MC,MC⟩
 ·exact⟨Wy (Xi _ _) h.1,λz hz=>h.2 z (Wr.mp hz).1⟩
def uR(C:L9)(r:Rp)(L:List (Str×Pt))(n:Int)(g:Gn)(ms:List Str)(a:List L7)(Y:Dl):Prop:=∃(o6 o7 o8:Option Sl),Y=[some (Sl.v (Rp.enc C r)),some (Sl.v (WG (X3 lP L))),some (Sl.v (Wa n)),some (Sl.v g.enc),some (Sl.v (X2 (ms.map λm=>V8 m))),some (Sl.o a),o6,o7,o8]
def F_a(C:L9):Fa:=λds Q=>∃(r:Rp)(L:List (Str×Pt))(n:Int)(g:Gn),ds=[r.enc C,.tuple (L.map lP),.int n,g.enc]/\nU r/\qc L/\Q (.tuple ((gT r n g L).map bA))
theorem JI(T:Txt Z mg t):aB P w Z mg base MX 7 t.a_a t.d_a ["paper","rules","day","gone"] (aQ Z (F_a t.q0a)):=by
 refine T.F_a.F.okD uD (λds Q h=>?_) (λ_ _ _ _ H O ds Q E hr h=>?_)
 ·obtain⟨r,L,n,g,rfl,_⟩:=h;rfl
 ·obtain⟨r,L,n,g,rfl,hr',hL,q⟩:=h;refine'⟨_,?A,?B⟩
  case A=>
   refine' ao ?C ?D
   case C=>exact(tu (i:=4) uD.nd rfl MH (sf rfl JB (df (bW (C:=t.q0a) T.q0g T.q0z (dv 0))) aK bS MA (λ_ _ _ _=>(aJ (i:=0) JB.nd rfl MH)) (λ_ _ _ _=>(eM (rC (nZ (au (JE T) hr T.F_Z (aa (dv 1) (aa (dv 0) (aa (dv 2) ah)))))))) (λ_ _ _ _=>(dv 0))))
   case' D=>refine' ao ?E ?F
   case E=>exact(pY (i:=5) uD.nd rfl MH (g8 ah))
   case' F=>refine' ao ?G ?H
   case G=>
    refine' uh XR rfl (au (JG T) hr T.F_Y (aa (dv 0) (aa (dv 1) (aa (dv 2) ah)))) ?I (oY (cU aK (cU aK oX))) ?J
    case I=>exact(oH (n:=2) rfl (cE (aJ (i:=6) uD.nd rfl MH) (cE (aJ (i:=7) uD.nd rfl MH) oG)))
    case' J=>refine' ao ?K ?L
    case K=>
     refine' bI ?M ?N bH
     case M=>exact(aN (mv hr) mw (aC aE aH (dv 7) ag) aZ (aD _))
     case' N=>refine' ao ?O ?P
     case O=>exact(bg (i:=8) uD.nd rfl MH (au (Jz T) hr T.F_X (aa (dv 0) (aa (dv 7) (aa (dv 2) ah)))))
     case' P=>refine' az ?Q
     case' Q=>refine' bI ?R ?S bH
     case R=>exact(PW.pt (oW (aN sP tw (dv 8) mI (aD _)) (qB (aN wu n4 (dv 8) (dv 2) (aD _)))))
     case' S=>refine' az ?T
     case T=>exact(rD (i:=5) (pv 5) (bq (aa (dv 6) (aa (dv 8) ah))))
    case' L=>refine' az ?U
    case' U=>refine' bI ?V ?W bH
    case V=>exact(PW.pt (nF (aN (mv hr) mw (aC aE aH (dv 7) ag) aZ (aD _)) (nA (vK (dv 4)))))
    case' W=>refine' az ?X
    case' X=>refine' rD (i:=5) (pv 5) ?Y
    case Y=>exact(bq (aa (dv 6) (aa (aC dB d9 (dv 4) ag) ah)))
   case' H=>refine' az ?Z
   case Z=>exact(aM (PE.imp (lY nX rfl T.q0h ny (sV (dw 5) bw)) (cf n5)))
  case B=>
  clear hr T;walk_at "d";refine⟨[VY "name",VY "coming",VY "kind",VY "makers",VY "happenings"],_,rfl,_,JF,_,rfl,by rw[V0];have:=hr'.2.2.1;omega,gS (λm=>!g.has n m) (λm=>.str m) (λx hx R S h=>?_) ?_⟩
  ·walk_at "d";exact⟨g,x,n,rfl,by simpa using h⟩
  ·refine⟨r,L,n,rfl,hr',hL,?_⟩;have ok:=AI (r:=r) (n:=n) hL;walk_at "d";have q:Q (.tuple (((oh r n L).flatMap (qg r n g)).map bA)):=q;generalize hM:oh r n L=M at ok q⊢;obtain⟨acc,a0,al,an,as,ae⟩:=JH (f:=λz:Str×Pt=>pE r n g z.2) M ok.1;generalize hE:nN.mk _ _ _ _=EE;have eN:=congrArg nN.nx hE;simp only at eN;clear hE;refine⟨λi=>uR t.q0a r L n g (oi r n g) (acc i),⟨none,none,none,by rw[a0];rfl⟩,?_,?_⟩
   ·rintro i z Y hz ⟨o6,o7,o8,rfl⟩;rw[Wm]at hz;cases hz':M[i]? with
    |none=>rw[hz']at hz;cases hz
    |some x=>
     rw[hz']at hz;cases hz;have xo:=ok.2 x (W0 hz');have tl:=al i;have none_:=an i x hz';have some_:=as i x hz';obtain⟨nm,pt⟩:=x;simp only[lP];have fin:∀a(o6 o7 o8:Option Sl),acc (i+1)=a->uR t.q0a r L n g (oi r n g) (acc (i+1)) [some (Sl.v (Rp.enc t.q0a r)),some (Sl.v (WG (X3 lP L))),some (Sl.v (Wa n)),some (Sl.v g.enc),some (Sl.v (X2 ((oi r n g).map λm=>V8 m))),some (Sl.o a),o6,o7,o8]:=λa o6 o7 o8 e=>⟨o6,o7,o8,by rw[e]⟩;generalize uR t.q0a r L n g (oi r n g) (acc (i+1))=NX at fin⊢;clear eN;cases pt with
     |two w2 kd=>
      have k1:w2≠VY "keep":=λe=>xo.1 (.inl e);simp only[Pt.enc];generalize hD:cB (dG 8 _) _=TD;generalize hW:cw (cW _ (c7 _)) _ _=TW;walk_at "d";rw[cI k1,M4 We];clear hD;subst hW;walk_at "d";by_cases hw:w2=VY "while"
      ·subst hw;rw[M8 (beq_self_eq_true _)];cases hl:oi r n g with
       |nil=>
        rw[hl]at fin;rw[M4 MC];exact fin _ _ _ _ (none_ (by show(if VY "while"=VY "while" then(oi r n g).head?.map V8 else none)=none;rw[M8 rfl,hl];rfl))
       |cons m l=>
        rw[hl]at fin;rw[M8 (by rfl)];exact⟨_,bN,L8,fin _ _ _ _ (some_ (.str m) (by show(if VY "while"=VY "while" then(oi r n g).head?.map V8 else none)=some _;rw[M8 rfl,hl];rfl))⟩
      ·rw[cI hw,M4 We];exact fin _ _ _ _ (none_ (by show(if w2=VY "while" then(oi r n g).head?.map V8 else none)=none;rw[M4 hw]))
     |five w2 kd si k u=>
      have k1:w2≠VY "while":=λe=>by rcases xo.1 with z|z<;>rw[z]at e<;>exact absurd e MN
      simp only[Pt.enc];generalize hW:cw (cW _ (c7 _)) _ _=TW;generalize hE2:nN.mk _ _ _ _=E2;have eN2:E2.nx=NX:=by rw[<-hE2]
      have pass:∀a(o8:Option Sl),acc (i+1)=a->TW E2 [some (Sl.v (Rp.enc t.q0a r)),some (Sl.v (WG (X3 lP L))),some (Sl.v (Wa n)),some (Sl.v g.enc),some (Sl.v (X2 ((oi r n g).map λm=>V8 m))),some (Sl.o a),some (Sl.v (V8 nm)),some (Sl.v (WG [V8 w2,V8 kd,si.enc,Wa k,V8 u])),o8]:=λa o8 e=>by
       subst hW;walk_at "d";rw[cI k1,M4 We,eN2];exact fin _ _ _ _ e
      clear hW hE2;walk_at "d";by_cases hw:w2=VY "keep"
      ·subst hw;rw[M8 (beq_self_eq_true _)];refine⟨r,VY "keep",kd,si,k,u,n,rfl,xo.2.2.1,xo.2.2.2.2.2,hr',?_⟩;have df:pE r n g (.five (VY "keep") kd si k u)=if VY "keep"=VY "keep"/\uQ n (nV r n (.five (VY "keep") kd si k u))=true then some (di (nV r n (.five (VY "keep") kd si k u))) else none:=rfl
       cases hd:nV r n (.five (VY "keep") kd si k u) with
       |none=>
        rw[hd]at df;simp only[di,mM];walk_at "d";refine⟨L8,?_⟩;exact pass _ _ (some_ .none (by rw[df,M8 ⟨rfl,rfl⟩];rfl))
       |some d=>
        rw[hd]at df;simp only[di,mM];walk_at "d";by_cases hdn:n < d
        ·rw[M8 hdn];refine⟨L8,?_⟩;exact pass _ _ (some_ (.int d) (by rw[df,M8 ⟨rfl,decide_eq_true hdn⟩];rfl))
        ·rw[M4 hdn];exact pass _ _ (none_ (by rw[df,M4 λz=>hdn (of_decide_eq_true z.2)]))
      ·rw[cI hw,M4 We];exact pass _ _ (none_ (by show(if w2=VY "keep"/\uQ n (nV r n (.five w2 kd si k u))=true then some (di (nV r n (.five w2 kd si k u))) else none)=none;rw[M4 λz=>hw z.1]))
   ·rintro Y ⟨o6,o7,o8,rfl⟩;rw[<-eN,V0,ae];walk_at "d";exact q
def F_b(C:L9):Fa:=λds Q=>∃(r:Rp)(L:List (Str×Pt))(n:Int)(g:Gn),ds=[r.enc C,.tuple (L.map lP),.int n,g.enc]/\nU r/\qc L/\Q (.tuple ((lZ r n g L).map bA))
theorem JJ(T:Txt Z mg t):aB P w Z mg base MX 7 t.a_b t.d_b ["paper","rules","day","gone"] (aQ Z (F_b t.q0a)):=by
 refine T.F_b.F.okD uE (λds Q h=>?_) (λ_ _ _ _ H O ds Q E hr h=>?_)
 ·obtain⟨r,L,n,g,rfl,_⟩:=h;rfl
 ·obtain⟨r,L,n,g,rfl,hr',hL,q⟩:=h;refine'⟨_,?A,?B⟩
  case A=>
   refine' ao ?C ?D
   case C=>exact(tu (i:=4) uE.nd rfl MH (sf rfl JC (df (bW (C:=t.q0a) T.q0g T.q0z (dv 0))) aK bS MA (λ_ _ _ _=>(aJ (i:=0) JC.nd rfl MH)) (λ_ _ _ _=>(eM (nZ (au (JE T) hr T.F_Z (aa (dv 1) (aa (dv 0) (aa (dv 2) ah))))))) (λ_ _ _ _=>(dv 0))))
   case' D=>refine' ao ?E ?F
   case E=>exact(pY (i:=5) uE.nd rfl MH (g8 ah))
   case' F=>refine' ao ?G ?H
   case G=>
    refine' uh XR rfl (au (JG T) hr T.F_Y (aa (dv 0) (aa (dv 1) (aa (dv 2) ah)))) ?I (oY (cU aK (cU aK oX))) ?J
    case I=>exact(oH (n:=2) rfl (cE (aJ (i:=6) uE.nd rfl MH) (cE (aJ (i:=7) uE.nd rfl MH) oG)))
    case' J=>refine' ao ?K ?L
    case K=>
     refine' bI ?M ?N bH
     case M=>exact(aN (mv hr) mw (aC aE aH (dv 7) ag) aZ (aD _))
     case' N=>refine' ao ?O ?P
     case O=>exact(bg (i:=8) uE.nd rfl MH (au (Jz T) hr T.F_X (aa (dv 0) (aa (dv 7) (aa (dv 2) ah)))))
     case' P=>refine' az ?Q
     case' Q=>refine' bI ?R ?S bH
     case R=>exact(PW.pt (nF (aN wx xD (dv 8) mI (aD _)) (nA (aN rn n4 (dv 8) (dv 2) (aD _)))))
     case' S=>refine' az ?T
     case T=>exact(rD (i:=5) (pv 5) (bq (aa (dv 6) (aa (dv 8) ah))))
    case' L=>refine' az ?U
    case' U=>refine' bI ?V ?W bH
    case V=>exact(PW.pt (nF (aN (mv hr) mw (aC aE aH (dv 7) ag) aZ (aD _)) (nA (vK (dv 4)))))
    case' W=>refine' az ?X
    case' X=>refine' rD (i:=5) (pv 5) ?Y
    case Y=>exact(bq (aa (dv 6) (aa (aC dB d9 (dv 4) ag) ah)))
   case' H=>refine' az ?Z
   case Z=>exact(aM (PE.imp (lY nX rfl T.q0h ny (sV (dw 5) bw)) (cf n5)))
  case B=>
  clear hr T;walk_at "d";refine⟨[VY "name",VY "coming",VY "kind",VY "makers",VY "happenings"],_,rfl,_,JF,_,rfl,by rw[V0];have:=hr'.2.2.1;omega,gS (λm=>g.has n m) (λm=>.str m) (λx hx R S h=>?_) ?_⟩
  ·walk_at "d";exact⟨g,x,n,rfl,by simpa using h⟩
  ·refine⟨r,L,n,rfl,hr',hL,?_⟩;have ok:=AI (r:=r) (n:=n) hL;walk_at "d";have q:Q (.tuple (((oh r n L).flatMap (qh r n g)).map bA)):=q;generalize hM:oh r n L=M at ok q⊢;obtain⟨acc,a0,al,an,as,ae⟩:=JH (f:=λz:Str×Pt=>pF r n g z.2) M ok.1;generalize hE:nN.mk _ _ _ _=EE;have eN:=congrArg nN.nx hE;simp only at eN;clear hE;refine⟨λi=>uR t.q0a r L n g (oj r n g) (acc i),⟨none,none,none,by rw[a0];rfl⟩,?_,?_⟩
   ·rintro i z Y hz ⟨o6,o7,o8,rfl⟩;rw[Wm]at hz;cases hz':M[i]? with
    |none=>rw[hz']at hz;cases hz
    |some x=>
     rw[hz']at hz;cases hz;have xo:=ok.2 x (W0 hz');have tl:=al i;have none_:=an i x hz';have some_:=as i x hz';obtain⟨nm,pt⟩:=x;simp only[lP];have fin:∀a(o6 o7 o8:Option Sl),acc (i+1)=a->uR t.q0a r L n g (oj r n g) (acc (i+1)) [some (Sl.v (Rp.enc t.q0a r)),some (Sl.v (WG (X3 lP L))),some (Sl.v (Wa n)),some (Sl.v g.enc),some (Sl.v (X2 ((oj r n g).map λm=>V8 m))),some (Sl.o a),o6,o7,o8]:=λa o6 o7 o8 e=>⟨o6,o7,o8,by rw[e]⟩;generalize uR t.q0a r L n g (oj r n g) (acc (i+1))=NX at fin⊢;clear eN;cases pt with
     |two w2 kd=>
      have k1:w2≠VY "gone":=λe=>xo.1 (.inr e);simp only[Pt.enc];generalize hD:cB (dG 8 _) _=TD;generalize hW:cw (cW _ (c7 _)) _ _=TW;walk_at "d";rw[cI k1,M4 We];clear hD;subst hW;walk_at "d";by_cases hw:w2=VY "follow"
      ·subst hw;rw[M8 (beq_self_eq_true _)];cases hl:oj r n g with
       |nil=>
        rw[hl]at fin;rw[M4 MC];exact fin _ _ _ _ (none_ (by show(if VY "follow"=VY "follow" then(oj r n g).head?.map V8 else none)=none;rw[M8 rfl,hl];rfl))
       |cons m l=>
        rw[hl]at fin;rw[M8 (by rfl)];exact⟨_,bN,L8,fin _ _ _ _ (some_ (.str m) (by show(if VY "follow"=VY "follow" then(oj r n g).head?.map V8 else none)=some _;rw[M8 rfl,hl];rfl))⟩
      ·rw[cI hw,M4 We];exact fin _ _ _ _ (none_ (by show(if w2=VY "follow" then(oj r n g).head?.map V8 else none)=none;rw[M4 hw]))
     |five w2 kd si k u=>
      have k1:w2≠VY "follow":=λe=>by rcases xo.1 with z|z<;>rw[z]at e<;>exact absurd e MN
      simp only[Pt.enc];generalize hW:cw (cW _ (c7 _)) _ _=TW;generalize hE2:nN.mk _ _ _ _=E2;have eN2:E2.nx=NX:=by rw[<-hE2]
      have pass:∀a(o8:Option Sl),acc (i+1)=a->TW E2 [some (Sl.v (Rp.enc t.q0a r)),some (Sl.v (WG (X3 lP L))),some (Sl.v (Wa n)),some (Sl.v g.enc),some (Sl.v (X2 ((oj r n g).map λm=>V8 m))),some (Sl.o a),some (Sl.v (V8 nm)),some (Sl.v (WG [V8 w2,V8 kd,si.enc,Wa k,V8 u])),o8]:=λa o8 e=>by
       subst hW;walk_at "d";rw[cI k1,M4 We,eN2];exact fin _ _ _ _ e
      clear hW hE2;walk_at "d";by_cases hw:w2=VY "gone"
      ·subst hw;rw[M8 (beq_self_eq_true _)];refine⟨r,VY "gone",kd,si,k,u,n,rfl,xo.2.2.1,xo.2.2.2.2.2,hr',?_⟩;have df:pF r n g (.five (VY "gone") kd si k u)=if VY "gone"=VY "gone"/\uQ n (nV r n (.five (VY "gone") kd si k u))=false then some (di (nV r n (.five (VY "gone") kd si k u))) else none:=rfl
       cases hd:nV r n (.five (VY "gone") kd si k u) with
       |none=>
        rw[hd]at df;simp only[di,mM];walk_at "d";exact pass _ _ (none_ (by rw[df,M4 λz=>Bool.noConfusion (show true=false from z.2)]))
       |some d=>
        rw[hd]at df;simp only[di,mM];walk_at "d";by_cases hdn:d<=n
        ·rw[M8 hdn];refine⟨L8,?_⟩;exact pass _ _ (some_ (.int d) (by rw[df,M8 ⟨rfl,decide_eq_false L8⟩];rfl))
        ·rw[M4 hdn];exact pass _ _ (none_ (by rw[df,M4 λz=>hdn (by have:=of_decide_eq_false z.2;omega)]))
      ·rw[cI hw,M4 We];exact pass _ _ (none_ (by show(if w2=VY "gone"/\uQ n (nV r n (.five w2 kd si k u))=false then some (di (nV r n (.five w2 kd si k u))) else none)=none;rw[M4 λz=>hw z.1]))
   ·rintro Y ⟨o6,o7,o8,rfl⟩;rw[<-eN,V0,ae];walk_at "d";exact q
def JK(kd:Str):Pt->Bool
 | .two w k=>w==VY "leave" && k==kd
 |_=>false
def pG(kd:Str)(L:List (Str×Pt)):List Str:=(L.filter λz=>JK kd z.2).map (·.1)
theorem S9{a b:Str}:(a==b)=decide (a=b):=by
 by_cases h:a=b
 ·simp[h]
 ·rw[cI h,decide_eq_false h]
def Ta:Fa:=λds Q=>∃(kd:Str)(L:List (Str×Pt)),ds=[.str kd,.tuple (L.map lP)]/\V6 kd=true/\qc L/\Q (.list ((pG kd L).map .str))
theorem acw(h:KG w):V6 w=true:=by rcases h with h|h<;>rw[h]<;>decide+kernel
theorem Tc(h:vR w):V6 w=true:=by rcases h with h|h|h<;>rw[h]<;>decide+kernel
theorem cJ.lay{s:cJ}(h:s.Ok):cx 2 s.enc:=by
 cases s with
 |com=>exact nP (cq (nQ MN) mW)
 |fst wd=>exact nP (cq (nQ MN) (cq (nQ h) mW))
 |lst wd=>exact nP (cq (nQ MN) (cq (nQ h) mW))
theorem Pt.lay{p:Pt}(h:p.Ok):cx 3 p.enc:=by
 cases p with
 |two w kd=>exact(nP (n:=1) (cq (nQ h.2.1) (cq (nQ h.2.2) mW))).mono MA
 |five w kd s k u=>exact nP (cq (nQ (acw h.1)) (cq (nQ h.2.1) (cq (cJ.lay h.2.2.1) (cq GV (cq (nQ (Tc h.2.2.2.2.2)) mW)))))
theorem abn(T:Txt Z mg t):aB P w Z mg base MX 1 t.a_c t.d_c ["kind","rules"] (aQ Z Ta):=by
 refine T.F_c.F.okD aaE (λds Q h=>?_) (λ_ _ _ _ H O ds Q E hr h=>?_)
 ·obtain⟨kd,L,rfl,_⟩:=h;rfl
 ·obtain⟨kd,L,rfl,hk,hL,q⟩:=h;refine'⟨_,?A,?B⟩
  case A=>
   refine' az ?C
   case' C=>refine' aM ?D
   case' D=>refine' fe ?E
   case E=>exact(oZ rfl DP (df (dv 1)) (oY (cU aK (cU aK oX))) B9 MA (λ_ _ _ _=>(oH (n:=2) rfl (cE (aJ (i:=0) DP.nd rfl MH) (cE (aJ (i:=1) DP.nd rfl MH) oG)))) (λ_ _ _ _=>(eM (aN (cF hr.units) cG (dv 1) (bq (aa aZ (aa (dv 2) ah))) (aD _)))) (λ_ _ _ _=>(dv 0)))
  case B=>
  clear hr T;walk_at "d";refine⟨by rw[V0];have:=hL.1;omega,gS (λz:Str×Pt=>JK kd z.2) (λz=>.str z.1) (λx hx R S h=>?_) ?_⟩
  ·have xo:=hL.2 x hx;obtain⟨nm,pt⟩:=x;have ly:=(Pt.lay xo).shp MA;have ly2:ZQ (WG [V8 (VY "leave"),V8 kd])=true:=(nP (n:=1) (cq (nQ MN) (cq (nQ hk) mW))).shp MA;simp only[lP];cases pt with
   |two w2 kd2=>
    simp only[Pt.enc]at ly⊢;walk_at "d";refine⟨ly,ly2,?_⟩;have e:(WG [V8 w2,V8 kd2]).eqv (WG [V8 (VY "leave"),V8 kd])=(w2==VY "leave" && kd2==kd):=by simp[Ws,Ym,S9]
    rw[e];exact h
   |five w2 kd2 si k u=>
    simp only[Pt.enc]at ly⊢;walk_at "d";refine⟨ly,ly2,?_⟩;rw[M4 (by simp[Ws,Ym])];exact h
  ·unfold pG at q;rw[Wk]at q;exact q
theorem DR(g:nH xs)(h:rO xs n (dM xs n))(hl:(dM xs n).length<=41):qc (dM xs n):=by
 refine⟨hl,λz hz=>?_⟩;obtain⟨d,_,hm,_⟩:=(h.2 z).mp hz;obtain⟨pt,e,ok⟩:=g.ru _ _ _ hm;rw[Jo (Pq e).1];exact ok
def tI(xs:List De)(n:Int)(c:Pp)(g:Gn):List (Str×L7):=gT (dh xs c) n g (dM xs n)
def tJ(xs:List De)(n:Int)(c:Pp)(g:Gn):List (Str×L7):=lZ (dh xs c) n g (dM xs n)
def F_d:Fa:=λds Q=>∃(xs:List De)(n:Int)(c:Pp)(g:Gn),ds=[.tuple (xs.map De.enc),.int n,.str c.nm,g.enc]/\nH xs/\c∈aI xs/\(rO xs n (dM xs n)->(dM xs n).length<=41->nU (dh xs c)->Q (.tuple ((tI xs n c g).map bA)))
def F_e:Fa:=λds Q=>∃(xs:List De)(n:Int)(c:Pp)(g:Gn),ds=[.tuple (xs.map De.enc),.int n,.str c.nm,g.enc]/\nH xs/\c∈aI xs/\(rO xs n (dM xs n)->(dM xs n).length<=41->nU (dh xs c)->Q (.tuple ((tJ xs n c g).map bA)))
theorem abj(T:Txt Z mg t):aB P w Z mg base MX 9 t.a_d t.d_d ["deeds","day","paper","gone"] (aQ Z F_d):=by
 refine T.F_d.F.okD RW (λds Q h=>?_) (λ_ _ _ _ H O ds Q E hr h=>?_)
 ·obtain⟨xs,n,c,g,rfl,_⟩:=h;rfl
 ·obtain⟨xs,n,c,g,rfl,gd,hc,q⟩:=h;refine'⟨_,?A,?B⟩
  case A=>
   refine' az ?C
   case' C=>refine' aM ?D
   case D=>exact(au (JI T) hr T.F_a (aa (PE.imp (t6 T.q0F (AD T) (hr.mono MA) rfl T.q0E T.F_I.b .nil nq (aa (dv 0) (aa (dv 2) ah))) vI) (aa (au (DN T) hr T.F_R (aa (dv 0) (aa (dv 1) ah))) (aa (dv 1) (aa (dv 3) ah)))))
  case B=>
  clear hr T;walk_at "d";exact⟨xs,c,rfl,gd,hc,λh1 h2 h3=>⟨xs,n,rfl,gd,λh4 h5=>⟨dh xs c,_,n,g,rfl,uP gd hc h1 h3,DR gd h4 h5,q h4 h5 (uP gd hc h1 h3)⟩⟩⟩
theorem abI(T:Txt Z mg t):aB P w Z mg base MX 9 t.a_e t.d_e ["deeds","day","paper","gone"] (aQ Z F_e):=by
 refine T.F_e.F.okD RX (λds Q h=>?_) (λ_ _ _ _ H O ds Q E hr h=>?_)
 ·obtain⟨xs,n,c,g,rfl,_⟩:=h;rfl
 ·obtain⟨xs,n,c,g,rfl,gd,hc,q⟩:=h;refine'⟨_,?A,?B⟩
  case A=>
   refine' az ?C
   case' C=>refine' aM ?D
   case D=>exact(au (JJ T) hr T.F_b (aa (PE.imp (t6 T.q0F (AD T) (hr.mono MA) rfl T.q0E T.F_I.b .nil nq (aa (dv 0) (aa (dv 2) ah))) vI) (aa (au (DN T) hr T.F_R (aa (dv 0) (aa (dv 1) ah))) (aa (dv 1) (aa (dv 3) ah)))))
  case B=>
  clear hr T;walk_at "d";exact⟨xs,c,rfl,gd,hc,λh1 h2 h3=>⟨xs,n,rfl,gd,λh4 h5=>⟨dh xs c,_,n,g,rfl,uP gd hc h1 h3,DR gd h4 h5,q h4 h5 (uP gd hc h1 h3)⟩⟩⟩
theorem JL:aU (aq Ai) ["ready","parts","days","paper"] ["base","parts"] 1 [1] ⟨V7,[ (V1 ".0",Mc),(V1 "base",Mc),(V1 "later",W4),(V1 "parts",Wi)],false,false,[]⟩:= .of
theorem JM:aU (aq vN) ["deeds","ready","days","deed"] ["name","deeds"] 1 [0] ⟨V7,[ (V1 ".0",Mc),(V1 "name",Mc),(V1 "Paper",W4),(V1 "deeds",Wi)],false,false,[]⟩:= .of
theorem JN:aU (aq vN) ["deeds","ready","days","deed"] ["deed"] 1 [] ⟨V7,[(V1 ".0",Mc),(V1 "deed",Mc)],false,false,[]⟩:= .of
section
def tK(r:Rp):cJ->List Int
 | .com=>[r.c.d]
 | .fst wd=>(mP r.hs wd).take 1
 | .lst wd=>mP r.hs wd
theorem JO(s:cJ):(tK r s).length<=r.hs.length+1:=by
 have fl:∀wd,(mP r.hs wd).length<=r.hs.length:=λwd=>by
  unfold mP;rw[V0];exact Xi _ _
 cases s with
 |com=>show 1<=_;omega
 |fst wd=>show((mP r.hs wd).take 1).length<=_;rw[Xr];have:=fl wd;omega
 |lst wd=>have:=fl wd;show(mP r.hs wd).length<=_;omega
theorem JP(xs:List L7):cM xs none (some 1)=xs.take 1:=by
 cases xs with
 |nil=>rfl
 |cons a l=>rw[rX MA (by simp;omega)];rfl
def F_f(C:L9):Fa:=λds Q=>∃(s:cJ)(r:Rp),ds=[s.enc,r.enc C]/\s.Ok/\vS r.hs/\Q (.list ((tK r s).map .int))
theorem aae(T:Txt Z mg t):aB P w Z mg base MX 2 t.a_f t.d_f ["since","paper"] (aQ Z (F_f t.q0a)):=by
 refine T.F_f.F.okD Ip (λds Q h=>?_) (λ_ _ _ _ H O ds Q E hr h=>?_)
 ·obtain⟨s,r,rfl,_⟩:=h;rfl
 ·obtain⟨si,r,rfl,hsi,hh,q⟩:=h;refine'⟨_,?A,?B⟩
  case A=>
   refine' ao ?C ?D
   case C=>
    refine' bI ?E ?F bH
    case E=>exact(aN (mv hr) mw (aC aE aH (dv 0) ag) aZ (aD _))
    case' F=>refine' az ?G
    case G=>exact(aM (fe (g8 (aa (bW (C:=t.q0a) T.q0g T.q0l (dv 1)) ah))))
   case' D=>refine' ao ?H ?I
   case H=>exact(bg (i:=2) Ip.nd rfl MH (au (Ji T) hr T.F_V (aa (dv 1) (aa (aC aE aH (dv 0) ag) ah))))
   case' I=>refine' az ?J
   case' J=>refine' aM ?K
   case K=>exact(vw (aN (mv hr) mw (aC aE aH (dv 0) ag) aZ (aD _)) (fe (vA (df (dv 2)) p6 (mq ag))) (dv 2))
  case B=>
  clear hr T;cases si with
  |com=>
   simp only[cJ.enc];walk_at "d";exact⟨[VY "name",VY "coming",VY "kind",VY "makers",VY "happenings"],_,rfl,_,AE,q⟩
  |fst wd=>
   simp only[cJ.enc];walk_at "d";rw[cI (show VY "first"≠VY "coming" by decide+kernel),M4 We];refine⟨r,wd,rfl,hh,hsi,_,rfl,?_⟩;rw[JP,<-R0];exact q
  |lst wd=>
   simp only[cJ.enc];walk_at "d";rw[cI (show VY "last"≠VY "coming" by decide+kernel),M4 We];refine⟨r,wd,rfl,hh,hsi,?_⟩;show if (VY "last"==VY "first")=true then _ else _
   rw[cI (show VY "last"≠VY "first" by decide+kernel),M4 We];exact q
def pH(rs:List Rp)(kd:Str)(s:cJ)(k:Int)(u:Str):List Int:=rs.flatMap λr=>if (r.c.kd==kd)=true then(tK r s).map λb=>qO b k u else []
theorem KOf(h:∀r∈rs,r.hs.length<=m)(kd:Str)(s:cJ)(k:Int)(u:Str):(pH rs kd s k u).length<=(m+1)*rs.length:=by
 unfold pH
 induction rs with
 |nil=>simp
 |cons r rs ih=>
  have ih:=ih λx hx=>h x (by simp[hx]);have hb:=JO (r:=r) s;have h1:=h r MC;rw[YI,Wt,V5,Rl];split
  ·rw[V0];omega
  ·simp only[WB];omega
def abq(C:L9):Fa:=λds Q=>∃(rs:List Rp)(w kd:Str)(s:cJ)(k:Int)(u:Str),ds=[.list (rs.map (Rp.enc C)),(Pt.five w kd s k u).enc]/\(Pt.five w kd s k u).Ok/\rs.length<=41/\(∀r∈rs,vS r.hs/\V6 r.c.kd=true)/\Q (.list ((pH rs kd s k u).map .int))
theorem Tj(T:Txt Z mg t):aB P w Z mg base MX 6 t.a_g t.d_g ["ready","parts"] (aQ Z (abq t.q0a)):=by
 refine T.F_g.F.okD Dp (λds Q h=>?_) (λ_ _ _ _ H O ds Q E hr h=>?_)
 ·obtain⟨rs,w,kd,s,k,u,rfl,_⟩:=h;rfl
 ·obtain⟨rs,wo,kd,si,k,u,rfl,ok,rl,hr',q⟩:=h;refine'⟨_,?A,?B⟩
  case A=>
   refine' ao ?C ?D
   case C=>exact(pY (i:=2) Dp.nd rfl MH (g8 ah))
   case' D=>refine' ao ?E ?F
   case E=>
    refine' uh XR rfl (dv 0) ?G aK ?H
    case G=>exact(aJ (i:=3) Dp.nd rfl MH)
    case' H=>refine' az ?I
    case' I=>refine' bI ?J ?K bH
    case J=>exact(aN (cF hr.units) cG (bW (C:=t.q0a) T.q0g T.q0m (dv 3)) (aC aE aH (dv 1) ag) (aD _))
    case' K=>refine' az ?L
    case L=>exact(xJ (i:=2) (pv 2) (mJ rfl JL (df (au (aae T) hr T.F_f (aa (aC aE aH (dv 1) ag) (aa (dv 3) ah)))) aK bS MA (λ_ _ _ _=>(aJ (i:=0) JL.nd rfl MH)) (λ_ _ _ _=>mK) (λ_ _ _ _=>(au (IS T) hr T.F_H (aa (dv 0) (aa (aC aE aH (dv 1) ag) (aa (aC aE aH (dv 1) ag) ah)))))))
   case' F=>refine' az ?M
   case M=>exact(wU (pv 2))
  case B=>
  clear hr T;walk_at "d";refine⟨λi Y=>∃o3,Y=[some (Sl.v (.list (rs.map (Rp.enc t.q0a)))),some (Sl.v (Pt.five wo kd si k u).enc),some (Sl.o ((pH (rs.take i) kd si k u).map .int)),o3],⟨_,rfl⟩,?_,?_⟩
  ·rintro i z Y hz ⟨o3,rfl⟩;rw[Wm]at hz;cases hz':rs[i]? with
   |none=>rw[hz']at hz;cases hz
   |some r=>
    rw[hz']at hz;cases hz;obtain⟨h1,h2⟩:=hr' r (W0 hz');have bl:=JO (r:=r) si;have h11:=h1.1;have il:(rs.take i).length<=41:=by rw[Xr];omega
    have rk:=KOf (m:=41) (rs:=rs.take i) (λx hx=>(hr' x (YV hx)).1.1) kd si k u;have rk2:(41+1)*(rs.take i).length<=42*41:=Sb _ il;simp only[Pt.enc];walk_at "d";refine⟨[VY "name",VY "coming",VY "kind",VY "makers",VY "happenings"],_,rfl,_,AF,cQ.mpr h2,cQ.mpr ok.2.1,?_⟩;rw[bT];have ts:pH (rs.take (i+1)) kd si k u=pH (rs.take i) kd si k u++if (r.c.kd==kd)=true then(tK r si).map λb=>qO b k u else []:=by
     unfold pH;rw[XA,hz',Yw];simp
    split
    ·rename_i hk;rw[M8 hk]at ts;refine⟨si,r,rfl,ok.2.2.1,h1,_,rfl,by rw[V0];omega,qL (λ_=>true) (λb=>.int (qO b k u)) (λb hb R S z1 _=>?_) ?_⟩
     ·walk_at "d";exact⟨b,k,u,rfl,ok.2.2.2.2.2,λx hx=>by rw[Jy hx];exact z1 rfl⟩
     ·rw[pB];refine⟨by rw[V0,V0];omega,?_,_,rfl⟩;rw[ts,Ww,Wk];rfl
    ·rename_i hk;rw[M4 hk,Wn]at ts;rw[ts];exact⟨rfl,_,rfl⟩
  ·rintro Y ⟨o3,rfl⟩;walk_at "d";rw[V0,WU (V4 _)];exact q
def mB(xs:List De):List Rp:=(bV (aI xs)).map (dh xs)
def tL(x:De)(p:Str×cJ×Int×Str):Prop:=∃d nm w,x= .oth (VY "rule") d nm [(Pt.five w p.1 p.2.1 p.2.2.1 p.2.2.2).enc]
theorem tL.uniq(h:tL x p)(h':tL x q):p=q:=by
 obtain⟨d,nm,w,e⟩:=h;obtain⟨d',nm',w',e'⟩:=h';rw[e]at e';obtain⟨kd,s,k,u⟩:=p;obtain⟨kd',s',k',u'⟩:=q;simp only[De.oth.injEq,Pt.enc,Wx,WL,WS,WT,and_true,true_and]at e';obtain⟨_,_,_,h1,h2,h3,h4⟩:=e';rw[h1,Jn h2,h3,h4]
open Classical in
def gU(xs:List De)(x:De):List Int:=if h:∃p,tL x p then pH (mB xs) h.choose.1 h.choose.2.1 h.choose.2.2.1 h.choose.2.2.2 else []
theorem Tn(h:tL x p):gU xs x=pH (mB xs) p.1 p.2.1 p.2.2.1 p.2.2.2:=by
 have e:∃p,tL x p:=⟨p,h⟩;unfold gU;rw[dif_pos e,h.uniq e.choose_spec]
theorem JQ(h:∀p,¬tL x p):gU xs x=[]:=by
 unfold gU;rw[dif_neg λuu=>by obtain⟨p,z⟩:=uu;exact h p z]
theorem JR(xs:List De)(d:Int)(nm w2 kd:Str)(s:cJ)(k:Int)(u:Str):gU xs (.oth (VY "rule") d nm [(Pt.five w2 kd s k u).enc])=pH (mB xs) kd s k u:=Tn (p:=(kd,s,k,u)) ⟨d,nm,w2,rfl⟩
theorem JS(xs:List De)(d:Int)(nm wo w2 kd:Str):gU xs (.oth wo d nm [(Pt.two w2 kd).enc])=[]:=JQ λp uu=>by obtain⟨_,_,_,e⟩:=uu;simp[Pt.enc]at e
theorem DU{x:De}(h:x.isR=false):gU xs x=[]:=JQ λp uu=>by obtain⟨_,_,_,e⟩:=uu;rw[e]at h;simp[De.isR]at h
def qi(xs:List De):List Int:=xs.map De.d++xs.flatMap (gU xs)
def tM(xs:List De)(ns:List Int):Prop:=(∀z,z∈ns↔z∈qi xs)/\ns.Pairwise (· < ·)
theorem To{l m:List Int}(h1:l.Pairwise (· < ·))(h2:m.Pairwise (· < ·))(h:∀z,z∈l↔z∈m):l=m:=
 sA (λa b z=>by omega) ((ZC (h1.imp λz e=>by omega) (h2.imp λz e=>by omega)).mpr h) h1 h2
open Classical in
def bO(xs:List De):List Int:=if h:∃ns,tM xs ns then h.choose else []
theorem JT(h:tM xs ns):ns=bO xs:=by
 unfold bO;have e:∃ns,tM xs ns:=⟨ns,h⟩;rw[dif_pos e];exact To h.2 e.choose_spec.2 λz=>(h.1 z).trans (e.choose_spec.1 z).symm
structure qP (xs:List De):Prop where
 ln:(qi xs).length < 4000
 fw:∃L:List Int,L.length < 64/\∀z∈qi xs,z∈L
theorem JU{l L:List Int}(nd:l.Nodup)(hm:∀z∈l,z∈L):l.length<=L.length:=by
 induction l generalizing L with
 |nil=>simp
 |cons a l ih=>
  rw[XW]at nd;obtain⟨p,q,e⟩:=Zo (hm a MC);have:=ih (L:=p++q) nd.2 λb hb=>by
   have hb':=hm b (by simp[hb]);rw[e]at hb';rcases Wo.mp hb' with z|z
   ·exact Za _ z
   ·rcases Wc.mp z with z|z
    ·exact absurd (by rw[<-z];exact hb) nd.1
    ·exact Xz _ z
  rw[e,Wt,V5,V5];rw[Wt]at this;omega
theorem Tp(g:nH xs)(h:∀c∈aI xs,nU (dh xs c)):∀r∈mB xs,vS r.hs/\V6 r.c.kd=true:=λr hr=>by
 obtain⟨c,hc,rfl⟩:=Wb.mp hr;have hc:=qI.mp hc;exact⟨(h c hc).1,g.gx.gp.kd c hc⟩
theorem abr{xs:List De}(h:xs[i]?=some x):(xs.map De.d++(xs.take (i+1)).flatMap (gU xs))=(xs.map De.d++(xs.take i).flatMap (gU xs))++gU xs x:=by
 rw[XA,h,Yw,<-XX];simp
def Tr:Fa:=λds Q=>∃xs:List De,ds=[.tuple (xs.map De.enc)]/\nH xs/\((∀c∈aI xs,nU (dh xs c))->qP xs)/\(tM xs (bO xs)->(bO xs).length < 64->Q (.tuple ((bO xs).map .int)))
theorem AJ(T:Txt Z mg t):aB P w Z mg base MX 9 t.a_h t.d_h ["deeds"] (aQ Z Tr):=by
 refine T.F_h.F.okD Ax (λds Q h=>?_) (λ_ _ _ _ H O ds Q E hr h=>?_)
 ·obtain⟨xs,rfl,_⟩:=h;rfl
 ·obtain⟨xs,rfl,gd,few,q⟩:=h;refine'⟨_,?A,?B⟩
  case A=>
   refine' ao ?C ?D
   case C=>exact(tu (i:=1) Ax.nd rfl MH (sf rfl JM (df (au (DJ T) hr T.F_M (aa (dv 0) ah))) aK bS MA (λ_ _ _ _=>(aJ (i:=0) JM.nd rfl MH)) (λ_ _ _ _=>mK) (λ_ _ _ _=>(PE.imp (t6 T.q0F (AD T) (hr.mono MA) rfl T.q0E T.F_I.b .nil nq (aa (dv 1) (aa (dv 0) ah))) vI))))
   case' D=>refine' ao ?E ?F
   case E=>exact(HB (i:=2) Ax.nd rfl MH (sf rfl JN (df (dv 0)) aK bS MA (λ_ _ _ _=>(aJ (i:=0) JN.nd rfl MH)) (λ_ _ _ _=>mK) (λ_ _ _ _=>(aC aE aH (dv 0) ag))))
   case' F=>refine' ao ?G ?H
   case G=>
    refine' vz XR rfl (dv 0) ?I aK ?J
    case I=>exact(aJ (i:=3) Ax.nd rfl MH)
    case' J=>refine' az ?K
    case' K=>refine' bI ?L ?M bH
    case L=>exact(PW.pt (nF (aN (mv hr) mw (aC aE aH (dv 3) ag) aZ (aD _)) (nA (aN (GP hr) GQ (aC aE aH (aC aE aH (dv 3) ag) ag) (bq (aa aZ (aa aZ ah))) rfl))))
    case' M=>refine' az ?N
    case N=>exact(Cf (i:=2) (pv 2) (au (Tj T) hr T.F_g (aa (dv 1) (aa (aC aE aH (dv 3) ag) ah))))
   case' H=>refine' az ?O
   case O=>exact(aM (PE.imp (lY nX rfl T.q0h ny (bz (fe (QI rfl rfl T.q0k YC rfl T.q04 (sV (dw 2) bw))) bw)) (cf n5)))
  case B=>
  clear hr T;walk_at "d";have ln:=gd.gx.ln;have ol:=qJ (ps:=aI xs);have pl:=gd.gx.gp.ln;refine⟨xs,rfl,gd.gx,_,rfl,by rw[V0,V0];omega,?_⟩;refine⟨λi acc=>acc=((bV (aI xs)).take i).map (λc=>(dh xs c).enc t.q0a)/\∀c∈(bV (aI xs)).take i,nU (dh xs c),⟨rfl,MC⟩,?_,?_⟩
  ·rintro i z acc hz ⟨rfl,hh⟩;rw[Wm,Wm]at hz;cases hz':(bV (aI xs))[i]? with
   |none=>rw[hz']at hz;cases hz
   |some c=>
    rw[hz']at hz;cases hz;walk_at "d";have hc:=qI.mp (W0 hz');refine⟨xs,c,rfl,gd,hc,λh1 h2 h3=>⟨?_,λc' hc'=>?_⟩⟩
    ·rw[XA,hz',Ww];rfl
    ·rw[XA,hz']at hc';rcases Wo.mp hc' with y|y
     ·exact hh c' y
     ·have y:c'=c:=by simpa using y
      rw[y];exact uP gd hc h1 h3
  ·rintro acc ⟨rfl,hh⟩;simp only[V0,Vu]at hh⊢;have hh:∀c∈aI xs,nU (dh xs c):=λc hc=>hh c (qI.mpr hc);obtain⟨f1,L,f2,f3⟩:=few hh;have hok:=Tp gd hh;have re:(bV (aI xs)).map (λc=>(dh xs c).enc t.q0a)=(mB xs).map (Rp.enc t.q0a):=by unfold mB;rw[Wk];rfl
   have rl:(mB xs).length<=41:=by unfold mB;rw[V0];omega
   rw[re];refine⟨L8,qL (λ_=>true) (λx:De=>.int x.d) (λx hx R S h1 _=>?_) ?_⟩
   ·cases x<;>simp only[De.enc,Pp.enc]<;>walk_at "d"<;>exact h1 rfl
   ·rw[pB];have bnd:∀i,(xs.map De.d++(xs.take i).flatMap (gU xs)).length<=(qi xs).length:=λi=>by
     unfold qi;rw[Wt,Wt];have:((xs.take i).flatMap (gU xs)).length<=(xs.flatMap (gU xs)).length:=by
      have e:xs.flatMap (gU xs)=(xs.take i).flatMap (gU xs)++(xs.drop i).flatMap (gU xs):=by rw[<-Yw,Qi]
      rw[e,Wt];omega
     omega
    refine⟨λi Y=>∃(o3:Option Sl),Y=[some (Sl.v (.tuple (xs.map De.enc))),some (Sl.v (.list ((mB xs).map (Rp.enc t.q0a)))),some (Sl.o ((xs.map De.d++(xs.take i).flatMap (gU xs)).map .int)),o3],⟨none,MC⟩,?_,?_⟩
    ·rintro i z Y hz ⟨o3,rfl⟩;rw[Wm]at hz;cases hz':xs[i]? with
     |none=>rw[hz']at hz;cases hz
     |some x=>
      rw[hz']at hz;cases hz;have hx:=W0 hz';have ts:=abr hz';have bd:=bnd i;have bd2:=bnd (i+1);rw[ts]at bd2;simp only[ts];generalize xs.map De.d++(xs.take i).flatMap (gU xs)=L0 at bd bd2⊢;cases x with
      |pap p=>
       simp only[De.enc,Pp.enc];walk_at "d";exact⟨by rw[DU rfl,Wn],_,rfl⟩
      |oth wo d nm r=>
       simp only[De.enc];walk_at "d";by_cases hw:wo=VY "rule"
       ·subst hw;obtain⟨pt,rfl,ok⟩:=gd.ru _ _ _ hx;rw[M8 (beq_self_eq_true _)];cases pt with
        |two w2 kd=>
         refine⟨_,cO,_,rfl,_,bN,rfl,?_⟩;rw[bT,bT,cI (λe=>ok.1 (.inl e.symm)),cI (λe=>ok.1 (.inr e.symm)),M4 MA];exact⟨by rw[JS,Wn],_,rfl⟩
        |five w2 kd s k u=>
         refine⟨_,cO,_,rfl,_,bN,rfl,?_⟩;have hk:((V8 (VY "keep")).eqv (V8 w2) || (V8 (VY "gone")).eqv (V8 w2))=true:=by
          rw[bT,bT];rcases ok.1 with e|e<;>rw[e]<;>decide+kernel
         rw[M8 hk];rw[JR]at bd2⊢;rw[Wt]at bd2;exact⟨_,cO,mB xs,w2,kd,s,k,u,rfl,ok,rl,hok,_,rfl,by rw[V0,V0];omega,by rw[Ww],_,rfl⟩
       ·rw[M4 (by simpa using hw)];have:gU xs (.oth wo d nm r)=[]:=DU (cI hw);rw[this,Wn];exact⟨rfl,_,rfl⟩
    ·rintro Y ⟨o3,rfl⟩;rw[V0,WU (V4 _)];have tl:xs.map De.d++xs.flatMap (gU xs)=qi xs:=rfl;rw[tl];walk_at "d";refine⟨qi xs,rfl,f1,?_,λns h1 h2=>?_⟩
     ·refine ZW (JU (Cc .nil) λz hz=>?_) f2;rw[Cb]at hz;rcases hz with y|y
      ·cases y
      ·exact f3 z y
     ·have it:tM xs ns:=⟨h1,h2⟩;have e:=JT it;have lt:ns.length < 64:=ZW (JU (h2.imp λz e=>by omega) λz hz=>f3 z ((h1 z).mp hz)) f2;rw[e]at it lt⊢;exact q it lt
end
theorem JV:aU (aq Aa) ["deeds","day"] ["deed"] 1 [] ⟨V7,[(V1 ".0",Mc),(V1 "deed",Mc)],false,false,[]⟩:= .of
theorem JW:aU (aq Ab) ["holds","line","names","hold","target","deep","reached"] ["coming","target"] 1 [4] ⟨V7,[ (V1 ".0",Mc),(V1 "coming",Mc),(V1 "is_told",W4),(V1 "target",Wi)],false,false,[]⟩:= .of
section
def JX(a b:Rw):Prop:=me a.nm b.nm=true/\a.nm≠b.nm
def Uq(ws:List Str)(n:Int)(xs:List Rw):Prop:=∀x∈xs,∀y∈xs,nR ws n x->nR ws n y->x.nm=y.nm->x.n=y.n->x=y
theorem AK(h:pj ws n xs res):res.Pairwise JX:=by
 have up:=h.up;have nd:=h.nd;rw[X1]at up;rw[ZZ,X1]at nd;exact up.and nd
theorem JY(u:Uq ws n xs)(h1:pj ws n xs r1)(h2:pj ws n xs r2)(x:Rw)(hx:x∈r1):x∈r2:=by
 obtain⟨a1,a2,a3⟩:=h1.it x hx;obtain⟨y,hy,yn⟩:=h2.al x a1 a2;obtain⟨b1,b2,b3⟩:=h2.it y hy;have e:x=y:=u x a1 y b1 a2 b2 yn.symm (UT (b3 x a1 a2 yn.symm) (a3 y b1 b2 yn));rw[e];exact hy
theorem acP(u:Uq ws n xs)(h1:pj ws n xs r1)(h2:pj ws n xs r2):r1=r2:=
 sA (r:=JX) (λa b h z=>h.2 (BQ h.1 z.1)) ((ZC ((AK h1).imp λz e=>z.2 (by rw[e])) ((AK h2).imp λz e=>z.2 (by rw[e]))).mpr λx=>⟨JY u h1 h2 x,JY u h2 h1 x⟩) (AK h1) (AK h2)
open Classical in
def DV(ws:List Str)(n:Int)(xs:List Rw):List Rw:=if h:∃r,pj ws n xs r then h.choose else []
theorem acy(u:Uq ws n xs)(h:pj ws n xs r):r=DV ws n xs:=by
 unfold DV;have e:∃r,pj ws n xs r:=⟨r,h⟩;rw[dif_pos e];exact acP u h e.choose_spec
def om(ip:Bool)(tn:Str):L7:= .tuple [.str (if ip=true then VY "paper" else VY "kind"),.str tn]
structure Hd where
 nm:Str
 ip:Bool
 tn:Str
 dp:Bool
def Hd.enc(h:Hd):L7:= .tuple [.str h.nm,om h.ip h.tn,.bool h.dp]
def De.isL:De->Bool
 | .oth w _ _ _=>w==VY "hold" || w==VY "lift"
 |_=>false
structure bX (xs:List De):Prop where
 gd:nH xs
 ho:∀d nm r,De.oth (VY "hold") d nm r∈xs->∃(ip:Bool)(tn:Str)(dp:Bool),r=[om ip tn,.bool dp]/\V6 tn=true
 le:∀d nm r,De.oth (VY "leave") d nm r∈xs->∃kd,r=[.str kd]/\V6 kd=true
 rh:∀x∈xs,∀y∈xs,x.isL=true->y.isL=true->x.d=y.d->x.nm=y.nm->x=y
 lv:∀x∈xs,∀y∈xs,x.w=VY "leave"->y.w=VY "leave"->x.nm=y.nm->x=y
def tN:List Str:=["hold","lift"]
def vT:List L7->Bool×Str×Bool
 | [.tuple [.str a,.str b],.bool c]=>(a==VY "paper",b,c)
 |_=>(false,VY "",false)
def vU(x:Rw):Hd:=⟨x.nm,(vT x.r).1,(vT x.r).2.1,(vT x.r).2.2⟩
theorem JZ{x:Rw}(h:x.r=[om ip tn,.bool dp]):vU x=⟨x.nm,ip,tn,dp⟩:=by
 unfold vU;rw[h];cases ip with
 |true=>simp[om,vT]
 |false=>simp[om,vT,cI (show VY "kind"≠VY "paper" by decide+kernel)]
def uS(res:List Rw):List Hd:=(res.filter λx=>x.w==VY "hold").map vU
def DW(xs:List De)(n:Int):List Hd:=uS (DV tN n (xs.map De.rw))
theorem J0(h:w∈tN):w=VY "hold"\/w=VY "lift":=by
 unfold tN at h;rcases Wc.mp h with e|h
 ·exact .inl e
 ·rcases Wc.mp h with e|h
  ·exact .inr e
  ·cases h
theorem Tu(g:bX xs):Uq tN n (xs.map De.rw):=by
 intro x hx y hy ox oy e1 e2;obtain⟨a,ha,rfl⟩:=Wb.mp hx;obtain⟨b,hb,rfl⟩:=Wb.mp hy;have il:∀z:De,z.rw.w∈tN->z.isL=true/\z.rw.nm=z.nm/\z.rw.n=z.d:=λz hz=>by
  cases z with
  |pap p=>exact absurd (J0 hz) (by show ¬(VY "paper"=_\/VY "paper"=_);decide+kernel)
  |oth w d nm r=>
   refine⟨?_,rfl,rfl⟩;have hz:w∈tN:=hz;rcases J0 hz with e|e<;>simp[De.isL,e]
 obtain⟨a1,a2,a3⟩:=il a ox.1;obtain⟨b1,b2,b3⟩:=il b oy.1;rw[g.rh a ha b hb a1 b1 (by rw[<-a3,<-b3];exact e2) (by rw[<-a2,<-b2];exact e1)]
def vV(hs:List Hd):Prop:=hs.length<=41/\∀h∈hs,V6 h.tn=true
def abp:Fa:=λds Q=>∃(xs:List De)(n:Int),ds=[.tuple (xs.map De.enc),.int n]/\bX xs/\(vV (DW xs n)->Q (.tuple ((DW xs n).map Hd.enc)))
theorem Tw(T:Txt Z mg t):aB P w Z mg base MX 2 t.a_S t.d_S ["deeds","day"] (aQ Z abp):=by
 refine T.F_S.F.okD ab0 (λds Q h=>?_) (λ_ _ _ _ H O ds Q E hr h=>?_)
 ·obtain⟨xs,n,rfl,_⟩:=h;rfl
 ·obtain⟨xs,n,rfl,g,q⟩:=h;refine'⟨_,?A,?B⟩
  case A=>
   refine' az ?C
   case' C=>generalize hG2:VE _ _ _ _=eg2
   refine' aM ?D
   case' D=>subst hG2
   exact(PE.imp (lY nX rfl T.q0h ny (bz (fe (mJ rfl JV (df (au (Jk T) hr T.F_Q (aa (dv 0) (aa (bq (aa aZ (aa aZ ah))) (aa (dv 1) ah))))) aK bS MA (λ_ _ _ _=>(aJ (i:=0) JV.nd rfl MH)) (λ_ _ _ _=>(eM (aN (mv hr) mw (aC aE aH (dv 0) ag) aZ (aD _)))) (λ_ _ _ _=>(bq (aa (aC aE aH (dv 0) ag) (aa (aC aE aH (dv 0) ag) (aa (aC aE aH (dv 0) ag) ah))))))) bw)) (cf n5))
  case B=>
  clear hr T;have ok:=Jw g.gd (λw d nm r h=>g.gd.gx.w _ h);walk_at "d";refine⟨xs.map De.rw,tN,n,by rw[Jq];rfl,ok.st,MN,ok.le,λres hres=>⟨_,rfl,?_,?_⟩⟩
  ·rw[V0];have:=hres.le;have:=ok.le;omega
  have fm:∀x∈res,x.w=VY "hold"->∃(ip:Bool)(tn:Str)(dp:Bool),x.r=[om ip tn,.bool dp]/\V6 tn=true:=λx hx hw=>by
   obtain⟨h1,_,_⟩:=hres.it x hx;obtain⟨y,hy,rfl⟩:=Wb.mp h1;cases y with
   |pap p=>exact absurd hw (by show VY "paper"≠_;decide+kernel)
   |oth w d nm r=>
    have hw:w=VY "hold":=hw;subst hw;exact g.ho _ _ _ hy
  have e:=acy (Tu g) hres;have q:vV (uS res)->Q (.tuple ((uS res).map Hd.enc)):=by rw[e];exact q
  refine gS (enc:=Rw.enc) (λx=>x.w==VY "hold") (λx=>(vU x).enc) (λx hx R S h=>?_) ?_
  ·simp only[Rw.enc];walk_at "d";by_cases hr:(x.w==VY "hold")=true
   ·rw[M8 hr]at h⊢;obtain⟨ip,tn,dp,hp,_⟩:=fm x hx (eq_of_beq hr);rw[JZ hp]at h;rw[hp];exact⟨_,cO,_,fM,h⟩
   ·rw[M4 hr]at h⊢;exact h
  ·have e2:(Q1 (λx=>x.w==VY "hold") res).map (λx=>(vU x).enc)=(uS res).map Hd.enc:=by unfold uS;rw[Wk];rfl
   rw[e2];refine q ⟨?_,λh hh=>?_⟩
   ·unfold uS;rw[V0];have h1:=Xi (λx:Rw=>x.w==VY "hold") res;have h2:=hres.le;rw[V0]at h2;have:=g.gd.gx.ln;omega
   ·obtain⟨x,hx,rfl⟩:=Wb.mp hh;obtain⟨hx1,hx2⟩:=Wr.mp hx;obtain⟨ip,tn,dp,hp,hk⟩:=fm x hx1 (eq_of_beq hx2);rw[JZ hp];exact hk
def told(ip:Bool)(tn:Str)(c:Pp):Bool:=tn==if ip=true then c.nm else c.kd
def J1:Fa:=λds Q=>∃(ip:Bool)(tn:Str)(c:Pp),ds=[om ip tn,c.enc]/\V6 tn=true/\V6 c.nm=true/\V6 c.kd=true/\Q (.bool (told ip tn c))
theorem ab7(T:Txt Z mg t):aB P w Z mg base MX 1 t.a_T t.d_T ["target","coming"] (aQ Z J1):=by
 refine T.F_T.F.okD RS (λds Q h=>?_) (λ_ _ _ _ H O ds Q E hr h=>?_)
 ·obtain⟨ip,tn,c,rfl,_⟩:=h;rfl
 ·obtain⟨ip,tn,c,rfl,h1,h2,h3,q⟩:=h;refine'⟨_,?A,?B⟩
  case A=>
   refine' az ?C
   case' C=>refine' aM ?D
   case D=>exact(nz (cF hr.units) cG (df (aC aE aH (dv 0) ag)) (df (vw (aN (mv hr) mw (aC aE aH (dv 0) ag) aZ (aD _)) (aC aE aH (dv 1) ag) (aC aE aH (dv 1) ag))) (aD _))
  case B=>
  clear hr T;simp only[om,Pp.enc];unfold told at q;cases ip with
  |true=>
   walk_at "d";exact⟨cQ.mpr h1,cQ.mpr h2,q⟩
  |false=>
   walk_at "d";rw[M4 (show ¬(VY "kind"==VY "paper")=true by decide+kernel)];exact⟨cQ.mpr h1,cQ.mpr h3,q⟩
def vW(line:List Pp)(h:Hd):Bool:=(if h.dp=true then line else line.take 1).any (told h.ip h.tn)
def oN(hs:List Hd)(line:List Pp):List Str:=(hs.filter (vW line)).map (·.nm)
def AL(line:List Pp):Prop:=line.length<=41/\∀c∈line,V6 c.nm=true/\V6 c.kd=true
def F_U:Fa:=λds Q=>∃(hs:List Hd)(line:List Pp),ds=[.tuple (hs.map Hd.enc),.list (line.map Pp.enc)]/\vV hs/\AL line/\Q (.tuple ((oN hs line).map .str))
theorem Tz(T:Txt Z mg t):aB P w Z mg base MX 2 t.a_U t.d_U ["holds","line"] (aQ Z F_U):=by
 refine T.F_U.F.okD uC (λds Q h=>?_) (λ_ _ _ _ H O ds Q E hr h=>?_)
 ·obtain⟨hs,line,rfl,_⟩:=h;rfl
 ·obtain⟨hs,line,rfl,ho,lo,q⟩:=h;refine'⟨_,?A,?B⟩
  case A=>
   refine' ao ?C ?D
   case C=>exact(pY (i:=2) uC.nd rfl MH (g8 ah))
   case' D=>refine' ao ?E ?F
   case E=>
    refine' vz XR rfl (dv 0) ?G (oY (cU aK (cU aK (cU aK oX)))) ?H
    case G=>exact(oH (n:=3) rfl (cE (aJ (i:=3) uC.nd rfl MH) (cE (aJ (i:=4) uC.nd rfl MH) (cE (aJ (i:=5) uC.nd rfl MH) oG))))
    case' H=>refine' ao ?I ?J
    case I=>exact(bg (i:=6) uC.nd rfl MH (vw (nZ (dv 5)) (dv 1) (fe (vA (df (dv 1)) p6 (mq ag)))))
    case' J=>refine' az ?K
    case' K=>refine' bI ?L ?M bH
    case L=>exact(nZ (PE.imp (dA (Bz rfl) rfl T.q0C BA (bz (fe (mJ rfl JW (df (dv 6)) aK bS MA (λ_ _ _ _=>(aJ (i:=0) JW.nd rfl MH)) (λ_ _ _ _=>mK) (λ_ _ _ _=>(au (ab7 T) hr T.F_T (aa (dv 1) (aa (dv 0) ah)))))) bw)) (cf wZ)))
    case' M=>refine' az ?N
    case N=>exact(rD (i:=2) (pv 2) (dv 3))
   case' F=>refine' az ?O
   case O=>exact(aM (PE.imp (lY nX rfl T.q0h ny (sV (dw 2) bw)) (cf n5)))
  case B=>
  clear hr T;have h41:=ho.1;have l41:=lo.1;walk_at "d";refine⟨λi Y=>∃o3 o4 o5 o6,Y=[some (Sl.v (.tuple (hs.map Hd.enc))),some (Sl.v (.list (line.map Pp.enc))),some (Sl.o ((oN (hs.take i) line).map .str)),o3,o4,o5,o6],⟨_,_,_,_,rfl⟩,?_,?_⟩
  ·rintro i z Y hz ⟨o3,o4,o5,o6,rfl⟩;rw[Wm]at hz;cases hz':hs[i]? with
   |none=>rw[hz']at hz;cases hz
   |some h=>
    rw[hz']at hz;cases hz;have hk:=ho.2 h (W0 hz');have ts:oN (hs.take (i+1)) line=oN (hs.take i) line++if vW line h=true then [h.nm] else []:=by
     unfold oN;rw[XA,hz',ZX,Ww];congr 1;by_cases e:vW line h=true
     ·simp[e]
     ·simp[e]
    have ll:(oN (hs.take i) line).length<=41:=by
     unfold oN;rw[V0];have:=Xi (vW line) (hs.take i);rw[Xr]at this;omega
    have key:∀(l2:List Pp)(R:List L7->Prop),(∀c∈l2,c∈line)->R ((l2.map (told h.ip h.tn)).map .bool)->mV (dR 0) cL (cX J1 (cV (dO 1) (cV (dO 0) dE))) [none,some (Sl.v (om h.ip h.tn))] (l2.map Pp.enc) R:=λl2 R hl hR=>by
     refine qL (λ_=>true) (λc=>.bool (told h.ip h.tn c)) (λc hc R S h1 _=>?_) (by rw[pB];rw[Wk]at hR;exact hR);walk_at "d";exact⟨h.ip,h.tn,c,rfl,hk,(lo.2 c (hl c hc)).1,(lo.2 c (hl c hc)).2,h1 rfl⟩
    simp only[Hd.enc];simp only[ts];have ec:vW line h=(if h.dp=true then line else line.take 1).any (told h.ip h.tn):=rfl;rw[ec];generalize oN (hs.take i) line=A0 at ll;have fin:∀(l2:List Pp)(x:Option Sl),if (l2.map (told h.ip h.tn)).any id=true then(A0.map V8).length < 16777216/\A0.map V8++[V8 h.nm]=(A0++if l2.any (told h.ip h.tn)=true then [h.nm] else []).map V8/\∃y,x=y else A0.map V8=(A0++if l2.any (told h.ip h.tn)=true then [h.nm] else []).map V8/\∃y,x=y:=λl2 x=>by
     rw[ZR];show if l2.any (told h.ip h.tn)=true then _ else _
     split
     ·exact⟨by rw[V0];omega,MC,_,rfl⟩
     ·exact⟨MC,_,rfl⟩
    cases hd:h.dp with
    |true=>
     walk_at "d";exact⟨by rw[V0];omega,key line _ (λ_ h=>h) ⟨_,rfl,fin line _⟩⟩
    |false=>
     walk_at "d";rw[JP,<-R0];have lt:(line.take 1).length<=41:=by rw[Xr];omega
     exact⟨by rw[V0];omega,key (line.take 1) _ (λ_ h=>YV h) ⟨_,rfl,fin (line.take 1) _⟩⟩
  ·rintro Y ⟨o3,o4,o5,o6,rfl⟩;walk_at "d";rw[V0,WU (V4 _)];exact q
end
theorem J3:aU (aq z6) ["deeds","paper","line","place"] ["deed","line"] 1 [2] ⟨V7,[ (V1 ".0",Mc),(V1 "deed",Mc),(V1 "line",Wi)],false,false,[]⟩:= .of
section
theorem J4:∀{a b:List Str},Ym (a.map .str) (b.map .str)=true↔a=b
 | [],[]=>by simp[Ym]
 | [],_::_=>by simp[Ym]
 |_::_,[]=>by simp[Ym]
 |x::a,y::b=>by
  rw[V2,V2,Ym,Xs,J4,bT,beq_iff_eq,Wx]
theorem J5{a b:Pp}:Ws a.enc b.enc=true↔a=b:=by
 obtain⟨d,nm,kd,ms⟩:=a;obtain⟨d',nm',kd',ms'⟩:=b;simp only[Pp.enc,Ws,Ym,Xs,J4,Pp.mk.injEq,decide_eq_true_eq,beq_iff_eq,and_true,true_and]
def uT(l:List Pp)(p:Pp):Bool:=(l.map Pp.enc).any λd=>Ws d p.enc
theorem acK:uT l p=true↔p∈l:=by
 unfold uT;rw[Yq];constructor
 ·rintro⟨d,hd,e⟩;obtain⟨q,hq,rfl⟩:=Wb.mp hd;rw[<-J5.mp e];exact hq
 ·intro h;exact⟨p.enc,Wb.mpr ⟨p,h,rfl⟩,J5.mpr rfl⟩
def AM(ps line:List Pp)(c:Pp):List Pp:=(pA ps c).filter λp=>!uT line p
def sF(ps:List Pp):Nat->List Pp->Nat->List Pp
 |0,l,_=>l
 |f+1,l,i=>match l[i]? with
  |none=>l
  |some c=>sF ps f (l++AM ps l c) (i+1)
def qQ(ps:List Pp)(c:Pp):List Pp:=sF ps ps.length [c] 0
theorem TH{ps l:List Pp}(h:l.length<=i):∀f,sF ps f l i=l
 |0=>rfl
 |f+1=>by rw[sF,Yc h]
structure tO (ps:List Pp) (c:Pp) (l:List Pp):Prop where
 nd:l.Nodup
 sb:∀p∈l,p∈ps
 hd:∃r,l=c::r
theorem AN{α:Type}:∀{l L:List α},l.Nodup->(∀z∈l,z∈L)->l.length<=L.length
 | [],_,_,_=>Xe _
 |a::l,L,nd,hm=>by
  rw[XW]at nd;obtain⟨p,q,e⟩:=Zo (hm a MC);have:=AN (l:=l) (L:=p++q) nd.2 λb hb=>by
   have hb':=hm b (by simp[hb]);rw[e]at hb';rcases Wo.mp hb' with z|z
   ·exact Za _ z
   ·rcases Wc.mp z with z|z
    ·exact absurd (by rw[<-z];exact hb) nd.1
    ·exact Xz _ z
  rw[e,Wt,V5,V5];rw[Wt]at this;omega
theorem acM{ps:List Pp}(nd:(ps.map (·.nm)).Nodup):ps.Nodup:=by
 rw[ZZ,X1]at nd;exact nd.imp λh e=>h (by rw[e])
theorem aaN{ps:List Pp}(nd:(ps.map (·.nm)).Nodup)(c:Pp):(pA ps c).Nodup:=((pz ps).nodup_iff.mpr (acM nd)).sublist YL
theorem J6(h:p∈pA ps c):p∈ps:=qI.mp (Wr.mp h).1
theorem tO.next{ps:List Pp}(nd:(ps.map (·.nm)).Nodup)(h:tO ps c l)(d:Pp):tO ps c (l++AM ps l d):=by
 refine⟨Yl.mpr ⟨h.nd,(aaN nd d).sublist YL,λa ha b hb e=>?_⟩,λp hp=>?_,?_⟩
 ·have:=(Wr.mp hb).2;rw[WJ,<-YD]at this;exact this (acK.mpr (by rw[<-e];exact ha))
 ·rcases Wo.mp hp with z|z
  ·exact h.sb p z
  ·exact J6 (Wr.mp z).1
 ·obtain⟨r,e⟩:=h.hd;exact⟨r++AM ps l d,by rw[e];rfl⟩
theorem J7{ps:List Pp}(nd:(ps.map (·.nm)).Nodup):∀(f:Nat){l:List Pp}(i:Nat),tO ps c l->tO ps c (sF ps f l i)
 |0,_,_,h=>h
 |f+1,l,i,h=>by
  rw[sF];split
  ·exact h
  ·exact J7 nd f (i+1) (h.next nd _)
theorem abl{ps:List Pp}(nd:(ps.map (·.nm)).Nodup)(hc:c∈ps):tO ps c (qQ ps c):=J7 nd _ _ ⟨MC,by simpa using hc,[],rfl⟩
theorem acj(g:sC ps)(hc:c∈ps):AL (qQ ps c):=by
 have h:=abl g.nd hc;have h1:=AN h.nd h.sb;have h2:=g.ln;exact⟨L8,λp hp=>⟨g.nm p (h.sb p hp),g.kd p (h.sb p hp)⟩⟩
theorem J8(g:sC ps)(hc:c∈ps):cx 3 c.enc:=by
 obtain⟨h1,h2⟩:=g.ms c hc;exact nP (cq (nQ MN) (cq GV (cq (nQ (g.nm c hc)) (cq (nQ (g.kd c hc)) (cq (nP (n:=1) (BV h1)) mW)))))
def aa3:Fa:=λds Q=>∃(xs:List De)(c:Pp),ds=[.tuple (xs.map De.enc),.str c.nm]/\qK xs/\c∈aI xs/\Q (.list ((qQ (aI xs) c).map Pp.enc))
theorem TQ(T:Txt Z mg t):aB P w Z mg base MX 6 t.a_P t.d_P ["deeds","paper"] (aQ Z aa3):=by
 refine T.F_P.F.okD Av (λds Q h=>?_) (λ_ _ _ _ H O ds Q E hr h=>?_)
 ·obtain⟨xs,c,rfl,_⟩:=h;rfl
 ·obtain⟨xs,c,rfl,gd,hc,q⟩:=h;refine'⟨_,?A,?B⟩
  case A=>
   refine' ao ?C ?D
   case C=>exact(pY (i:=2) Av.nd rfl MH (g8 (aa (au (DI T) hr T.F_L (aa (dv 0) (aa (dv 1) ah))) ah)))
   case' D=>refine' ao ?E ?F
   case E=>exact(bg (i:=3) Av.nd rfl MH ag)
   case' F=>refine' ao ?G ?H
   case G=>
    refine' aa7 XR ?I ?J
    case I=>exact(aN wt n4 (dv 3) (PE.imp (dA qy rfl T.q0i Yt (sV (dw 2) bw)) (cf qD)) (aD _))
    case' J=>refine' ao ?K ?L
    case K=>exact(xJ (i:=2) (pv 2) (mJ rfl J3 (df (au (Jg T) hr T.F_N (aa (dv 0) (aa (nO dB d9 (dw 2) (df (dv 3))) ah)))) aK bS MA (λ_ _ _ _=>(aJ (i:=0) J3.nd rfl MH)) (λ_ _ _ _=>(eM (BC (BP hr) r6 (df (dv 0)) (dw 1) rfl))) (λ_ _ _ _=>(dv 0))))
    case' L=>refine' az ?M
    case M=>exact(bg (i:=3) Av.nd rfl MH (br bF cu (dv 3) ag))
   case' H=>refine' az ?N
   case N=>exact(wU (pv 2))
  case B=>
  clear hr T;have nd:=gd.gp.nd;have pl:=gd.gp.ln;walk_at "d";refine⟨xs,c,rfl,gd,hc,?_⟩;refine⟨λm Y=>∃(l:List Pp)(i f:Nat),tO (aI xs) c l/\i<=l.length/\m+i=(aI xs).length/\(aI xs).length<=f+i/\sF (aI xs) f l i=qQ (aI xs) c/\Y=[some (Sl.v (.tuple (xs.map De.enc))),some (Sl.v (.str c.nm)),some (Sl.o (l.map Pp.enc)),some (Sl.v (.int (i:Int)))],⟨(aI xs).length,[c],0,(aI xs).length,⟨MC,by simpa using hc,[],rfl⟩,Xe _,L8,L8,rfl,rfl⟩,?_⟩;rintro m Y ⟨l,i,f,hl,hi,hm,hf,ef,rfl⟩;have ll:=AN hl.nd hl.sb;walk_at "d";rw[V0];by_cases hlt:i < l.length
  ·rw[M8 L8];have hc':l[i]?=some l[i]:=WE hlt;have ho:=hl.next nd l[i];have lo:=AN ho.nd ho.sb;rw[Wt]at lo;refine⟨_,rS (j:=i) (by rw[Wm,hc'];rfl),xs,l[i],rfl,gd,hl.sb _ (Yp hlt),_,rfl,by rw[V0];have:=DK (c:=l[i]) gd.gp;omega,gS (λp=>!uT l p) Pp.enc (λp hp R S h=>?_) ?_⟩
   ·walk_at "d";have ps:=J6 hp;refine⟨(J8 gd.gp ps).shp MA,(xA (n:=3) λd hd=>?_).1,by simpa [uT]using h⟩;obtain⟨p',hp',rfl⟩:=Wb.mp hd;exact J8 gd.gp (hl.sb p' hp')
   ·have e:(Q1 (λp=>!uT l p) (pA (aI xs) l[i]))=AM (aI xs) l l[i]:=rfl;rw[e];cases f with
    |zero=>omega
    |succ f=>
     rw[sF,hc']at ef;refine⟨by rw[V0];omega,m - 1,L8,_,ho,i+1,by rw[Wt];omega,L8,f,L8,ef,by rw[Ww],L8⟩
  ·rw[M4 L8];rw[<-ef,TH L8]at q;exact q
local macro_rules | `(tactic| walk_at "e") =>OP (Oj++" Sl.i.injEq exists_and_left uw")
theorem qR:∀{l:List (Str×L7)}{ks:List Str},l.map (·.1)=ks->ks.all (λk=>!(k==f))=true->mj f d l=l++[(f,d)]
 | [],_,_,_=>rfl
 | (g,x)::l,k::ks,h,hk=>by
  rw[V2]at h;obtain⟨e1,e2⟩:=Pq h;rw[Xq,Xs]at hk;have e1:g=k:=e1;rw[mj,M4 (λz=>by rw[<-e1,z]at hk;simp at hk),qR e2 hk.2];rfl
 |_::_,[],h,_=>by cases h
def bY:List Str:=[VY "day",VY "paper",VY "to_stay",VY "to_go",VY "bars",VY "leave"]
abbrev J9(C:L9)(a b c d e f:L7):L7:=nL C (bY.map .str) [a,b,c,d,e,f]
def aa0(C:L9):Fa:=λds Q=>∃a b c d e f,ds=[a,b,c,d,e,f]/\Q (J9 C a b c d e f)
theorem ach(T:Txt Z mg t):aB P w Z mg base MX 1 t.a_i t.d_i ["self","day","paper","to_stay","to_go","bars","leave"] (vH Z t.q0b (aa0 t.q0b)):=by
 refine T.F_i.F.okI aa5 (λds Q h=>?_) (λcdv A outer s H H1 O ds Q E l hr h=>?_)
 ·obtain⟨a,b,c,d,e,f,rfl,_⟩:=h;rfl
 ·obtain⟨a,b,c,d,e,f,rfl,q⟩:=h;refine'⟨_,?A,?B⟩
  case A=>
   refine' ao ?C ?D
   case C=>exact(nS (C:=t.q0b) (i:=0) T.q0e T.q0o (pv 0) (dv 1))
   case' D=>refine' ao ?E ?F
   case E=>exact(nS (C:=t.q0b) (i:=0) T.q0e T.q0p (pv 0) (dv 2))
   case' F=>refine' ao ?G ?H
   case G=>exact(nS (C:=t.q0b) (i:=0) T.q0e T.q0A (pv 0) (dv 3))
   case' H=>refine' ao ?I ?J
   case I=>exact(nS (C:=t.q0b) (i:=0) T.q0e T.q0q (pv 0) (dv 4))
   case' J=>refine' ao ?K ?L
   case K=>exact(nS (C:=t.q0b) (i:=0) T.q0e T.q0H (pv 0) (dv 5))
   case' L=>refine' az ?M
   case M=>exact(nS (C:=t.q0b) (i:=0) T.q0e T.q0I (pv 0) (dv 6))
  case B=>
  clear hr T;simp only[xM,cD,V2,WD,WN,WK,QF,V5,WB,Xc,Xd,Wj];walk_at "e";rw[qR (ks:=[]) rfl rfl,qR (ks:=bY.take 1) rfl MN,qR (ks:=bY.take 2) rfl MN,qR (ks:=bY.take 3) rfl MN,qR (ks:=bY.take 4) rfl MN,qR (ks:=bY.take 5) rfl MN];have lt:∀n:Nat,n < 10->n < 1000:=λn h=>by omega
  exact⟨lt 1 MA,lt 2 MA,lt 3 MA,lt 4 MA,lt 5 MA,q⟩
def qj:Option Str->L7
 |none=>.none
 |some s=>.str s
structure Lk where
 d:Int
 nm:Str
 st:List (Str×L7)
 go:List (Str×L7)
 bars:List L7
 lv:Option Str
def Lk.enc(C:L9)(k:Lk):L7:=J9 C (.int k.d) (.str k.nm) (.tuple (k.st.map bA)) (.tuple (k.go.map bA)) (.list k.bars) (qj k.lv)
def Lk.lets(k:Lk):Bool:=decide (0 < k.go.length) && decide (k.bars.length=0)
structure Ro where
 nm:Str
 d:Int
 lv:Option Str
def Ro.enc(r:Ro):L7:= .tuple [.str r.nm,.int r.d,qj r.lv]
def Lk.row(k:Lk):Ro:=⟨k.nm,k.d,k.lv⟩
def rP(k:Lk):Prop:=k.st.length<=41/\k.go.length<=41/\k.bars.length<=200
theorem DX:aW bY [a,b,c,d,e,f] (VY "day")=some a:=by simp[bY,aW]
theorem DY:aW bY [a,b,c,d,e,f] (VY "paper")=some b:=by
 simp only[bY,aW,M4 (show VY "day"≠VY "paper" by decide+kernel),if_true]
theorem DZ:aW bY [a,b,c,d,e,f] (VY "to_go")=some d:=by
 simp only[bY,aW,M4 (show VY "day"≠VY "to_go" by decide+kernel),M4 (show VY "paper"≠VY "to_go" by decide+kernel),M4 (show VY "to_stay"≠VY "to_go" by decide+kernel),if_true]
theorem TV:aW bY [a,b,c,d,e,f] (VY "bars")=some e:=by
 simp only[bY,aW,M4 (show VY "day"≠VY "bars" by decide+kernel),M4 (show VY "paper"≠VY "bars" by decide+kernel),M4 (show VY "to_stay"≠VY "bars" by decide+kernel),M4 (show VY "to_go"≠VY "bars" by decide+kernel),if_true]
theorem TX:aW bY [a,b,c,d,e,f] (VY "leave")=some f:=by
 simp only[bY,aW,M4 (show VY "day"≠VY "leave" by decide+kernel),M4 (show VY "paper"≠VY "leave" by decide+kernel),M4 (show VY "to_stay"≠VY "leave" by decide+kernel),M4 (show VY "to_go"≠VY "leave" by decide+kernel),M4 (show VY "bars"≠VY "leave" by decide+kernel),if_true]
def abY(C:L9):Fa:=λds Q=>∃k:Lk,ds=[k.enc C]/\rP k/\Q (.bool k.lets)
theorem Ka(T:Txt Z mg t):aB P w Z mg base MX 1 t.a_j t.d_j ["self"] (aQ Z (abY t.q0b)):=by
 refine T.F_j.F.okD RZ (λds Q h=>?_) (λ_ _ _ _ H O ds Q E hr h=>?_)
 ·obtain⟨k,rfl,_⟩:=h;rfl
 ·obtain⟨k,rfl,⟨_,h1,h2⟩,q⟩:=h;refine'⟨_,?A,?B⟩
  case A=>
   refine' az ?C
   case' C=>refine' aM ?D
   case D=>exact(BE (nz wu n4 (df (PE.imp (dA qy rfl T.q0i Yt (bz (bW (C:=t.q0b) T.q0e T.q0q (dv 0)) bw)) (cf qD))) (df ag) (aD _)) (BD (nz (cF hr.units) cG (df (PE.imp (dA qy rfl T.q0i Yt (bz (bW (C:=t.q0b) T.q0e T.q0H (dv 0)) bw)) (cf qD))) (df ag) (aD _))))
  case B=>
  clear hr T;simp only[Lk.enc];walk_at "d";refine⟨bY,_,rfl,_,DZ,_,.inr rfl,?_⟩;have q:Q (.bool (decide (0 < k.go.length) && decide (k.bars.length=0))):=q;rw[V0];by_cases h:0 < k.go.length
  ·rw[M8 L8];refine⟨bY,_,rfl,_,TV,_,.inl rfl,?_⟩;rw[decide_eq_true h,W9]at q;rw[show((k.bars.length:Int)==0)=decide (k.bars.length=0) by
    by_cases e:k.bars.length=0
    ·simp[e]
    ·rw[decide_eq_false e];simp;exact λz=>e (by rw[z];rfl)]
   exact q
  ·rw[M4 L8];rw[decide_eq_false h,Zs]at q;exact q
def aaZ(C:L9):Fa:=λds Q=>∃k:Lk,ds=[k.enc C]/\Q k.row.enc
theorem Kb(T:Txt Z mg t):aB P w Z mg base MX 1 t.a_k t.d_k ["self"] (aQ Z (aaZ t.q0b)):=by
 refine T.F_k.F.okD abt (λds Q h=>?_) (λ_ _ _ _ H O ds Q E hr h=>?_)
 ·obtain⟨k,rfl,_⟩:=h;rfl
 ·obtain⟨k,rfl,q⟩:=h;refine'⟨_,?A,?B⟩
  case A=>
   refine' az ?C
   case' C=>refine' aM ?D
   case' D=>refine' bq ?E
   case' E=>refine' aa ?F ?G
   case F=>exact(bW (C:=t.q0b) T.q0e T.q0p (dv 0))
   case' G=>refine' aa ?H ?I
   case H=>exact(bW (C:=t.q0b) T.q0e T.q0o (dv 0))
   case' I=>refine' aa ?J ah
   case J=>exact(bW (C:=t.q0b) T.q0e T.q0I (dv 0))
  case B=>
  clear hr T;simp only[Lk.enc];walk_at "d";exact⟨bY,_,rfl,_,DY,bY,_,rfl,_,DX,bY,_,rfl,_,TX,q⟩
structure Rn where
 n:Int
 L:List (Str×Pt)
 hs:List Hd
 lvs:List Pp
 go:List (Str×Int)
 us:List Str
def qS(p:Pp):L7:= .tuple [.str (VY "leave"),.int p.d,.str p.nm,.str p.kd]
def Rn.fd(R:Rn):List (Str×L7):=[(VY "day",.int R.n),(VY "rules",.tuple (R.L.map lP)),(VY "holds",.tuple (R.hs.map Hd.enc)),(VY "leaves",.list (R.lvs.map qS))]
def nJ(go:List (Str×Int)):List (aj×L7):=go.map λp=>(X6 p.1,.int p.2)
def nW(us:List Str):List (aj×L7):=us.map λs=>(X6 s,.bool true)
def dX:List Str:=[VY "day",VY "rules",VY "holds",VY "leaves",VY "gone",VY "used"]
def Rn.gn(R:Rn):Gn:=⟨R.go.map (·.1),R.go.map (·.2)⟩
def Rn.enc(C:L9)(R:Rn):L7:=nL C (dX.map .str) [.int R.n,.tuple (R.L.map lP),.tuple (R.hs.map Hd.enc),.list (R.lvs.map qS),R.gn.enc,kQ R.us (R.us.map λ_=>.bool true)]
theorem T3(C:L9)(R:Rn):Cv C R.fd (R.go.map (·.1)) R.us (nJ R.go) (nW R.us)=R.enc C:=by
 have e1:(nJ R.go).map (·.2)=(R.go.map (·.2)).map Wa:=by unfold nJ;rw[Wk,Wk];rfl
 have e2:(nW R.us).map (·.2)=R.us.map λ_=>.bool true:=by unfold nW;rw[Wk];rfl
 unfold Cv;rw[e1,e2];rfl
theorem Kc:aW dX [a,b,c,d,e,f] (VY "day")=some a/\aW dX [a,b,c,d,e,f] (VY "rules")=some b/\aW dX [a,b,c,d,e,f] (VY "holds")=some c/\aW dX [a,b,c,d,e,f] (VY "leaves")=some d/\aW dX [a,b,c,d,e,f] (VY "gone")=some e/\aW dX [a,b,c,d,e,f] (VY "used")=some f:=by
 have h:∀{x y:Str}{p q:Option L7},x≠y->(if x=y then p else q)=q:=λh=>M4 h;refine⟨?_,?_,?_,?_,?_,?_⟩
 ·simp[dX,aW]
 ·simp only[dX,aW,h (show VY "day"≠VY "rules" by decide+kernel),if_true]
 ·simp only[dX,aW,h (show VY "day"≠VY "holds" by decide+kernel),h (show VY "rules"≠VY "holds" by decide+kernel),if_true]
 ·simp only[dX,aW,h (show VY "day"≠VY "leaves" by decide+kernel),h (show VY "rules"≠VY "leaves" by decide+kernel),h (show VY "holds"≠VY "leaves" by decide+kernel),if_true]
 ·simp only[dX,aW,h (show VY "day"≠VY "gone" by decide+kernel),h (show VY "rules"≠VY "gone" by decide+kernel),h (show VY "holds"≠VY "gone" by decide+kernel),h (show VY "leaves"≠VY "gone" by decide+kernel),if_true]
 ·simp only[dX,aW,h (show VY "day"≠VY "used" by decide+kernel),h (show VY "rules"≠VY "used" by decide+kernel),h (show VY "holds"≠VY "used" by decide+kernel),h (show VY "leaves"≠VY "used" by decide+kernel),h (show VY "gone"≠VY "used" by decide+kernel),if_true]
structure tP (R:Rn):Prop where
 rl:qc R.L
 hd:vV R.hs
 ll:R.lvs.length<=41
 lk:∀p∈R.lvs,V6 p.kd=true
theorem Kd:∀(us:List Str)(z:Str),(aW us (us.map λ_=>Ya true) z).isSome=us.contains z
 | [],_=>rfl
 |u::us,z=>by
  rw[V2,aW,QZ];by_cases h:u=z
  ·rw[M8 h,h];simp
  ·rw[M4 h,Kd us z,cI (λe=>h e.symm),Xk]
def uU(R:Rn)(kd:Str)(p:Pp):Bool:=p.kd==kd && !R.us.contains p.nm
def uV(R:Rn)(kd:Str):Option Str:=(R.lvs.find? (uU R kd)).map (·.nm)
def T4(C:L9):Fa:=λds Q=>∃(R:Rn)(kd:Str),ds=[R.enc C,.str kd]/\tP R/\V6 kd=true/\Q (qj (uV R kd))
theorem acG(T:Txt Z mg t):aB P w Z mg base MX 1 t.a_n t.d_n ["self","kind"] (aQ Z (T4 t.q0c)):=by
 refine T.F_n.F.okD Iq (λds Q h=>?_) (λ_ _ _ _ H O ds Q E hr h=>?_)
 ·obtain⟨R,kd,rfl,_⟩:=h;rfl
 ·obtain⟨R,kd,rfl,g,hk,q⟩:=h;refine'⟨_,?A,?B⟩
  case A=>
   refine' ao ?C ?D
   case C=>
    refine' uh XR rfl (bW (C:=t.q0c) T.q0f T.q0K (dv 0)) ?E aK ?F
    case E=>exact(aJ (i:=2) Iq.nd rfl MH)
    case' F=>refine' az ?G
    case' G=>refine' bI ?H ?I bH
    case H=>exact(PW.pt (nF (aN (cF hr.units) cG (aC aE aH (dv 2) ag) (dv 1) (aD _)) (nA (Q2 hr.units (bW (C:=t.q0c) T.q0f T.q0B (dv 0)) (aC aE aH (dv 2) ag)))))
    case' I=>refine' az ?J
    case J=>exact(aM (aC aE aH (dv 2) ag))
   case D=>refine' az (aM mI)
  case B=>
  clear hr T;obtain⟨_,_,_,x4,_,x6⟩:=Kc (a:= .int R.n) (b:= .tuple (R.L.map lP)) (c:= .tuple (R.hs.map Hd.enc)) (d:= .list (R.lvs.map qS)) (e:=R.gn.enc) (f:=kQ R.us (R.us.map λ_=>.bool true));walk_at "d";refine⟨dX,_,rfl,_,x4,_,rfl,?_⟩;refine⟨λi Y=>(∀p∈R.lvs.take i,uU R kd p=false)/\∃o2,Y=[some (Sl.v (R.enc t.q0c)),some (Sl.v (.str kd)),o2],⟨MC,_,rfl⟩,?_,?_⟩
  ·rintro i z Y hz ⟨hn,o2,rfl⟩;rw[Wm]at hz;cases hz':R.lvs[i]? with
   |none=>rw[hz']at hz;cases hz
   |some p=>
    rw[hz']at hz;cases hz;have hp:=W0 hz';have no:uU R kd p=false->∀p∈R.lvs.take (i+1),uU R kd p=false:=λh p' hp'=>by
     rw[XA,hz']at hp';rcases Wo.mp hp' with z|z
     ·exact hn p' z
     ·have z:p'=p:=by simpa using z
      rw[z];exact h
    have yes:uU R kd p=true->Q (.str p.nm):=λh=>by
     have e:uV R kd=some p.nm:=by
      unfold uV;rw[show R.lvs=R.lvs.take i++p::R.lvs.drop (i+1) by
       have hi:=(Wf.mp hz').1;rw[<-(Wf.mp hz').2,<-ZH hi,Qi]]
      rw[Rc,ZS.mpr (λx hx=>by rw[hn x hx];simp),List.find?_cons_of_pos h];rfl
     rw[e]at q;exact q
    simp only[qS];walk_at "d";refine⟨cQ.mpr (g.lk p hp),cQ.mpr hk,?_⟩;unfold uU at no yes;by_cases h1:(p.kd==kd)=true
    ·rw[M8 h1];rw[h1,W9]at no yes;refine⟨dX,_,rfl,_,x6,_,_,rfl,?_⟩;rw[Kd];by_cases h2:R.us.contains p.nm=false
     ·rw[M8 h2];exact yes (by rw[h2];rfl)
     ·rw[M4 h2];exact⟨no (by rw[QX]at h2;rw[h2];rfl),_,rfl⟩
    ·rw[M4 h1];exact⟨no (by rw[YD]at h1;rw[h1];rfl),_,rfl⟩
  ·rintro Y ⟨hn,o2,rfl⟩;rw[V0,WU (V4 _)]at hn;walk_at "d";have e:uV R kd=none:=by
    unfold uV;rw[ZS.mpr (λx hx=>by rw[hn x hx];simp)];rfl
   rw[e]at q;exact q
end
local macro_rules | `(tactic| walk_at "g") =>OP (Oj++" Sl.i.injEq exists_and_left uw")
theorem D1:aU (aq uz) ["self","paper","line","to_stay","to_go","asking","leave","bars"] ["rule","by"] 2 [] ⟨V7,[ (V1 ".0",Mc),(V1 "rule",Mc),(V1 "by",Mc)],false,false,[]⟩:= .of
theorem Ke:aU (aq uz) ["self","paper","line","to_stay","to_go","asking","leave","bars"] ["hold"] 1 [] ⟨V7,[(V1 ".0",Mc),(V1 "hold",Mc)],false,false,[]⟩:= .of
theorem Kf:aU (aq uz) ["self","paper","line","to_stay","to_go","asking","leave","bars"] ["rule"] 1 [] ⟨V7,[(V1 ".0",Mc),(V1 "rule",Mc)],false,false,[]⟩:= .of
def AO(z:Str×L7):L7:= .tuple [.str (VY "stays"),.str z.1,z.2]
def AQ(h:Str):L7:= .tuple [.str (VY "held"),.str h]
def AR(a:Str):L7:= .tuple [.str (VY "lacks"),.str a]
def tQ(R:Rn)(kd:Str):Option Str:=if (pG kd R.L).length=0 then none else uV R kd
def mC(R:Rn)(r:Rp)(line:List Pp):Lk where
 d:=R.n
 nm:=r.c.nm
 st:=gT r R.n R.gn R.L
 go:=lZ r R.n R.gn R.L
 bars:=(gT r R.n R.gn R.L).map AO++(oN R.hs line).map AQ++(if tQ R r.c.kd=none then(pG r.c.kd R.L).map AR else [])
 lv:=tQ R r.c.kd
theorem Kg(h:qc L):(pG kd L).length<=41:=by
 unfold pG;rw[V0];exact Wy (Xi _ _) h.1
theorem Kh(h:vV hs):(oN hs line).length<=41:=by
 unfold oN;rw[V0];exact Wy (Xi _ _) h.1
theorem D2(h:qc L):(gT r n g L).length<=41:=
 Wy (AH (λz=>DQ _) _) (AI h).1
theorem T6(h:qc L):(lZ r n g L).length<=41:=
 Wy (AH (λz=>DQ _) _) (AI h).1
theorem Ki(g:tP R):rP (mC R r line):=by
 refine⟨D2 g.rl,T6 g.rl,?_⟩;show(ZD (_++_++_))<=200;have h1:=D2 (r:=r) (n:=R.n) (g:=R.gn) g.rl;have h2:=Kh (line:=line) g.hd;have h3:=Kg (kd:=r.c.kd) g.rl;rw[Wt,Wt,V0,V0];split
 ·rw[V0];omega
 ·simp only[WB];omega
theorem Kj:aW [VY "name",VY "coming",VY "kind",VY "makers",VY "happenings"] [a,b,c,d,e] (VY "name")=some a:=by simp[aW]
theorem acN:VY "unused"∉dX:=MN
def abL(CR CP CL:L9):Fa:=λds Q=>∃(R:Rn)(r:Rp)(line:List Pp),ds=[R.enc CR,r.enc CP,.list (line.map Pp.enc)]/\tP R/\nU r/\AL line/\Q ((mC R r line).enc CL)
theorem aaR(T:Txt Z mg t):aB P w Z mg base MX 8 t.a_o t.d_o ["self","paper","line"] (aQ Z (abL t.q0c t.q0a t.q0b)):=by
 refine T.F_o.F.okD uF (λds Q h=>?_) (λ_ _ _ _ H O ds Q E hr h=>?_)
 ·obtain⟨R,r,line,rfl,_⟩:=h;rfl
 ·obtain⟨R,r,line,rfl,g,hr',lo,q⟩:=h;refine'⟨_,?A,?B⟩
  case A=>
   refine' ao ?C ?D
   case C=>
    refine' bg (i:=3) uF.nd rfl MH ?E (hs:=se)
    case E=>exact(au (JI T) hr T.F_a (aa (dv 1) (aa (bW (C:=t.q0c) T.q0f T.q0s (dv 0)) (aa (bW (C:=t.q0c) T.q0f T.q0r (dv 0)) (aa (bW (C:=t.q0c) T.q0f T.q0n (dv 0)) ah)))))
   case' D=>refine' ao ?F ?G
   case F=>
    refine' bg (i:=4) uF.nd rfl MH ?H (hs:=se)
    case H=>exact(au (JJ T) hr T.F_b (aa (dv 1) (aa (bW (C:=t.q0c) T.q0f T.q0s (dv 0)) (aa (bW (C:=t.q0c) T.q0f T.q0r (dv 0)) (aa (bW (C:=t.q0c) T.q0f T.q0n (dv 0)) ah)))))
   case' G=>refine' ao ?I ?J
   case I=>exact(bg (i:=5) uF.nd rfl MH (au (abn T) hr T.F_c (aa (bW (C:=t.q0a) T.q0g T.q0m (dv 1)) (aa (bW (C:=t.q0c) T.q0f T.q0s (dv 0)) ah))))
   case' J=>refine' ao ?K ?L
   case K=>
    refine' bg (i:=6) uF.nd rfl MH ?M (hs:=aaA)
    case M=>exact(vw (vK (dv 5)) (PE.imp (Fw (dv 0) T.q0f T.q1Y (acG T) (hr.mono MA) T.F_n.b .nil nq (aa (bW (C:=t.q0a) T.q0g T.q0m (dv 1)) ah)) Q7) mI)
   case' L=>refine' ao ?N ?O
   case N=>exact(HB (i:=7) uF.nd rfl MH (sf rfl D1 (df (dv 3)) (oY (cU aK (cU aK oX))) B9 MA (λ_ _ _ _=>(oH (n:=2) rfl (cE (aJ (i:=0) D1.nd rfl MH) (cE (aJ (i:=1) D1.nd rfl MH) oG)))) (λ_ _ _ _=>mK) (λ_ _ _ _=>(bq (aa aZ (aa (dv 0) (aa (dv 1) ah)))))))
   case' O=>refine' ao ?P ?Q
   case P=>exact(xJ (i:=7) (pv 7) (oZ rfl Ke (df (au (Tz T) hr T.F_U (aa (bW (C:=t.q0c) T.q0f T.q0J (dv 0)) (aa (dv 2) ah)))) aK bS MA (λ_ _ _ _=>(aJ (i:=0) Ke.nd rfl MH)) (λ_ _ _ _=>mK) (λ_ _ _ _=>(bq (aa aZ (aa (dv 0) ah))))))
   case' Q=>refine' ao ?R ?S
   case R=>
    refine' bI ?T ?U bH
    case T=>exact(aN sP tw (dv 6) mI (aD _))
    case' U=>refine' az ?V
    case V=>exact(xJ (i:=7) (pv 7) (mJ rfl Kf (df (dv 5)) aK bS MA (λ_ _ _ _=>(aJ (i:=0) Kf.nd rfl MH)) (λ_ _ _ _=>mK) (λ_ _ _ _=>(bq (aa aZ (aa (dv 0) ah))))))
   case' S=>refine' az ?W
   case' W=>refine' Oy 7 ?X
   case' X=>refine' aM ?Y
   case Y=>exact(PE.imp (t6 T.q1N (ach T) (hr.mono MA) rfl T.q1W T.F_i.b .nil nq (aa (bW (C:=t.q0c) T.q0f T.q0r (dv 0)) (aa (bW (C:=t.q0a) T.q0g T.q0y (dv 1)) (aa (dv 3) (aa (dv 4) (aa (dv 7) (aa (dv 6) ah))))))) vI)
  case B=>
  clear hr T;obtain⟨x1,x2,x3,x4,x5,x6⟩:=Kc (a:= .int R.n) (b:= .tuple (R.L.map lP)) (c:= .tuple (R.hs.map Hd.enc)) (d:= .list (R.lvs.map qS)) (e:=R.gn.enc) (f:=kQ R.us (R.us.map λ_=>.bool true));have l1:=D2 (r:=r) (n:=R.n) (g:=R.gn) g.rl;have l2:=Kh (line:=line) g.hd;have l3:=Kg (kd:=r.c.kd) g.rl;generalize hB:cB (dQ 7 _) _=TB;have key:∀o,o=tQ R r.c.kd->TB {nx:=λx=>Q ZE,rt:=Q} [some (Sl.v (R.enc t.q0c)),some (Sl.v (r.enc t.q0a)),some (Sl.v (.list (line.map Pp.enc))),some (Sl.v (.tuple ((gT r R.n R.gn R.L).map bA))),some (Sl.v (.tuple ((lZ r R.n R.gn R.L).map bA))),some (Sl.v (.list ((pG r.c.kd R.L).map .str))),some (Sl.v (qj o)),none]:=λo ho=>by
   subst hB;generalize hF:d7 7 _=TF;walk_at "g";refine⟨by rw[V0];omega,qL (λ_=>true) AO (λz hz R' S h1 _=>?_) ?_⟩
   ·simp only[bA];walk_at "g";exact h1 rfl
   ·rw[pB];refine⟨dX,_,rfl,_,x3,R.hs,line,rfl,g.hd,lo,_,rfl,by rw[V0];omega,qL (λ_=>true) AQ (λz hz R' S h1 _=>?_) ?_⟩
    ·walk_at "g";exact h1 rfl
    ·rw[pB];have fin:∀bars,bars=(mC R r line).bars->TF {nx:=λx=>Q ZE,rt:=Q} [some (Sl.v (R.enc t.q0c)),some (Sl.v (r.enc t.q0a)),some (Sl.v (.list (line.map Pp.enc))),some (Sl.v (.tuple ((gT r R.n R.gn R.L).map bA))),some (Sl.v (.tuple ((lZ r R.n R.gn R.L).map bA))),some (Sl.v (.list ((pG r.c.kd R.L).map .str))),some (Sl.v (qj o)),some (Sl.o bars)]:=λbars hb=>by
      subst hF;walk_at "g";refine⟨dX,_,rfl,_,x1,[VY "name",VY "coming",VY "kind",VY "makers",VY "happenings"],_,rfl,_,Kj,_,_,_,_,_,_,rfl,?_⟩;rw[hb,ho];exact q
     refine⟨by rw[V0,V0];omega,?_⟩;have eb:(mC R r line).bars=(gT r R.n R.gn R.L).map AO++(oN R.hs line).map AQ++(if tQ R r.c.kd=none then(pG r.c.kd R.L).map AR else []):=rfl;rw[<-ho]at eb;cases o with
     |none=>
      rw[M8 (by rfl)];refine⟨by rw[V0];omega,qL (λ_=>true) AR (λz hz R' S h1 _=>?_) ?_⟩
      ·walk_at "g";exact h1 rfl
      ·rw[pB];refine⟨by rw[Wt,V0,V0,V0];omega,fin _ ?_⟩;rw[eb,M8 rfl]
     |some v=>
      rw[M4 (by simp[mM,qj])];refine fin _ ?_;rw[eb,M4 MC,Wn]
  walk_at "g";refine⟨dX,_,rfl,_,x2,dX,_,rfl,_,x1,dX,_,rfl,_,x5,r,R.L,R.n,R.gn,rfl,hr',g.rl,?_⟩;refine⟨dX,_,rfl,_,x2,dX,_,rfl,_,x1,dX,_,rfl,_,x5,r,R.L,R.n,R.gn,rfl,hr',g.rl,?_⟩;refine⟨[VY "name",VY "coming",VY "kind",VY "makers",VY "happenings"],_,rfl,_,AF,dX,_,rfl,_,x2,r.c.kd,R.L,rfl,hr'.2.1,g.rl,?_⟩;have key2:∀o,o=tQ R r.c.kd->TB {nx:=λx=>Q ZE,rt:=Q} [some (Sl.v (R.enc t.q0c)),some (Sl.v (r.enc t.q0a)),some (Sl.v (.list (line.map Pp.enc))),some (Sl.v (.tuple ((gT r R.n R.gn R.L).map bA))),some (Sl.v (.tuple ((lZ r R.n R.gn R.L).map bA))),some (Sl.v (.list ((pG r.c.kd R.L).map .str))),some (Sl.v (qj o)),none]:=key;clear key;refine⟨_,rfl,?_⟩;unfold tQ at key2;by_cases h0:(pG r.c.kd R.L).length=0
  ·rw[M4 (by rw[U4]at h0;rw[h0];simp)];exact key2 none (by rw[M8 h0])
  ·rw[M8 (by rw[List.isEmpty_eq_false_iff];intro z;exact h0 (by rw[<-V0 (f:=V8),z];rfl))];exact⟨dX,⟨_,rfl⟩,acN,[VY "name",VY "coming",VY "kind",VY "makers",VY "happenings"],_,rfl,_,AF,R,r.c.kd,rfl,g,hr'.2.1,key2 _ (by rw[M4 h0])⟩
local macro_rules | `(tactic| walk_at "g") =>OP (Oj++" Sl.i.injEq Sl.r.injEq Sl.b.injEq exists_and_left uw Cw Cu CA xZ")
theorem Kk:aU (aq Aj) ["self","deeds","day","done","leaves","row"] ["deed","day"] 1 [2] ⟨V7,[ (V1 ".0",Mc),(V1 "deed",Mc),(V1 "day",Wi)],false,false,[]⟩:= .of
theorem Kl(T:Txt Z mg t):aB P w Z mg base MX 1 t.a_m t.d_m ["self","row"] (Ct Z t.q0c):=by
 refine T.F_m.F.ok aaI (λvs H Q E h=>?_) (λcdv A outer s H vs Q E hr h=>?_)
 ·obtain⟨l,dx,fs,g,u,gv,uv,a,x,y,z,rfl,_⟩:=h;rfl
 ·obtain⟨l,dx,fs,g,u,gv,uv,a,x,y,z,rfl,hl,lg,lu,ne,hg,hu,sq,n1,n2,q⟩:=h;have un:=hr.units;refine⟨_,gW (BL (ZW (UM (by decide:1<=64) _) hr.units) (wC (pv 0) rfl) (pU aE (pv 1) bC (λ_ _=>rfl)) (pU aE (pv 1) bC (λ_ _=>rfl)) rfl) (l5 (sM (we (Mr (pU aE (pv 1) bC (λ_ _=>rfl)))) (l5 (BL (ZW (UM (by decide:1<=64) _) hr.units) (wC (pv 0) rfl) (pU aE (pv 1) bC (λ_ _=>rfl)) EB rfl)) sL)),?_⟩;have gl:l≠g:=λe=>by rw[e,hg]at hl;cases hl
  have tk:∀{H':Hp},(∀b o,H b=some o->b≠g->H' b=some o)->bo Z H' a [.str x,y,z]:=λ{H'} k=>by
   rcases sq with(h|⟨ob,h⟩)|h
   ·exact .inl (.inl (k _ _ h (λe=>by rw[e,hg]at h;cases h)))
   ·exact .inl (.inr ⟨ob,k _ _ h (λe=>by rw[e,hg]at h;cases h)⟩)
   ·exact .inr h
  simp only[A5,Gk];walk_at "a";refine qA sq cN ⟨_,rfl,l,_,dx,fs,_,rfl,hl,T.q0f,T.q0n,lg,qA sq bN ⟨g,rfl,_,tm.k (k:= .inr x) hg n1,?_⟩⟩;have sq2:bo Z (ai H g (.dK (putK gv (.inr x) y))) a [.str x,y,z]:=tk λb o e n=>by rw[ar n];exact e
  simp only[EF];walk_at "a";refine qA sq2 dH ?_;rcases q with⟨rfl,q⟩|⟨s,rfl,q⟩
  ·exact q
  ·rw[M8 (λz=>nomatch z)];refine⟨_,rfl,l,_,dx,fs,_,rfl,by rw[ar gl];exact hl,T.q0f,T.q0B,lu,?_⟩;walk_at "a";refine qA sq2 dH ⟨_,tm.k (k:= .inr s) (by rw[ar (Ne.symm ne)];exact hu) n2,q⟩
def qm(go:List (Str×Int))(k:Str)(d:Int):List (Str×Int):=if (go.any λp=>decide (p.1=k))=true then go.map (λp=>if p.1=k then(p.1,d) else p) else go++[(k,d)]
def tR(us:List Str)(s:Str):List Str:=if us.contains s=true then us else us++[s]
theorem Km(go:List (Str×Int))(k:Str):((nJ go).any λp=>decide (p.1=X6 k))=go.any λp=>decide (p.1=k):=by
 unfold nJ;rw[ZR];congr 1;funext p;simp only[YE,decide_eq_decide];exact qE
theorem Kn(go:List (Str×Int))(k:Str)(d:Int):mh (nJ go) (.inr k) (.int d)=nJ (qm go k d):=by
 unfold mh qm;rw[Km];split
 ·unfold nJ;rw[Wk,Wk];apply Y0;intro p _;simp only[YE];by_cases h:p.1=k
  ·rw[M8 (by rw[h]),M8 h]
  ·rw[M4 (λe=>h (qE.mp e)),M4 h]
 ·unfold nJ;rw[Ww];rfl
theorem Ua(us:List Str)(k:Str):((nW us).any λp=>decide (p.1=X6 k))=us.contains k:=by
 unfold nW;rw[ZR]
 induction us with
 |nil=>rfl
 |cons u us ih=>
  rw[WY,QZ,ih];congr 1;simp only[YE];by_cases h:u=k
  ·rw[h];simp
  ·rw[decide_eq_false (λe=>h (qE.mp e)),cI (λe=>h e.symm)]
theorem Ko(us:List Str)(k:Str):mh (nW us) (.inr k) (.bool true)=nW (tR us k):=by
 unfold mh tR;rw[Ua];split
 ·unfold nW;rw[Wk];apply Y0;intro p _;simp only[YE];split<;>rfl
 ·unfold nW;rw[Ww];rfl
def cj(m:List (Str×Int)×List Str)(r:Ro):List (Str×Int)×List Str:=(qm m.1 r.nm r.d,match r.lv with
 |none=>m.2
 |some s=>tR m.2 s)
theorem Kp(go:List (Str×Int))(k:Str)(d:Int):(qm go k d).length<=go.length+1:=by
 unfold qm;split<;>simp
theorem Kq(us:List Str)(k:Str):(tR us k).length<=us.length+1:=by
 unfold tR;split<;>simp
theorem D3:∀(rs:List Ro)(m:List (Str×Int)×List Str),(rs.foldl cj m).1.length<=m.1.length+rs.length/\(rs.foldl cj m).2.length<=m.2.length+rs.length
 | [],m=>⟨V4 _,V4 _⟩
 |r::rs,m=>by
  obtain⟨h1,h2⟩:=D3 rs (cj m r);have a:(cj m r).1.length<=m.1.length+1:=Kp _ _ _;have b:(cj m r).2.length<=m.2.length+1:=by
   unfold cj;cases r.lv with
   |none=>exact Yj _
   |some s=>exact Kq _ _
  rw[W8,V5];exact⟨L8,L8⟩
def De.lv:De->Option Pp
 | .oth w d nm [.str kd]=>if (w==VY "leave")=true then some ⟨d,nm,kd,[]⟩ else none
 |_=>none
def uW(n:Int)(x:De):Bool:=x.w==VY "leave" && decide (x.d<=n)
def Ub(xs:List De)(n:Int):List Pp:=bV ((xs.filterMap De.lv).filter λp=>decide (p.d<=n))
theorem Kr:∀{xs:List De},(∀d nm r,De.oth (VY "leave") d nm r∈xs->∃kd,r=[.str kd]/\V6 kd=true)->(xs.filter (uW n)).map De.enc=((xs.filterMap De.lv).filter λp=>decide (p.d<=n)).map qS
 | [],_=>rfl
 |x::xs,h=>by
  have ih:=Kr (n:=n) (xs:=xs) λd nm r z=>h d nm r (Wu _ z);by_cases hw:x.w=VY "leave"
  ·cases x with
   |pap p=>exact absurd hw (by show VY "paper"≠_;decide+kernel)
   |oth w d nm r=>
    have hw:w=VY "leave":=hw;subst hw;obtain⟨kd,rfl,_⟩:=h d nm r WR;have e1:De.lv (.oth (VY "leave") d nm [.str kd])=some ⟨d,nm,kd,[]⟩:=by simp[De.lv]
    have e2:uW n (.oth (VY "leave") d nm [.str kd])=decide (d<=n):=by
     show((VY "leave"==VY "leave") && decide (d<=n))=_;rw[beq_self_eq_true,W9]
    rw[XS,e1,W6,W6,e2];by_cases hd:d<=n
    ·rw[M8 (by simpa using hd),M8 (by simpa using hd),V2,V2,ih];rfl
    ·rw[M4 (by simpa using hd),M4 (by simpa using hd),ih]
  ·have e1:De.lv x=none:=by
    cases x with
    |pap p=>rfl
    |oth w d nm r=>
     unfold De.lv;split
     ·rename_i e;cases e;rw[cI (show w≠VY "leave" from hw),M4 We]
     ·rfl
   have e2:uW n x=false:=by unfold uW;rw[cI hw,Zs]
   rw[XS,e1,W6,e2,M4 We,ih]
theorem Uc{ps:List Pp}{ds:List L7}(nd:(ps.map (·.nm)).Nodup)(hp:ds.Perm (ps.map qS))(hs:ds.Pairwise λa b=>aY (oM a) (oM b)=true):ds=(bV ps).map qS:=by
 refine sA (r:=λa b=>aY (oM a) (oM b)=true) (λa b z=>AA z) (hp.trans ((pz ps).map qS).symm) hs ?_;rw[X1];exact uL nd
theorem D4{xs:List De}(h:p∈xs.filterMap De.lv):∃x∈xs,x= .oth (VY "leave") p.d p.nm [.str p.kd]:=by
 obtain⟨x,hx,e⟩:=Yy.mp h;cases x with
 |pap q=>cases e
 |oth w d nm r=>
  unfold De.lv at e;split at e
  ·rename_i e2;cases e2;split at e
   ·rename_i hw;cases e;exact⟨_,hx,by rw[eq_of_beq hw]⟩
   ·cases e
  ·cases e
theorem Ks:∀{xs:List De},xs.Nodup->(∀x∈xs,∀y∈xs,x.w=VY "leave"->y.w=VY "leave"->x.nm=y.nm->x=y)->((xs.filterMap De.lv).map (·.nm)).Nodup
 | [],_,_=>by simp
 |x::xs,nd,h=>by
  rw[XW]at nd;have ih:=Ks nd.2 λa ha b hb=>h a (Wu _ ha) b (Wu _ hb);rw[XS];cases e:De.lv x with
  |none=>exact ih
  |some p=>
   show(X3 (·.nm) (p::xs.filterMap De.lv)).Nodup;rw[V2,XW];refine⟨λhm=>?_,ih⟩;obtain⟨p',hp',en⟩:=Wb.mp hm;obtain⟨y,hy,ey⟩:=D4 hp';obtain⟨x',hx',ex⟩:=D4 (xs:=[x]) (p:=p) (by rw[XS,e];simp);rw[WH]at hx';subst hx';have:=h x' WR y (Wu _ hy) (by rw[ex];rfl) (by rw[ey];rfl) (by rw[ex,ey];exact en.symm);rw[this]at nd;exact nd.1 hy
def dN(xs:List De)(n:Int)(rows:List Ro):Rn:=⟨n,dM xs n,DW xs n,Ub xs n,(rows.foldl cj ([],[])).1,(rows.foldl cj ([],[])).2⟩
def abb:List L7->List L7->(List (Str×L7)->List (aj×L7)->List (aj×L7)->Prop)->Prop:=λds es Q=>∃(xs:List De)(n:Int)(rows:List Ro),ds=[.tuple (xs.map De.enc),.int n]/\es=rows.map Ro.enc/\bX xs/\rows.length<=100000/\(tP (dN xs n rows)->Q (dN xs n rows).fd (nJ (dN xs n rows).go) (nW (dN xs n rows).us))
theorem D5(R:Rn):oe (VY "mark") (R.fd.map (·.1))=true:=by
 show oe (VY "mark") [VY "day",VY "rules",VY "holds",VY "leaves"]=true;decide+kernel
theorem Ue(T:Txt Z mg t):aB P w Z mg base MX 5 t.a_l t.d_l ["self","deeds","day","done"] (xY Z t.q0c abb):=by
 refine T.F_l.F.okRn Dq (λds es Q h=>?_) (λcdv A outer s H H1 O ds es Q E l hr h0 hX h=>?_)
 ·obtain⟨xs,n,rows,rfl,_⟩:=h;rfl
 ·obtain⟨xs,n,rows,rfl,rfl,g,rl,q⟩:=h;refine'⟨_,?A,?B⟩
  case A=>
   refine' ao ?C ?D
   case C=>exact(nS (C:=t.q0c) (i:=0) T.q0f T.q0r (pv 0) (dv 2))
   case' D=>refine' ao ?E ?F
   case E=>exact(nS (C:=t.q0c) (i:=0) T.q0f T.q0s (pv 0) (au (DN T) hr T.F_R (aa (dv 1) (aa (dv 2) ah))))
   case' F=>refine' ao ?G ?H
   case G=>exact(nS (C:=t.q0c) (i:=0) T.q0f T.q0J (pv 0) (au (Tw T) hr T.F_S (aa (dv 1) (aa (dv 2) ah))))
   case' H=>refine' ao ?I ?J
   case I=>exact(tu (i:=4) Dq.nd rfl MH (sf rfl Kk (df (dv 1)) aK bS MA (λ_ _ _ _=>(aJ (i:=0) Kk.nd rfl MH)) (λ_ _ _ _=>(eM (PW.pt (nF (aN (mv hr) mw (aC aE aH (dv 0) ag) aZ (aD _)) (nA (aN rn n4 (aC aE aH (dv 0) ag) (dv 1) (aD _))))))) (λ_ _ _ _=>(dv 0))))
   case' J=>refine' ao ?K ?L
   case K=>exact(nS (C:=t.q0c) (i:=0) T.q0f T.q0K (pv 0) (fe (Hn oM rfl (DH T) (bf.in1 (bf.in1 (hr.mono MA))) T.F_J.b rfl T.F_J.m rfl T.q0k YC (bz (dv 4) bw))))
   case' L=>refine' Rh (C:=t.q0c) (i:=0) T.q0f T.q0n T.q0B (pv 0) (pv 0) ?M
   case' M=>refine' az ?N
   case' N=>refine' Ri (j:=3) h0 XR rfl (pv 3) ?O aK ?P
   case O=>exact(aJ (i:=5) Dq.nd rfl MH)
   case' P=>refine' az ?Q
   case Q=>exact(HW (C:=t.q0c) (i:=0) hX (pv 0) T.q0f T.q1R (Kl T) (hr.mono MA) T.F_m.b nq (dv 5))
  case B=>
  clear hr T h0 hX;simp only[Cz,sr,V2,WD,WN,WK,QF,V5,WB,Xc,Xd,Wj];have f1:∀a,mj (VY "day") a []=[(VY "day",a)]:=λa=>rfl;have f2:∀a b,mj (VY "rules") b [(VY "day",a)]=[(VY "day",a),(VY "rules",b)]:=λa b=>qR (ks:=[VY "day"]) rfl MN;have f3:∀a b c,mj (VY "holds") c [(VY "day",a),(VY "rules",b)]=[(VY "day",a),(VY "rules",b),(VY "holds",c)]:=λa b c=>qR (ks:=[VY "day",VY "rules"]) rfl MN;have f4:∀a b c d,mj (VY "leaves") d [(VY "day",a),(VY "rules",b),(VY "holds",c)]=[(VY "day",a),(VY "rules",b),(VY "holds",c),(VY "leaves",d)]:=λa b c d=>qR (ks:=[VY "day",VY "rules",VY "holds"]) rfl MN;have lt:∀n:Nat,n < 10->n < 1000:=λn h=>by omega
  have lt9:∀n:Nat,n < 10->n < 900:=λn h=>by omega
  have xl:=g.gd.gx.ln;generalize hB:xZ _ _ _=TB;walk_at "g";simp only[f1,f2,f3,f4];refine⟨xs,n,rfl,g.gd,λh1 h2=>⟨lt 1 MA,xs,n,rfl,g,λh3=>⟨lt 2 MA,by rw[V0];omega,gS (uW n) De.enc (λx hx R S h=>?_) ?_⟩⟩⟩
  ·have h:if (x.w==VY "leave")=true then(if x.d<=n then R x.enc else S) else S:=by
    unfold uW at h;by_cases e1:(x.w==VY "leave")=true
    ·rw[M8 e1];rw[e1,W9]at h;by_cases e2:x.d<=n
     ·rw[M8 e2];rw[M8 (by simpa using e2)]at h;exact h
     ·rw[M4 e2];rw[M4 (by simpa using e2)]at h;exact h
    ·rw[M4 e1];rw[YD]at e1;rw[e1,Zs,M4 We]at h;exact h
   cases x<;>simp only[De.enc,De.w,De.d,Pp.enc]at h⊢<;> walk_at "g"<;>exact h
  ·rw[Kr g.le];have nd:(((xs.filterMap De.lv).filter λp=>decide (p.d<=n)).map (·.nm)).Nodup:=(Ks g.gd.nd g.lv).sublist (YL.map _);have ll:((xs.filterMap De.lv).filter λp=>decide (p.d<=n)).length<=41:=by
    have a:=Xi (λp:Pp=>decide (p.d<=n)) (xs.filterMap De.lv);have b:=Zh De.lv xs;omega
   refine⟨λd hd R z=>?_,by rw[V0];omega,?_,λds' h5 h6=>⟨lt 3 MA,?_,lt9 4 MA,λga ua=>?_⟩⟩
   ·obtain⟨p,hp,rfl⟩:=Wb.mp hd;exact⟨.oth (VY "leave") p.d p.nm [.str p.kd],rfl,z⟩
   ·rw[Wk];exact Je nd
   ·show oe (VY "mark") [VY "day",VY "rules",VY "holds",VY "leaves"]=true;decide+kernel
   ·rw[Uc nd h5 h6];have g5:tP (dN xs n rows):=by
     refine⟨DR g.gd h1 h2,h3,?_,λp hp=>?_⟩
     ·show(bV _).length<=41;rw[qJ];exact ll
     ·have hp:=(Wr.mp (qI.mp hp)).1;obtain⟨x,hx,e⟩:=D4 hp;obtain⟨kd,e2,h⟩:=g.le p.d p.nm [.str p.kd] (by rw[<-e];exact hx);simp only[Wx,WS,and_true]at e2;rw[e2];exact h
    have q:=q g5;subst hB;walk_at "g";refine⟨λi Y=>∃o5,Y=[some (Sl.r l t.q0c ga ua (dN xs n rows).fd (nJ ((rows.take i).foldl cj ([],[])).1) (nW ((rows.take i).foldl cj ([],[])).2)),some (Sl.v (WG (X3 De.enc xs))),some (Sl.v (Wa n)),some (Sl.b (X3 Ro.enc rows)),some (Sl.v (X2 (((xs.filterMap De.lv).filter λp=>decide (p.d<=n)).map qS))),o5],⟨none,rfl⟩,?_,?_⟩
    ·rintro i z Y hz ⟨o5,rfl⟩;rw[Wm]at hz;cases hz':rows[i]? with
     |none=>rw[hz']at hz;cases hz
     |some r=>
      rw[hz']at hz;cases hz;have ts:(rows.take (i+1)).foldl cj ([],[])=cj ((rows.take i).foldl cj ([],[])) r:=by
       rw[XA,hz',X4];rfl
      obtain⟨m1,m2⟩:=D3 (rows.take i) ([],[]);rw[Xr]at m1 m2;simp only[WB]at m1 m2;simp only[ts,Ro.enc];walk_at "g";generalize hM:(rows.take i).foldl cj ([],[])=M at m1 m2;refine⟨rfl,D5 _,by unfold nJ;rw[V0];omega,by unfold nW;rw[V0];omega,?_⟩;have e1:(cj M r).1=qm M.1 r.nm r.d:=rfl;rw[e1,Kn];cases hv:r.lv with
      |none=>
       have e2:(cj M r).2=M.2:=by unfold cj;rw[hv]
       rw[e2];exact .inl ⟨rfl,rfl,rfl,_,rfl⟩
      |some v=>
       have e2:(cj M r).2=tR M.2 v:=by unfold cj;rw[hv]
       rw[e2];exact .inr ⟨v,rfl,rfl,Ko _ _,_,rfl⟩
    ·rintro Y ⟨o5,rfl⟩;rw[V0,WU (V4 _)];exact⟨_,_,_,_,_,rfl,q⟩
local macro_rules | `(tactic| walk_at "g") =>OP (Oj++" Sl.i.injEq Sl.r.injEq Sl.b.injEq exists_and_left uw Cw Cu CA xZ HY Cy HZ")
theorem Kt:aU (aq Ak) ["deeds"] ["name","deeds"] 1 [0] ⟨V7,[ (V1 ".0",Mc),(V1 "name",Mc),(V1 "Paper",W4),(V1 "line_of",W4),(V1 "deeds",Wi)],false,false,[]⟩:= .of
theorem Ug(T:Txt Z mg t):t.q0b≠t.q0c:=λe=>by
 have h1:=T.q1N.init;have h2:=T.q1Q.init;rw[e,h2]at h1;have h3:t.a_l=t.a_i:=by injection h1 with h1;injection h1 with h1;injection h1
 obtain⟨_,_,_,_,_,_,_,_,_,e1,k1,_⟩:=T.F_i.F.ex;obtain⟨_,_,_,_,_,_,_,_,_,e2,k2,_⟩:=T.F_l.F.ex;rw[<-h3,k2]at k1;simp only[WO,Obj.mk.injEq,Data.func.injEq]at k1;have h4:t.d_l=t.d_i:=k1.2.2.1;rw[e1,e2]at h4;have h5:("Round.__init__":Str)="Look.__init__":=congrArg FuncData.qualname h4;exact absurd h5 MN
abbrev Sf:=Rp×List Pp
def Sf.enc(C:L9)(s:Sf):L7:= .tuple [s.1.enc C,.list (s.2.map Pp.enc)]
def bB(xs:List De):List Sf:=(bV (aI xs)).map λc=>(dh xs c,qQ (aI xs) c)
def Ku(s:Sf):Prop:=nU s.1/\AL s.2
def Uh(C:L9):Fa:=λds Q=>∃xs:List De,ds=[.tuple (xs.map De.enc)]/\nH xs/\((∀s∈bB xs,Ku s)->Q (.list ((bB xs).map (Sf.enc C))))
theorem aaw(T:Txt Z mg t):aB P w Z mg base MX 9 t.a_p t.d_p ["deeds"] (aQ Z (Uh t.q0a)):=by
 refine T.F_p.F.okD R3 (λds Q h=>?_) (λ_ _ _ _ H O ds Q E hr h=>?_)
 ·obtain⟨xs,rfl,_⟩:=h;rfl
 ·obtain⟨xs,rfl,gd,q⟩:=h;refine'⟨_,?A,?B⟩
  case A=>
   refine' az ?C
   case' C=>refine' aM ?D
   case' D=>refine' fe ?E
   case E=>exact(oZ rfl Kt (df (au (DJ T) hr T.F_M (aa (dv 0) ah))) aK bS MA (λ_ _ _ _=>(aJ (i:=0) Kt.nd rfl MH)) (λ_ _ _ _=>mK) (λ_ _ _ _=>(bq (aa (PE.imp (t6 T.q0F (AD T) (hr.mono MA) rfl T.q0E T.F_I.b .nil nq (aa (dv 1) (aa (dv 0) ah))) vI) (aa (au (TQ T) hr T.F_P (aa (dv 1) (aa (dv 0) ah))) ah)))))
  case B=>
  clear hr T;walk_at "d";have ln:=gd.gx.ln;have ol:=qJ (ps:=aI xs);have pl:=gd.gx.gp.ln;refine⟨xs,rfl,gd.gx,_,rfl,by rw[V0,V0];omega,?_⟩;refine⟨λi acc=>acc=((bV (aI xs)).take i).map (λc=>Sf.enc t.q0a (dh xs c,qQ (aI xs) c))/\∀c∈(bV (aI xs)).take i,nU (dh xs c),⟨rfl,MC⟩,?_,?_⟩
  ·rintro i z acc hz ⟨rfl,hh⟩;rw[Wm,Wm]at hz;cases hz':(bV (aI xs))[i]? with
   |none=>rw[hz']at hz;cases hz
   |some c=>
    rw[hz']at hz;cases hz;walk_at "d";have hc:=qI.mp (W0 hz');refine⟨xs,c,rfl,gd,hc,λh1 h2 h3=>⟨xs,c,rfl,gd.gx,hc,?_,λc' hc'=>?_⟩⟩
    ·rw[XA,hz',Ww];rfl
    ·rw[XA,hz']at hc';rcases Wo.mp hc' with y|y
     ·exact hh c' y
     ·have y:c'=c:=by simpa using y
      rw[y];exact uP gd hc h1 h3
  ·rintro acc ⟨rfl,hh⟩;simp only[V0,Vu]at hh⊢;have e:(bV (aI xs)).map (λc=>Sf.enc t.q0a (dh xs c,qQ (aI xs) c))=(bB xs).map (Sf.enc t.q0a):=by unfold bB;rw[Wk];rfl
   rw[e];refine q λs hs=>?_;obtain⟨c,hc,rfl⟩:=Wb.mp hs;exact⟨hh c hc,acj gd.gx.gp (qI.mp hc)⟩
abbrev pI:=List (Str×Int)×List Str
def pJ(go:List (Str×Int))(z:Str):Bool:=go.any λp=>decide (p.1=z)
def Rn.at(R:Rn)(m:pI):Rn:={R with go:=m.1,us:=m.2}
def mD(R:Rn)(st:pI×List Lk)(s:Sf):pI×List Lk:=
 if (decide (s.1.c.d<=R.n) && !pJ st.1.1 s.1.c.nm)=true then((if (mC (R.at st.1) s.1 s.2).lets=true then cj st.1 (mC (R.at st.1) s.1 s.2).row else st.1),st.2++[mC (R.at st.1) s.1 s.2]) else st
def qT(R:Rn)(ss:List Sf):pI×List Lk:=ss.foldl (mD R) ((R.go,R.us),[])
def sG(xs:List De)(n:Int)(rows:List Ro)(ss:List Sf):List Lk:=(qT (dN xs n rows) ss).2
theorem D6:∀{ds:List L7},(∀d∈ds,lC d=true)->nT ds=true
 | [],_=>rfl
 |d::ds,h=>by
  rw[nT,h d WR,D6 λx hx=>h x (Wu _ hx)];rfl
theorem Kv(o:Option Int):lC (di o)=true:=by cases o<;>rfl
theorem Uj(o:Option Str):lC (qj o)=true:=by cases o<;>rfl
theorem Uk(h:pE r n g pt=some d):lC d=true:=by
 cases pt with
 |two w kd=>
  simp only[pE]at h;split at h
  ·rw[Xl]at h;obtain⟨s,_,rfl⟩:=h;rfl
  ·cases h
 |five w kd s k u=>
  simp only[pE]at h;split at h
  ·cases h;exact Kv _
  ·cases h
theorem acB(h:pF r n g pt=some d):lC d=true:=by
 cases pt with
 |two w kd=>
  simp only[pF]at h;split at h
  ·rw[Xl]at h;obtain⟨s,_,rfl⟩:=h;rfl
  ·cases h
 |five w kd s k u=>
  simp only[pF]at h;split at h
  ·cases h;exact Kv _
  ·cases h
theorem Kw(h:z∈gT r n g L):lC z.2=true:=by
 obtain⟨y,_,hy⟩:=Yr.mp h;unfold qg at hy;rw[Y9,Xl]at hy;obtain⟨b,hb,rfl⟩:=hy;exact Uk hb
theorem Um(h:z∈lZ r n g L):lC z.2=true:=by
 obtain⟨y,_,hy⟩:=Yr.mp h;unfold qh at hy;rw[Y9,Xl]at hy;obtain⟨b,hb,rfl⟩:=hy;exact acB hb
theorem Kx{l:List (Str×L7)}(h:∀z∈l,lC z.2=true):nT (l.map bA)=true:=D6 λd hd=>by
 obtain⟨z,hz,rfl⟩:=Wb.mp hd;show(true && (lC z.2 && true))=true;rw[h z hz];rfl
theorem Uo{CR CL:L9}(ne:CL≠CR)(R:Rn)(r:Rp)(line:List Pp):Cr CR ((mC R r line).enc CL):=by
 refine .inr ⟨CL,_,_,ne,rfl,?_⟩;have h1:nT ((gT r R.n R.gn R.L).map bA)=true:=Kx λz hz=>Kw hz;have h2:nT ((lZ r R.n R.gn R.L).map bA)=true:=Kx λz hz=>Um hz;have h3:nT (mC R r line).bars=true:=D6 λd hd=>by
  have hd:d∈(gT r R.n R.gn R.L).map AO++(oN R.hs line).map AQ++(if tQ R r.c.kd=none then(pG r.c.kd R.L).map AR else []):=hd;rcases Wo.mp hd with hd|hd
  ·rcases Wo.mp hd with hd|hd
   ·obtain⟨z,hz,rfl⟩:=Wb.mp hd;show(true && (true && (lC z.2 && true)))=true;rw[Kw hz];rfl
   ·obtain⟨z,hz,rfl⟩:=Wb.mp hd;rfl
  ·split at hd
   ·obtain⟨z,hz,rfl⟩:=Wb.mp hd;rfl
   ·cases hd
 show(true && (true && (nT ((gT r R.n R.gn R.L).map bA) && (nT ((lZ r R.n R.gn R.L).map bA) && (nT (mC R r line).bars && (lC (qj (mC R r line).lv) && true))))))=true;rw[h1,h2,h3,Uj];rfl
theorem Ur(R:Rn)(st:pI×List Lk)(s:Sf):(mD R st s).1.1.length<=st.1.1.length+1/\(mD R st s).1.2.length<=st.1.2.length+1/\(mD R st s).2.length<=st.2.length+1:=by
 unfold mD;split
 ·refine⟨?_,?_,MC⟩
  ·show(if _ then _ else _:pI).1.length<=_;split
   ·exact Kp _ _ _
   ·exact Yj _
  ·show(if _ then _ else _:pI).2.length<=_;split
   ·unfold cj;cases (mC (R.at st.1) s.1 s.2).row.lv with
    |none=>exact Yj _
    |some v=>exact Kq _ _
   ·exact Yj _
 ·exact⟨Yj _,Yj _,Yj _⟩
theorem D7(R:Rn):∀(ss:List Sf)(st:pI×List Lk),(ss.foldl (mD R) st).1.1.length<=st.1.1.length+ss.length/\(ss.foldl (mD R) st).1.2.length<=st.1.2.length+ss.length/\(ss.foldl (mD R) st).2.length<=st.2.length+ss.length
 | [],st=>⟨V4 _,V4 _,V4 _⟩
 |s::ss,st=>by
  obtain⟨h1,h2,h3⟩:=D7 R ss (mD R st s);obtain⟨a1,a2,a3⟩:=Ur R st s;rw[W8,V5];exact⟨L8,L8,L8⟩
theorem Ky(R:Rn)(g:tP R):∀(ss:List Sf)(st:pI×List Lk),(∀k∈st.2,rP k)->∀k∈(ss.foldl (mD R) st).2,rP k
 | [],st,h=>h
 |s::ss,st,h=>by
  rw[W8];refine Ky R g ss _ λk hk=>?_;unfold mD at hk;split at hk
  ·rcases Wo.mp hk with z|z
   ·exact h k z
   ·rw[WH]at z;rw[z];exact Ki ⟨g.rl,g.hd,g.ll,g.lk⟩
  ·exact h k hk
theorem Us(go:List (Str×Int))(z:Str):(mX (nJ go) (.inr z)).isSome=pJ go z:=by
 unfold mX pJ;rw[Z1,<-Km,Y6,List.find?_isSome,Yq]
theorem Ut(R:Rn):oe (VY "look") (R.fd.map (·.1))=true:=by
 show oe (VY "look") [VY "day",VY "rules",VY "holds",VY "leaves"]=true;decide+kernel
theorem Kz:VY "lets_go"∉bY:=MN
theorem KA:VY "as_row"∉bY:=MN
def abM(xs:List De)(ss:List Sf)(n:Int)(rows:List Ro)(l CR CP CL ga ua:L9)(R:Rn)(st:pI×List Lk)(Y:Dl):Prop:=∃(o6 o7 o8:Option Sl),Y=[some (Sl.v (WG (X3 De.enc xs))),some (Sl.v (X2 (X3 (Sf.enc CP) ss))),some (Sl.v (Wa n)),some (Sl.b (X3 Ro.enc rows)),some (Sl.r l CR ga ua R.fd (nJ st.1.1) (nW st.1.2)),some (Sl.o (st.2.map (Lk.enc CL))),o6,o7,o8]
def Uv(CP CL:L9):List L7->List L7->(L7->Prop)->Prop:=λds es Q=>∃(xs:List De)(ss:List Sf)(n:Int)(rows:List Ro),ds=[.tuple (xs.map De.enc),.list (ss.map (Sf.enc CP)),.int n]/\es=rows.map Ro.enc/\bX xs/\rows.length<=100000/\ss.length<=41/\(∀s∈ss,Ku s)/\((∀k∈sG xs n rows ss,rP k)->Q (.list ((sG xs n rows ss).map (Lk.enc CL))))
theorem Uw(T:Txt Z mg t):aB P w Z mg base MX 9 t.a_q t.d_q ["deeds","shelf","day","done"] (xX Z (Uv t.q0a t.q0b)):=by
 have two:=Ug T;refine T.F_q.F.okB uG (λds es Q h=>?_) (λcdv A outer s H O ds es Q E hr h0 h=>?_)
 ·obtain⟨xs,ss,n,rows,rfl,_⟩:=h;rfl
 ·obtain⟨xs,ss,n,rows,rfl,rfl,g,rl,sl,so,q⟩:=h;have hX:∀b,H b=none->∀o z,H b≠some (.frz o z):=λb hb o z e=>by
   rw[hb]at e;cases e
  refine'⟨_,?A,?B⟩
  case A=>
   refine' ao ?C ?D
   case C=>exact(aau (C:=t.q0c) (i:=4) (j:=3) uG.nd rfl MH T.q1Q (Ue T) (hr.mono MA) rfl T.q1X T.F_l.b nq (dv 0) (dv 2) (pv 3))
   case' D=>refine' ao ?E ?F
   case E=>exact(pY (i:=5) uG.nd rfl MH (g8 ah))
   case' F=>refine' ao ?G ?H
   case G=>
    refine' uh XR rfl (dv 1) ?I (oY (cU aK (cU aK oX))) ?J
    case I=>exact(oH (n:=2) rfl (cE (aJ (i:=6) uG.nd rfl MH) (cE (aJ (i:=7) uG.nd rfl MH) oG)))
    case' J=>refine' az ?K
    case' K=>refine' bI ?L ?M bH
    case L=>exact(PW.pt (nF (aN rn n4 (bW (C:=t.q0a) T.q0g T.q0l (dv 6)) (dv 2) (aD _)) (nA (abX (C:=t.q0c) (i:=4) hr.units T.q0f T.q0n (pv 4) (bW (C:=t.q0a) T.q0g T.q0y (dv 6))))))
    case' M=>refine' ao ?N ?O
    case N=>exact(bg (i:=8) uG.nd rfl MH (PE.imp (Fw (pv 4) T.q0f T.q1Z (aaR T) (hr.mono MA) T.F_o.b .nil nq (aa (dv 6) (aa (dv 7) ah))) aav))
    case' O=>refine' ao ?P ?Q
    case P=>exact(rD (i:=5) (pv 5) (dv 8))
    case' Q=>refine' az ?R
    case' R=>refine' bI ?S ?T bH
    case S=>exact(nZ (PE.imp (wH (dv 8) T.q0e T.q1O (Ka T) (hr.mono MA) T.F_j.b .nil nq) xV))
    case' T=>refine' az ?U
    case U=>exact(HW (C:=t.q0c) (i:=4) hX (pv 4) T.q0f T.q1R (Kl T) (hr.mono MA) T.F_m.b nq (PE.imp (wH (dv 8) T.q0e T.q1P (Kb T) (hr.mono MA) T.F_k.b .nil nq) xV))
   case' H=>refine' az ?V
   case V=>exact(wU (pv 5))
  case B=>
  clear hr T h0 hX;simp only[sr,V2,WD,WN,WK,QF,V5,WB,Xc,Xd,Wj];walk_at "g";refine⟨xs,n,rows,rfl,rfl,g,rl,λgR l ga ua=>?_⟩;have q:Q (.list ((qT (dN xs n rows) ss).2.map (Lk.enc t.q0b))):=q (Ky _ gR ss _ (λk hk=>nomatch hk));obtain⟨m1,m2⟩:=D3 rows ([],[]);have m1:(dN xs n rows).go.length<=100000:=by
   have:(dN xs n rows).go.length<=0+rows.length:=m1;omega
  have m2:(dN xs n rows).us.length<=100000:=by
   have:(dN xs n rows).us.length<=0+rows.length:=m2;omega
  generalize hE:nN.mk _ _ _ _=EE;have eN:EE.nx=dP 5 {nx:=λx=>Q ZE,rt:=Q}:=by rw[<-hE]
  have hn:(dN xs n rows).n=n:=rfl;clear hE rl;generalize dN xs n rows=R at*;refine⟨λi=>abM xs ss n rows l t.q0c t.q0a t.q0b ga ua R (qT R (ss.take i)),⟨none,none,none,rfl⟩,?_,?_⟩
  ·rintro i z Y hz ⟨o6,o7,o8,rfl⟩;rw[Wm]at hz;cases hz':ss[i]? with
   |none=>rw[hz']at hz;cases hz
   |some s=>
    rw[hz']at hz;cases hz;have ts:qT R (ss.take (i+1))=mD R (qT R (ss.take i)) s:=by
     unfold qT;rw[XA,hz',X4];rfl
    obtain⟨b1,b2,b3⟩:=D7 R (ss.take i) ((R.go,R.us),[]);have b1:(qT R (ss.take i)).1.1.length<=R.go.length+(ss.take i).length:=b1;have b2:(qT R (ss.take i)).1.2.length<=R.us.length+(ss.take i).length:=b2;have b3:(qT R (ss.take i)).2.length<=0+(ss.take i).length:=b3;rw[Xr]at b1 b2 b3;obtain⟨so1,so2⟩:=so s (W0 hz');simp only[ts];generalize qT R (ss.take i)=st at b1 b2 b3;simp only[Sf.enc];walk_at "g";have no:(decide (s.1.c.d<=R.n) && !pJ st.1.1 s.1.c.nm)=false->mD R st s=st:=λh=>by
     unfold mD;rw[M4 (by rw[h];exact We)]
    refine⟨[VY "name",VY "coming",VY "kind",VY "makers",VY "happenings"],_,rfl,_,AE,_,rfl,?_⟩;by_cases hd:s.1.c.d<=n
    ·rw[M8 hd];refine⟨[VY "name",VY "coming",VY "kind",VY "makers",VY "happenings"],_,rfl,_,Kj,_,rfl,D5 R,?_⟩;rw[Us];by_cases hg:pJ st.1.1 s.1.c.nm=false
     ·rw[M8 hg];have eS:mD R st s=((if (mC (R.at st.1) s.1 s.2).lets=true then cj st.1 (mC (R.at st.1) s.1 s.2).row else st.1),st.2++[mC (R.at st.1) s.1 s.2]):=by
       unfold mD;rw[M8 (by rw[hn,decide_eq_true hd,hg];rfl)]
      have gR':tP (R.at st.1):=⟨gR.rl,gR.hd,gR.ll,gR.lk⟩;refine⟨Ut R,st.1.1.map (·.1),by unfold nJ;rw[Wk,Wk];rfl,st.1.2,by unfold nW;rw[Wk];rfl,?_⟩;refine⟨R.at st.1,s.1,s.2,by rw[<-T3];rfl,gR',so1,so2,Uo two _ _ _,by rw[V0];omega,bY,⟨_,rfl⟩,Kz,mC (R.at st.1) s.1 s.2,rfl,Ki gR',_,rfl,?_⟩;rw[eS];generalize mC (R.at st.1) s.1 s.2=k;by_cases hl:k.lets=true
      ·rw[M8 hl,M8 hl];refine⟨rfl,D5 R,bY,⟨_,rfl⟩,KA,k,rfl,k.nm,.int k.d,qj k.lv,rfl,by unfold nJ;rw[V0];omega,by unfold nW;rw[V0];omega,?_⟩;have e3:st.2.map (Lk.enc t.q0b)++[k.enc t.q0b]=(st.2++[k]).map (Lk.enc t.q0b):=by rw[Ww];rfl
       rw[Kn,e3];cases hv:k.lv with
       |none=>
        have e2:cj st.1 k.row=(qm st.1.1 k.nm k.d,st.1.2):=by
         unfold cj;rw[show k.row.lv=none from hv];rfl
        exact .inl ⟨rfl,_,_,_,by rw[e2]⟩
       |some v=>
        have e2:cj st.1 k.row=(qm st.1.1 k.nm k.d,tR st.1.2 v):=by
         unfold cj;rw[show k.row.lv=some v from hv];rfl
        exact .inr ⟨v,rfl,_,_,_,by rw[Ko,e2]⟩
      ·rw[M4 hl,M4 hl];exact⟨_,_,_,by rw[Ww];rfl⟩
     ·rw[M4 hg,no (by rw[QX]at hg;rw[hg,Vs];rfl)];exact⟨_,_,_,rfl⟩
    ·rw[M4 hd,no (by rw[hn,decide_eq_false hd];rfl)];exact⟨_,_,_,rfl⟩
  ·rintro Y ⟨o6,o7,o8,rfl⟩;rw[eN,V0,WU (V4 _)];walk_at "g";exact q
theorem KC:aU (aq Al) ["looks"] ["look"] 1 [] ⟨V7,[(V1 ".0",Mc),(V1 "look",Mc)],false,false,[]⟩:= .of
def bh(ks:List Lk):List Ro:=(ks.filter Lk.lets).map Lk.row
def aca(CL:L9):Fa:=λds Q=>∃ks:List Lk,ds=[.list (ks.map (Lk.enc CL))]/\(∀k∈ks,rP k)/\ks.length<=100000/\Q (.list ((bh ks).map Ro.enc))
theorem KD(T:Txt Z mg t):aB P w Z mg base MX 2 t.a_s t.d_s ["looks"] (aQ Z (aca t.q0b)):=by
 refine T.F_s.F.okD aa6 (λds Q h=>?_) (λ_ _ _ _ H O ds Q E hr h=>?_)
 ·obtain⟨ks,rfl,_⟩:=h;rfl
 ·obtain⟨ks,rfl,ok,le,q⟩:=h;refine'⟨_,?A,?B⟩
  case A=>
   refine' az ?C
   case' C=>refine' aM ?D
   case' D=>refine' fe ?E
   case E=>exact(mJ rfl KC (df (dv 0)) aK bS MA (λ_ _ _ _=>(aJ (i:=0) KC.nd rfl MH)) (λ_ _ _ _=>(eM (nZ (PE.imp (wH (dv 0) T.q0e T.q1O (Ka T) (hr.mono MA) T.F_j.b .nil nq) xV)))) (λ_ _ _ _=>(PE.imp (wH (dv 0) T.q0e T.q1P (Kb T) (hr.mono MA) T.F_k.b .nil nq) xV)))
  case B=>
  clear hr T;walk_at "g";refine⟨by rw[V0];omega,gS Lk.lets (λk=>k.row.enc) (λk hk R S h=>?_) ?_⟩
  ·walk_at "g";refine⟨bY,⟨_,rfl⟩,Kz,k,rfl,ok k hk,_,rfl,?_⟩;by_cases hl:k.lets=true
   ·rw[M8 hl]at h⊢;exact⟨bY,⟨_,rfl⟩,KA,k,rfl,h⟩
   ·rw[M4 hl]at h⊢;exact h
  ·have e:(ks.filter Lk.lets).map (λk=>k.row.enc)=(bh ks).map Ro.enc:=by unfold bh;rw[Wk];rfl
   rw[e];exact q
def tS(xs:List De)(ss:List Sf)(st:List Ro×List Lk)(n:Int):List Ro×List Lk:=(st.1++bh (sG xs n st.1 ss),st.2++sG xs n st.1 ss)
def oo(xs:List De)(ss:List Sf)(ns:List Int):List Ro×List Lk:=ns.foldl (tS xs ss) ([],[])
theorem Uy(g:nH xs):(bB xs).length<=41:=by
 unfold bB;rw[V0,qJ];exact g.gx.gp.ln
theorem aay(xs:List De)(n:Int)(rows:List Ro)(ss:List Sf):(sG xs n rows ss).length<=ss.length:=by
 have h:=(D7 (dN xs n rows) ss (((dN xs n rows).go,(dN xs n rows).us),[])).2.2;rw[WB,Xw]at h;exact h
theorem KH(ks:List Lk):(bh ks).length<=ks.length:=by
 unfold bh;rw[V0];exact Xi _ _
theorem acm{ns:List Int}(h:ns[i]?=some n):oo xs ss (ns.take (i+1))=tS xs ss (oo xs ss (ns.take i)) n:=by
 unfold oo;rw[XA,h,X4];rfl
def aaa(xs:List De)(ss:List Sf)(ns:List Int)(CP CL:L9)(i:Nat)(st:List Ro×List Lk)(Y:Dl):Prop:=∃(o6 o7:Option Sl),st.1.length<=41*i/\st.2.length<=41*i/\(∀k∈st.2,rP k)/\Y=[some (Sl.v (WG (X3 De.enc xs))),some (Sl.v (WG (X3 Wa ns))),some (Sl.v (X2 [])),some (Sl.v (X2 (ss.map (Sf.enc CP)))),some (Sl.o (st.1.map Ro.enc)),some (Sl.o (st.2.map (Lk.enc CL))),o6,o7]
def F_r(CL:L9):Fa:=λds Q=>∃(xs:List De)(ns:List Int),ds=[.tuple (xs.map De.enc),.tuple (ns.map .int),.list []]/\bX xs/\ns.length < 64/\((∀k∈(oo xs (bB xs) ns).2,rP k)->(oo xs (bB xs) ns).2.length<=100000->Q (.list ((oo xs (bB xs) ns).2.map (Lk.enc CL))))
theorem abo(T:Txt Z mg t):aB P w Z mg base MX 10 t.a_r t.d_r ["deeds","days","done"] (aQ Z (F_r t.q0b)):=by
 refine T.F_r.F.okD uH (λds Q h=>?_) (λ_ _ _ _ H O ds Q E hr h=>?_)
 ·obtain⟨xs,ns,rfl,_⟩:=h;rfl
 ·obtain⟨xs,ns,rfl,g,nl,q⟩:=h;refine'⟨_,?A,?B⟩
  case A=>
   refine' ao ?C ?D
   case C=>exact(bg (i:=3) uH.nd rfl MH (au (aaw T) hr T.F_p (aa (dv 0) ah)))
   case' D=>refine' ao ?E ?F
   case E=>exact(pY (i:=4) uH.nd rfl MH (OE rfl T.q03 adP (bz (dv 2) bw)))
   case' F=>refine' ao ?G ?H
   case G=>exact(pY (i:=5) uH.nd rfl MH (g8 ah))
   case' H=>refine' ao ?I ?J
   case I=>
    refine' vz XR rfl (dv 1) ?K aK ?L
    case K=>exact(aJ (i:=6) uH.nd rfl MH)
    case' L=>refine' ao ?M ?N
    case M=>exact(bg (i:=7) uH.nd rfl MH (Rj (j:=4) (Uw T) (hr.mono MA) rfl T.F_q.m T.F_q.kp T.F_q.b nq (dv 0) (dv 3) (dv 6) (pv 4)))
    case' N=>refine' ao ?O ?P
    case O=>exact(Cf (i:=4) (pv 4) (au (KD T) hr T.F_s (aa (dv 7) ah)))
    case' P=>refine' az ?Q
    case Q=>exact(Cf (i:=5) (pv 5) (dv 7))
   case' J=>refine' az ?R
   case R=>exact(wU (pv 5))
  case B=>
  clear hr T;walk_at "g";refine⟨xs,rfl,g.gd,λso=>?_⟩;have sl:=Uy g.gd;generalize bB xs=ss at*;generalize hE:nN.mk _ _ _ _=EE;have eN:EE.nx=dP 5 {nx:=λx=>Q ZE,rt:=Q}:=by rw[<-hE]
  clear hE;refine⟨λi=>aaa xs ss ns t.q0a t.q0b i (oo xs ss (ns.take i)),⟨none,none,Xe _,Xe _,(λk hk=>nomatch hk),rfl⟩,?_,?_⟩
  ·rintro i z Y hz ⟨o6,o7,l1,l2,ok,rfl⟩;rw[Wm]at hz;cases hz':ns[i]? with
   |none=>rw[hz']at hz;cases hz
   |some n=>
    rw[hz']at hz;cases hz;have hi:=(Wf.mp hz').1;simp only[acm hz'];generalize oo xs ss (ns.take i)=st at*;walk_at "g";have k1:=aay xs n st.1 ss;have k2:=KH (sG xs n st.1 ss);refine⟨xs,ss,n,st.1,rfl,rfl,g,L8,sl,so,λkok=>⟨sG xs n st.1 ss,rfl,kok,L8,_,rfl,by rw[V0,V0];omega,_,rfl,by rw[V0,V0];omega,?_⟩⟩;have a1:(tS xs ss st n).1.length<=41*(i+1):=by
     show(st.1++_).length<=_;rw[Wt];omega
    have a2:(tS xs ss st n).2.length<=41*(i+1):=by
     show(st.2++_).length<=_;rw[Wt];omega
    refine⟨_,_,a1,a2,λk hk=>?_,by rw[<-Ww,<-Ww];rfl⟩;rcases Wo.mp hk with z|z
    ·exact ok k z
    ·exact kok k z
  ·rintro Y ⟨o6,o7,l1,l2,ok,rfl⟩;rw[V0,WU (V4 _)]at l2 ok;rw[eN,V0,WU (V4 _)];walk_at "g";exact q ok L8
def UD(CL:L9):Fa:=λds Q=>∃xs:List De,ds=[.tuple (xs.map De.enc)]/\bX xs/\qP xs/\((∀k∈(oo xs (bB xs) (bO xs)).2,rP k)->(oo xs (bB xs) (bO xs)).2.length<=100000->Q (.list ((oo xs (bB xs) (bO xs)).2.map (Lk.enc CL))))
theorem KI(T:Txt Z mg t):aB P w Z mg base MX 11 t.a_t t.d_t ["deeds"] (aQ Z (UD t.q0b)):=by
 refine T.F_t.F.okD aaG (λds Q h=>?_) (λ_ _ _ _ H O ds Q E hr h=>?_)
 ·obtain⟨xs,rfl,_⟩:=h;rfl
 ·obtain⟨xs,rfl,g,few,q⟩:=h;refine'⟨_,?A,?B⟩
  case A=>
   refine' az ?C
   case' C=>refine' aM ?D
   case D=>exact(au (abo T) hr T.F_r (aa (dv 0) (aa (au (AJ T) hr T.F_h (aa (dv 0) ah)) (aa (fe (g8 ah)) ah))))
  case B=>
  clear hr T;walk_at "g";exact⟨xs,rfl,g.gd,λ_=>few,λ_ tl=>⟨xs,bO xs,rfl,g,tl,q⟩⟩
theorem KJ:aU (aq An) ["deeds","rows","row"] ["name","rows"] 1 [1] ⟨V7,[ (V1 ".0",Mc),(V1 "name",Mc),(V1 "rows",Wi)],false,false,[]⟩:= .of
def oq{α:Type}(m:List (Str×α))(k:Str)(v:α):List (Str×α):=if (m.any λp=>decide (p.1=k))=true then m.map (λp=>if p.1=k then(p.1,v) else p) else m++[(k,v)]
def eJ{α:Type}(f:α->L7)(m:List (Str×α)):List (aj×L7):=m.map λp=>(X6 p.1,f p.2)
def mQ{α:Type}(m:List (Str×α))(z:Str):Option α:=(m.find? λp=>decide (p.1=z)).map (·.2)
theorem KL{α:Type}(f:α->L7)(m:List (Str×α))(k:Str)(v:α):mh (eJ f m) (.inr k) (f v)=eJ f (oq m k v):=by
 have e:((eJ f m).any λp=>decide (p.1=X6 k))=m.any λp=>decide (p.1=k):=by
  unfold eJ;rw[ZR];congr 1;funext p;simp only[YE,decide_eq_decide];exact qE
 unfold mh oq;rw[e];split
 ·unfold eJ;rw[Wk,Wk];apply Y0;intro p _;simp only[YE];by_cases h:p.1=k
  ·rw[M8 (by rw[h]),M8 h]
  ·rw[M4 (λe=>h (qE.mp e)),M4 h]
 ·unfold eJ;rw[Ww];rfl
theorem ab6{α:Type}(m:List (Str×α))(k:Str)(v:α):(oq m k v).length<=m.length+1:=by
 unfold oq;split<;>simp
theorem abh{α:Type}(m:List (Str×α))(k:Str)(v:α)(z:Str):mQ (oq m k v) z=if k=z then some v else mQ m z:=by
 unfold oq mQ;by_cases h:(m.any λp=>decide (p.1=k))=true
 ·rw[M8 h]
  induction m with
  |nil=>cases h
  |cons p m ih=>
   rw[V2,XN,XN];by_cases hp:p.1=k
   ·rw[M8 hp];by_cases hz:k=z
    ·rw[M8 hz,hp,hz];simp
    ·rw[M4 hz];have e1:decide (p.1=z)=false:=decide_eq_false (λe=>hz (by rw[<-hp,e]));simp only[e1];have key:∀l:List (Str×α),(l.map λp=>if p.1=k then(p.1,v) else p).find? (λp=>decide (p.1=z))=l.find? λp=>decide (p.1=z):=λl=>by
      induction l with
      |nil=>rfl
      |cons a l ih=>
       rw[V2,XN,XN,ih];by_cases ha:a.1=k
       ·rw[M8 ha];have e2:decide (a.1=z)=false:=decide_eq_false (λe=>hz (by rw[<-ha,e]));simp only[e2]
       ·rw[M4 ha]
     rw[key]
   ·rw[M4 hp];rw[WY,decide_eq_false hp,Xk]at h;have ih:=ih h;by_cases hz:p.1=z
    ·rw[decide_eq_true hz,M4 (λe=>hp (by rw[hz,e]))]
    ·simp only[decide_eq_false hz];exact ih
 ·rw[M4 h,Rc];have no:∀p∈m,p.1≠k:=λp hp e=>h (Yq.mpr ⟨p,hp,by rw[e];simp⟩);by_cases hz:k=z
  ·rw[M8 hz,ZS.mpr (λp hp=>by rw[<-hz];simpa using no p hp),hz];simp
  ·rw[M4 hz,XN,decide_eq_false hz];simp
theorem D8{α:Type}(f:α->L7):∀(m:List (Str×α))(z:Str),aW (m.map (·.1)) (m.map λp=>f p.2) z=(mQ m z).map f
 | [],_=>rfl
 |p::m,z=>by
  have ih:=D8 f m z;unfold mQ at ih⊢;rw[V2,V2,aW,XN];by_cases h:p.1=z
  ·rw[M8 h,decide_eq_true h];rfl
  ·rw[M4 h,decide_eq_false h];exact ih
theorem D9{α:Type}(f:α->L7)(m:List (Str×α)):(eJ f m).map (·.1)=(m.map (·.1)).map X6:=by
 unfold eJ;rw[Wk,Wk];rfl
theorem KN{α:Type}(f:α->L7)(m:List (Str×α)):(eJ f m).map (·.2)=m.map λp=>f p.2:=by
 unfold eJ;rw[Wk];rfl
def sH(rs:List Ro):List (Str×Ro):=rs.foldl (λm r=>oq m r.nm r) []
theorem KO{α β:Type}(kf:β->Str)(vf:β->α):∀(rs:List β)(m:List (Str×α)),(rs.foldl (λm r=>oq m (kf r) (vf r)) m).length<=m.length+rs.length
 | [],m=>V4 _
 |r::rs,m=>by
  have h:=KO kf vf rs (oq m (kf r) (vf r));have h2:=ab6 m (kf r) (vf r);rw[W8,V5];omega
theorem Ea{α β:Type}(kf:β->Str)(vf:β->α)(z:Str):∀(rs:List β)(m:List (Str×α)),mQ (rs.foldl (λm r=>oq m (kf r) (vf r)) m) z=rs.foldl (λo r=>if kf r=z then some (vf r) else o) (mQ m z)
 | [],m=>rfl
 |r::rs,m=>by
  rw[W8,W8,Ea kf vf z rs,abh]
def ot(xs:List De):List Ro:=bh (oo xs (bB xs) (bO xs)).2
structure Pl where
 nm:Str
 d:Option Int
 lv:Option Str
def Pl.enc(p:Pl):L7:= .tuple [.str p.nm,di p.d,qj p.lv]
def Ro.pl(r:Ro):Pl:=⟨r.nm,some r.d,r.lv⟩
def oO(rs:List Ro)(z:Str):Option Ro:=rs.foldl (λo r=>if r.nm=z then some r else o) none
def uX(xs:List De):List Pl:=(bV (aI xs)).map λc=>((oO (ot xs) c.nm).map Ro.pl).getD ⟨c.nm,none,none⟩
def F_x:Fa:=λds Q=>∃xs:List De,ds=[.tuple (xs.map De.enc)]/\bX xs/\qP xs/\Q (.tuple ((uX xs).map Pl.enc))
theorem acn(T:Txt Z mg t):aB P w Z mg base MX 12 t.a_x t.d_x ["deeds"] (aQ Z F_x):=by
 refine T.F_x.F.okD Du (λds Q h=>?_) (λ_ _ _ _ H O ds Q E hr h=>?_)
 ·obtain⟨xs,rfl,_⟩:=h;rfl
 ·obtain⟨xs,rfl,g,few,q⟩:=h;refine'⟨_,?A,?B⟩
  case A=>
   refine' ao ?C ?D
   case C=>exact(GZ (i:=1) Du.nd rfl MH GY)
   case' D=>refine' ao ?E ?F
   case E=>
    refine' uh XR rfl (au (KD T) hr T.F_s (aa (au (KI T) hr T.F_t (aa (dv 0) ah)) ah)) ?G aK ?H
    case G=>exact(aJ (i:=2) Du.nd rfl MH)
    case' H=>refine' az ?I
    case I=>exact(G0 (i:=1) hr.units (pv 1) (aC aE aH (dv 2) ag) (dv 2))
   case' F=>refine' az ?J
   case' J=>refine' aaB 1 ?K
   case' K=>refine' aM ?L
   case L=>exact(PE.imp (lY nX rfl T.q0h ny (bz (fe (oZ rfl KJ (df (au (DJ T) hr T.F_M (aa (dv 0) ah))) aK bS MA (λ_ _ _ _=>(aJ (i:=0) KJ.nd rfl MH)) (λ_ _ _ _=>mK) (λ_ _ _ _=>(QT hr.units (dv 1) (dv 0) (bq (aa (dv 0) (aa mI (aa mI ah)))) ⟨rfl,rfl,rfl,rfl⟩)))) bw)) (cf n5))
  case B=>
  clear hr T;walk_at "g";refine⟨xs,rfl,g,few,λkok kl=>⟨_,rfl,kok,kl,_,rfl,?_⟩⟩;have rl:(ot xs).length<=100000:=Wy (KH _) kl;have q:Q (.tuple ((bV (aI xs)).map λc=>(((oO (ot xs) c.nm).map Ro.pl).getD ⟨c.nm,none,none⟩).enc)):=by
   have q:Q (.tuple ((uX xs).map Pl.enc)):=q;unfold uX at q;rw[Wk]at q;exact q
  have eR:bh (oo xs (bB xs) (bO xs)).2=ot xs:=rfl;rw[eR];clear kok kl few eR;generalize ot xs=rs at*;refine⟨λi Y=>∃o2,Y=[some (Sl.v (WG (X3 De.enc xs))),some (Sl.k (eJ Ro.enc (sH (rs.take i)))),o2],⟨none,rfl⟩,?_,?_⟩
  ·rintro i z Y hz ⟨o2,rfl⟩;rw[Wm]at hz;cases hz':rs[i]? with
   |none=>rw[hz']at hz;cases hz
   |some r=>
    rw[hz']at hz;cases hz;have ts:sH (rs.take (i+1))=oq (sH (rs.take i)) r.nm r:=by
     unfold sH;rw[XA,hz',X4];rfl
    have ml:(sH (rs.take i)).length<=0+(rs.take i).length:=KO (λr:Ro=>r.nm) (λr=>r) (rs.take i) [];rw[Xr]at ml;simp only[ts];generalize sH (rs.take i)=M at*;simp only[Ro.enc];walk_at "g";exact⟨by unfold eJ;rw[V0];omega,KL Ro.enc M r.nm r,_,rfl⟩
  ·rintro Y ⟨o2,rfl⟩;rw[V0,WU (V4 _)];have ma:∀z,mQ (sH rs) z=oO rs z:=λz=>Ea (λr:Ro=>r.nm) (λr=>r) z rs [];generalize sH rs=M at*;walk_at "g";have pl:=g.gd.gx.gp.ln;refine⟨M.map (·.1),D9 _ _,xs,rfl,g.gd.gx,_,rfl,by rw[V0,V0,qJ];omega,?_⟩;rw[KN];refine qL (λ_=>true) (λz=>(((oO rs z).map Ro.pl).getD ⟨z,none,none⟩).enc) (λz hz R S h1 _=>?_) ?_
   ·walk_at "g";have h:=h1 rfl;refine⟨_,_,rfl,?_⟩;rw[D8 Ro.enc,ma]
    revert h
    cases oO rs z with
    |none=>exact id
    |some r=>exact id
   ·rw[pB,Wk];exact q
section
theorem acx(ws:List Str)(n:Int)(xs:List Rw):∃L,my ws n xs L:=by
 have key:∀l:List Rw,∃L,my ws n l.reverse L:=by
  intro l
  induction l with
  |nil=>exact⟨[],my.nil _ _⟩
  |cons x l ih=>
   obtain⟨L,h⟩:=ih;rw[List.reverse_cons];by_cases ho:nR ws n x
   ·cases hl:mx L x.nm with
    |none=>exact⟨_,h.put ho λy e=>by rw[hl]at e;cases e⟩
    |some y=>
     by_cases hn:y.n < x.n
     ·exact⟨_,h.put ho λy' e=>by rw[hl]at e;cases e;exact hn⟩
     ·exact⟨L,h.keep hl hn⟩
   ·exact⟨L,h.skip ho⟩
 have:=key xs.reverse
 rwa [List.reverse_reverse]at this
theorem KP(g:nH xs)(n:Int):rO xs n (dM xs n):=by
 obtain⟨L,hL⟩:=acx pC n (xs.map De.rw);obtain⟨M,hM,_⟩:=Jv g hL.res;rw[<-Jt hM];exact hM
theorem UJ(l:List Int):∃ns:List Int,(∀z,z∈ns↔z∈l)/\ns.Pairwise (· < ·):=by
 induction l with
 |nil=>exact⟨[],λz=>Iff.rfl,.nil⟩
 |cons x l ih=>
  obtain⟨ns,h1,h2⟩:=ih;refine⟨ns.filter (λz=>decide (z < x))++x::ns.filter (λz=>decide (x < z)),λz=>?_,YG.mpr ⟨h2.filter _,XO.mpr ⟨λy hy=>?_,h2.filter _⟩,λy hy w hw=>?_⟩⟩
  ·rw[Wo,Wc,Wr,Wr,Wc,<-h1];simp only[decide_eq_true_eq];constructor
   ·rintro(⟨h,_⟩|h|⟨h,_⟩)
    ·exact .inr h
    ·exact .inl h
    ·exact .inr h
   ·rintro(h|h)
    ·exact .inr (.inl h)
    ·rcases R5 z x with y|y|y
     ·exact .inl ⟨h,y⟩
     ·exact .inr (.inl y)
     ·exact .inr (.inr ⟨h,y⟩)
  ·exact of_decide_eq_true (Wr.mp hy).2
  ·have y1:y < x:=of_decide_eq_true (Wr.mp hy).2;rcases Wc.mp hw with e|hw
   ·rw[e];exact y1
   ·exact Int.lt_trans y1 (of_decide_eq_true (Wr.mp hw).2)
theorem KQ(xs:List De):tM xs (bO xs):=by
 obtain⟨ns,h1,h2⟩:=UJ (qi xs);have h:tM xs ns:=⟨h1,h2⟩;rw[<-JT h];exact h
theorem abk(go:List (Str×Int))(k:Str)(d:Int)(z:Str):pJ (qm go k d) z=(pJ go z || decide (k=z)):=by
 unfold pJ qm;split
 ·rename_i h;rw[ZR];have e:((λp:Str×Int=>decide (p.1=z))∘ λp=>if p.1=k then(p.1,d) else p)=λp=>decide (p.1=z):=by
   funext p;simp only[YE];split<;>rfl
  rw[e];by_cases hz:k=z
  ·subst hz;rw[h];rfl
  ·rw[decide_eq_false hz,Xj]
 ·rw[List.any_append];simp
def pK(rs:List Ro)(z:Str):Bool:=rs.any λr=>decide (r.nm=z)
theorem KR:∀(rs:List Ro)(m:pI)(z:Str),pJ (rs.foldl cj m).1 z=(pJ m.1 z || pK rs z)
 | [],m,z=>by rw[List.foldl_nil];simp[pK]
 |r::rs,m,z=>by
  rw[W8,KR rs];show(pJ (qm m.1 r.nm r.d) z || pK rs z)=_;rw[abk,Bool.or_assoc];rfl
def lU(xs:List De)(Z:List Lk)(z:Int×Sf):List Lk:=
 if (decide (z.2.1.c.d<=z.1) && !pK (bh Z) z.2.1.c.nm)=true then Z++[mC (dN xs z.1 (bh Z)) z.2.1 z.2.2] else Z
theorem AS(a b:List Lk):bh (a++b)=bh a++bh b:=by
 unfold bh;rw[ZX,Ww]
theorem KS(k:Lk):bh [k]=if k.lets=true then [k.row] else []:=by
 unfold bh;rw[W6];split<;>rfl
theorem KU(xs:List De)(n:Int)(Z:List Lk):∀(ss:List Sf)(ks:List Lk),∃ks',ss.foldl (mD (dN xs n (bh Z))) ((bh (Z++ks)).foldl cj ([],[]),ks)=((bh (Z++ks')).foldl cj ([],[]),ks')/\(ss.map λs=>(n,s)).foldl (lU xs) (Z++ks)=Z++ks'
 | [],ks=>⟨ks,rfl,rfl⟩
 |s::ss,ks=>by
  rw[W8,V2,W8];have key:∃k1,mD (dN xs n (bh Z)) ((bh (Z++ks)).foldl cj ([],[]),ks) s=((bh (Z++k1)).foldl cj ([],[]),k1)/\lU xs (Z++ks) (n,s)=Z++k1:=by
   have e1:pJ ((bh (Z++ks)).foldl cj ([],[])).1 s.1.c.nm=pK (bh (Z++ks)) s.1.c.nm:=by rw[KR];rfl
   have e2:(dN xs n (bh Z)).at ((bh (Z++ks)).foldl cj ([],[]))=dN xs n (bh (Z++ks)):=rfl;unfold mD lU;dsimp only;rw[e1,e2,show(dN xs n (bh Z)).n=n from rfl];by_cases hc:(decide (s.1.c.d<=n) && !pK (bh (Z++ks)) s.1.c.nm)=true
   ·rw[M8 hc,M8 hc];refine⟨ks++[mC (dN xs n (bh (Z++ks))) s.1 s.2],?_,by rw[XX]⟩;rw[<-XX,AS (Z++ks),X4,KS];split<;>rfl
   ·rw[M4 hc,M4 hc];exact⟨ks,rfl,rfl⟩
  obtain⟨k1,h1,h2⟩:=key;rw[h1,h2];exact KU xs n Z ss k1
def lV(ns:List Int)(ss:List Sf):List (Int×Sf):=ns.flatMap λn=>ss.map λs=>(n,s)
theorem KW(xs:List De)(ss:List Sf):∀(ns:List Int)(Z:List Lk),ns.foldl (tS xs ss) (bh Z,Z)=(bh ((lV ns ss).foldl (lU xs) Z),(lV ns ss).foldl (lU xs) Z)
 | [],Z=>rfl
 |n::ns,Z=>by
  obtain⟨ks,h1,h2⟩:=KU xs n Z ss [];rw[Wn]at h1 h2;have e:sG xs n (bh Z) ss=ks:=congrArg RK h1;have e2:tS xs ss (bh Z,Z) n=(bh (Z++ks),Z++ks):=by
   unfold tS;dsimp only;rw[e,AS]
  rw[W8,e2,KW xs ss ns];unfold lV;rw[YI,X4,h2]
def qU(xs:List De):List Lk:=(lV (bO xs) (bB xs)).foldl (lU xs) []
theorem KY(xs:List De):oo xs (bB xs) (bO xs)=(bh (qU xs),qU xs):=KW xs _ _ []
theorem Eb(xs:List De):ot xs=bh (qU xs):=by unfold ot;rw[KY]
def ni(s:Sf):Str:=s.1.c.nm
theorem AU(xs:List De):∀(Z0:List (Int×Sf))(Z:List Lk),∃Z',Z0.foldl (lU xs) Z=Z++Z'/\∀k∈Z',∃z∈Z0,k.d=z.1/\k.nm=ni z.2
 | [],Z=>⟨[],MC,MC⟩
 |z::Z0,Z=>by
  rw[W8];obtain⟨Z',h1,h2⟩:=AU xs Z0 (lU xs Z z);rw[h1];have tl:∀k∈Z',∃y∈z::Z0,k.d=y.1/\k.nm=ni y.2:=λk hk=>let ⟨y,hy,e⟩:=h2 k hk;⟨y,Wu _ hy,e⟩
  unfold lU;split
  ·refine⟨_::Z',by rw[XX];rfl,λk hk=>?_⟩;rcases Wc.mp hk with e|hk
   ·subst e;exact⟨z,WR,rfl,rfl⟩
   ·exact tl k hk
  ·exact⟨Z',rfl,tl⟩
theorem AV:pK rs z=true↔∃r∈rs,r.nm=z:=by
 unfold pK;rw[Yq];simp only[decide_eq_true_eq]
theorem Ec(xs:List De):∀(Z0:List (Int×Sf))(Z:List Lk),((bh Z).map Ro.nm).Nodup->((bh (Z0.foldl (lU xs) Z)).map Ro.nm).Nodup
 | [],Z,h=>h
 |z::Z0,Z,h=>by
  rw[W8];refine Ec xs Z0 _ ?_;unfold lU;split
  ·rename_i hc;rw[Xs,WJ]at hc;rw[AS,KS];split
   ·rw[Ww,V2,WD,Yl];refine⟨h,MC,λa ha b hb e=>?_⟩;rw[WH]at hb;obtain⟨r,hr,rfl⟩:=Wb.mp ha;have:pK (bh Z) z.2.1.c.nm=true:=AV.mpr ⟨r,hr,e.trans hb⟩;rw[hc.2]at this;cases this
   ·rw[Wn];exact h
  ·exact h
theorem Ed(xs:List De):((ot xs).map Ro.nm).Nodup:=by
 rw[Eb];exact Ec xs _ [] QY
theorem Ee:∀(rs:List Ro)(o:Option Ro),(∀r∈rs,r.nm≠z)->rs.foldl (λo r=>if r.nm=z then some r else o) o=o
 | [],_,_=>rfl
 |r::rs,o,h=>by
  rw[W8,M4 (h r WR)];exact Ee rs o λx hx=>h x (Wu _ hx)
theorem vX{rs:List Ro}(nd:(rs.map Ro.nm).Nodup):oO rs z=some r↔r∈rs/\r.nm=z:=by
 have at1:∀y∈rs,y.nm=z->oO rs z=some y:=λy hy e=>by
  obtain⟨a,b,rfl⟩:=Zo hy;unfold oO;rw[X4,W8,M8 e];refine Ee b _ λx hx e2=>?_;rw[Ww,V2]at nd;have:=(XW.mp (Yl.mp nd).2.1).1;exact this (by rw[e,<-e2];exact Yv hx)
 constructor
 ·intro h;by_cases hy:∃y∈rs,y.nm=z
  ·obtain⟨y,hy,e⟩:=hy;rw[at1 y hy e]at h;cases h;exact⟨hy,e⟩
  ·have:=Ee rs none λx hx e=>hy ⟨x,hx,e⟩;have h:rs.foldl (λo r=>if r.nm=z then some r else o) none=some r:=h;rw[this]at h;cases h
 ·exact λh=>at1 r h.1 h.2
def oP(xs:List De)(z:Str):Option Int:=(oO (ot xs) z).map (·.d)
theorem uY:oP xs z=some d↔∃r∈ot xs,r.nm=z/\r.d=d:=by
 unfold oP;rw[Xl];constructor
 ·rintro⟨r,h,e⟩;obtain⟨h1,h2⟩:=(vX (Ed xs)).mp h;exact⟨r,h1,h2,e⟩
 ·rintro⟨r,h1,h2,e⟩;exact⟨r,(vX (Ed xs)).mpr ⟨h1,h2⟩,e⟩
theorem Ef:r∈bh Z↔∃k∈Z,k.lets=true/\k.row=r:=by
 unfold bh;rw[Wb];constructor
 ·rintro⟨k,hk,e⟩;obtain⟨h1,h2⟩:=Wr.mp hk;exact⟨k,h1,h2,e⟩
 ·rintro⟨k,h1,h2,e⟩;exact⟨k,Wr.mpr ⟨h1,h2⟩,e⟩
theorem KZ(g:bX xs):((bB xs).map ni).Nodup:=by
 unfold bB;rw[Wk];exact((pz (aI xs)).map (·.nm)).nodup_iff.mpr g.gd.gx.gp.nd
def l4(xs:List De)(T1:List Int)(n:Int)(ss1:List Sf):List Lk:=(lV T1 (bB xs)++ss1.map λs=>(n,s)).foldl (lU xs) []
theorem UL(hT:bO xs=T1++n::T2)(hS:bB xs=ss1++ss2):lV (bO xs) (bB xs)=(lV T1 (bB xs)++ss1.map λs=>(n,s))++((ss2.map λs=>(n,s))++lV T2 (bB xs)):=by
 unfold lV;have e:((bB xs).map λs=>(n,s))=(ss1.map λs=>(n,s))++ss2.map λs=>(n,s):=by rw[hS,Ww]
 rw[hT,Yw,YI,e,XX,XX]
theorem Eg(hT:bO xs=T1++n::T2):(∀m∈T1,m < n)/\∀m∈T2,n < m:=by
 have h:=(KQ xs).2;rw[hT]at h;obtain⟨_,h2,h3⟩:=YG.mp h;exact⟨λm hm=>h3 m hm n WR,(XO.mp h2).1⟩
theorem K0(g:bX xs)(hT:bO xs=T1++n::T2)(hS:bB xs=ss1++ss2)(r:Ro):r∈bh (l4 xs T1 n ss1)↔r∈ot xs/\(r.d < n\/(r.d=n/\r.nm∈ss1.map ni)):=by
 obtain⟨t1,t2⟩:=Eg hT;have nd:=KZ g;rw[hS,Ww]at nd;have nd:=(Yl.mp nd).2.2;obtain⟨K1,a1,a2⟩:=AU xs (lV T1 (bB xs)++ss1.map λs=>(n,s)) [];rw[WK]at a1;obtain⟨K2,b1,b2⟩:=AU xs ((ss2.map λs=>(n,s))++lV T2 (bB xs)) (l4 xs T1 n ss1);have eA:qU xs=l4 xs T1 n ss1++K2:=by
  rw[<-b1];unfold qU l4;rw[UL hT hS,X4]
 have eR:ot xs=bh (l4 xs T1 n ss1)++bh K2:=by rw[Eb,eA,AS]
 have w1:∀r∈bh (l4 xs T1 n ss1),r.d < n\/(r.d=n/\r.nm∈ss1.map ni):=λr hr=>by
  unfold l4 at hr;rw[a1]at hr;obtain⟨k,hk,_,rfl⟩:=Ef.mp hr;obtain⟨z,hz,e1,e2⟩:=a2 k hk;rcases Wo.mp hz with hz|hz
  ·obtain⟨m,hm,hz⟩:=Yr.mp hz;obtain⟨s,_,rfl⟩:=Wb.mp hz;exact .inl (by show k.d < n;rw[e1];exact t1 m hm)
  ·obtain⟨s,hs,rfl⟩:=Wb.mp hz;exact .inr ⟨e1,by show k.nm∈_;rw[e2];exact Yv hs⟩
 constructor
 ·exact λh=>⟨by rw[eR];exact Za _ h,w1 r h⟩
 ·rintro⟨h,hd⟩;rw[eR]at h;rcases Wo.mp h with h|h
  ·exact h
  ·exfalso;obtain⟨k,hk,_,rfl⟩:=Ef.mp h;obtain⟨z,hz,e1,e2⟩:=b2 k hk;have hd:k.d < n\/(k.d=n/\k.nm∈ss1.map ni):=hd;rcases Wo.mp hz with hz|hz
   ·obtain⟨s,hs,rfl⟩:=Wb.mp hz;have e1:k.d=n:=e1;rcases hd with hd|hd
    ·omega
    ·exact nd _ hd.2 _ (Yv hs) e2
   ·obtain⟨m,hm,hz⟩:=Yr.mp hz;obtain⟨s,_,rfl⟩:=Wb.mp hz;have:=t2 m hm;have e1:k.d=m:=e1;omega
theorem aby(xs:List De)(T1:List Int)(n:Int)(ss1:List Sf):((bh (l4 xs T1 n ss1)).map Ro.nm).Nodup:=Ec xs _ [] QY
def qo(xs:List De)(G:Gn):Prop:=∀z,G.at z=oP xs z
def Eh(xs:List De)(n:Int)(s:Sf):Bool:=decide (s.1.c.d<=n) && (match oP xs (ni s) with
 |some d=>decide (n<=d)
 |none=>true)
theorem Ei:∀(m:List (Str×Int))(z:Str),sE (m.map (·.1)) (m.map (·.2)) z=mQ m z
 | [],_=>rfl
 |p::m,z=>by
  have ih:=Ei m z;unfold mQ at ih⊢;rw[V2,V2,XN];show(if p.1=z then some p.2 else sE _ _ z)=_;by_cases h:p.1=z
  ·rw[M8 h,decide_eq_true h];rfl
  ·rw[M4 h,decide_eq_false h];exact ih
theorem K3:∀(rs:List Ro)(m:pI),(rs.foldl cj m).1=rs.foldl (λg r=>oq g r.nm r.d) m.1
 | [],_=>rfl
 |r::rs,m=>by rw[W8,W8,K3 rs];rfl
theorem K4{z:Str}:∀(rs:List Ro)(o:Option Ro),rs.foldl (λo r=>if r.nm=z then some r.d else o) (o.map (·.d))=(rs.foldl (λo r=>if r.nm=z then some r else o) o).map (·.d)
 | [],_=>rfl
 |r::rs,o=>by
  rw[W8,W8,<-K4 rs];congr 1;split<;>rfl
theorem abU(xs:List De)(n:Int)(rs:List Ro)(z:Str):(dN xs n rs).gn.at z=(oO rs z).map (·.d):=by
 show sE (X3 _ (rs.foldl cj ([],[])).1) (X3 _ (rs.foldl cj ([],[])).1) z=_;rw[Ei,K3,Ea (λr:Ro=>r.nm) (λr=>r.d) z rs []];exact K4 rs none
theorem aaz{xs:List De}{ss1 ss2:List Sf}{s:Sf}(hS:bB xs=ss1++s::ss2):∃os1 c os2,bV (aI xs)=os1++c::os2/\s=(dh xs c,qQ (aI xs) c)/\ss1.map ni=os1.map (·.nm):=by
 unfold bB at hS;obtain⟨os1,os',e,e1,e2⟩:=List.map_eq_append_iff.mp hS;obtain⟨c,os2,e3,e4,e5⟩:=List.map_eq_cons_iff.mp e2;exact⟨os1,c,os2,by rw[e,e3],e4.symm,by rw[<-e1,Wk];rfl⟩
theorem acO(g:bX xs)(hS:bB xs=ss1++s::ss2)(hm:m∈s.1.ts):m∈ss1.map ni:=by
 obtain⟨os1,c,os2,eo,rfl,e1⟩:=aaz hS;rw[e1];obtain⟨p,hp,rfl⟩:=Wb.mp hm;obtain⟨h1,h2⟩:=Wr.mp hp;unfold AB at h2;rw[Xs]at h2;have h2:p.lt c:=h2.2;have pw:=uL g.gd.gx.gp.nd;rw[eo]at h1 pw;rcases Wo.mp h1 with h|h
 ·exact Yv h
 ·exfalso;rcases Wc.mp h with e|h
  ·rw[e]at h2;exact c.lt_irr h2
  ·exact Pp.asym _ _ h2 ((XO.mp (YG.mp pw).2.1).1 p h)
theorem UQ(g:bX xs)(hG:qo xs G)(hT:bO xs=T1++n::T2)(hS:bB xs=ss1++s::ss2)(hm:m∈s.1.ts):(dN xs n (bh (l4 xs T1 n ss1))).gn.has n m=G.has n m:=by
 have ma:=acO g hS hm;have hr:=K0 g hT hS;have nd:=aby xs T1 n ss1;unfold Gn.has;rw[abU,hG m];by_cases h:∃r∈bh (l4 xs T1 n ss1),r.nm=m
 ·obtain⟨r,h1,h2⟩:=h;rw[(vX nd).mpr ⟨h1,h2⟩,uY.mpr ⟨r,((hr r).mp h1).1,h2,rfl⟩];rfl
 ·have e1:oO (bh (l4 xs T1 n ss1)) m=none:=by
   cases e:oO (bh (l4 xs T1 n ss1)) m with
   |none=>rfl
   |some r=>exact absurd ⟨r,(vX nd).mp e⟩ h
  rw[e1];cases e:oP xs m with
  |none=>rfl
  |some d=>
   obtain⟨r,h1,h2,h3⟩:=uY.mp e;refine(decide_eq_false λz=>h ⟨r,(hr r).mpr ⟨h1,?_⟩,h2⟩).symm;rw[h2,h3];rcases Int.lt_or_eq_of_le z with z|z
   ·exact .inl z
   ·exact .inr ⟨z,ma⟩
theorem UR{r:Rp}{g g':Gn}(L:List (Str×Pt))(h:∀m∈r.ts,g.has n m=g'.has n m):gT r n g L=gT r n g' L:=by
 have e:qg r n g=qg r n g':=by
  funext z;unfold qg;congr 2;cases z.2 with
  |five=>rfl
  |two w kd=>
   unfold pE oi;rw[TY λm hm=>by rw[h m hm]]
 unfold gT;rw[e]
theorem US{r:Rp}{g g':Gn}(L:List (Str×Pt))(h:∀m∈r.ts,g.has n m=g'.has n m):lZ r n g L=lZ r n g' L:=by
 have e:qh r n g=qh r n g':=by
  funext z;unfold qh;congr 2;cases z.2 with
  |five=>rfl
  |two w kd=>
   unfold pF oj;rw[TY λm hm=>by rw[h m hm]]
 unfold lZ;rw[e]
structure mE where
 d:Int
 nm:Str
 st:List (Str×L7)
 go:List (Str×L7)
def Lk.tri(k:Lk):mE:=⟨k.d,k.nm,k.st,k.go⟩
def Ej(xs:List De)(G:Gn)(n:Int)(s:Sf):mE:=⟨n,ni s,gT s.1 n G (dM xs n),lZ s.1 n G (dM xs n)⟩
def vY(xs:List De)(G:Gn)(n:Int)(ss:List Sf):List mE:=(ss.filter (Eh xs n)).map (Ej xs G n)
theorem aci(g:bX xs)(hT:bO xs=T1++n::T2)(hS:bB xs=ss1++s::ss2):(decide (s.1.c.d<=n) && !pK (bh (l4 xs T1 n ss1)) s.1.c.nm)=Eh xs n s:=by
 have hr:=K0 g hT hS;have nd:=KZ g;rw[hS,Ww]at nd;have nd:ni s∉ss1.map ni:=λz=>(Yl.mp nd).2.2 _ z (ni s) WR rfl;unfold Eh;congr 1;cases e:oP xs (ni s) with
 |none=>
  show(!pK _ _)=true;rw[WJ,<-YD];intro z;obtain⟨r,h1,h2⟩:=AV.mp z;rw[uY.mpr ⟨r,((hr r).mp h1).1,show r.nm=ni s from h2,rfl⟩]at e;cases e
 |some d=>
  show(!pK _ _)=decide (n<=d);obtain⟨r,h1,h2,h3⟩:=uY.mp e;by_cases hd:n<=d
  ·rw[decide_eq_true hd,WJ,<-YD];intro z;obtain⟨r',h1',h2'⟩:=AV.mp z;obtain⟨q1,q2⟩:=(hr r').mp h1';rw[uY.mpr ⟨r',q1,show r'.nm=ni s from h2',rfl⟩]at e;cases e;rcases q2 with q2|q2
   ·omega
   ·exact nd (by rw[show ni s=r'.nm from h2'.symm];exact q2.2)
  ·rw[decide_eq_false hd,Bool.not_eq_false'];exact AV.mpr ⟨r,(hr r).mpr ⟨h1,.inl L8⟩,h2⟩
theorem K5(g:bX xs)(hG:qo xs G)(hT:bO xs=T1++n::T2):∀(ss2 ss1:List Sf),bB xs=ss1++ss2->∃B,(ss2.map λs=>(n,s)).foldl (lU xs) (l4 xs T1 n ss1)=l4 xs T1 n ss1++B/\B.map Lk.tri=vY xs G n ss2
 | [],ss1,hS=>⟨[],MC,rfl⟩
 |s::ss2,ss1,hS=>by
  rw[V2,W8];have eA:l4 xs T1 n (ss1++[s])=lU xs (l4 xs T1 n ss1) (n,s):=by
   unfold l4;rw[Ww,<-XX,X4];rfl
  obtain⟨B,h1,h2⟩:=K5 g hG hT ss2 (ss1++[s]) (by rw[hS,XX];rfl);rw[eA]at h1;rw[h1];have on:=aci g hT hS;unfold lU vY;dsimp only;rw[on,W6];split
  ·refine⟨_::B,by rw[XX];rfl,?_⟩;rw[V2,V2,h2];congr 1;have hh:∀m∈s.1.ts,(dN xs n (bh (l4 xs T1 n ss1))).gn.has n m=G.has n m:=λm hm=>UQ g hG hT hS hm;show mE.mk _ _ _ _=mE.mk _ _ _ _;congr 1
   ·exact UR (dM xs n) hh
   ·exact US (dM xs n) hh
  ·exact⟨B,rfl,h2⟩
theorem K6(g:bX xs)(hG:qo xs G):∀(T2 T1:List Int),bO xs=T1++T2->∃B,(lV T2 (bB xs)).foldl (lU xs) ((lV T1 (bB xs)).foldl (lU xs) [])=(lV T1 (bB xs)).foldl (lU xs) []++B/\B.map Lk.tri=T2.flatMap λn=>vY xs G n (bB xs)
 | [],T1,_=>⟨[],by simp[lV],rfl⟩
 |n::T2,T1,hT=>by
  obtain⟨B1,h1,h2⟩:=K5 g hG hT (bB xs) [] rfl;have e0:l4 xs T1 n []=(lV T1 (bB xs)).foldl (lU xs) []:=by
   unfold l4;rw[WD,Wn]
  rw[e0]at h1;have eT:(lV (T1++[n]) (bB xs)).foldl (lU xs) []=(lV T1 (bB xs)).foldl (lU xs) []++B1:=by
   rw[<-h1];unfold lV;rw[Yw,X4,YI,List.flatMap_nil,Wn]
  obtain⟨B2,h3,h4⟩:=K6 g hG T2 (T1++[n]) (by rw[hT,XX];rfl);rw[eT]at h3;refine⟨B1++B2,?_,by rw[Ww,h2,h4];rfl⟩;rw[<-XX,<-h3,<-h1];unfold lV;rw[YI,X4]
theorem acs(g:bX xs)(hG:qo xs G):(qU xs).map Lk.tri=(bO xs).flatMap λn=>vY xs G n (bB xs):=by
 obtain⟨B,h1,h2⟩:=K6 g hG (bO xs) [] rfl;unfold qU;have h1:(lV (bO xs) (bB xs)).foldl (lU xs) []=[]++B:=h1;rw[h1,WK,h2]
end
theorem K7:aU (aq Am) ["deeds"] ["look"] 1 [] ⟨V7,[(V1 ".0",Mc),(V1 "look",Mc)],false,false,[]⟩:= .of
theorem K8:aU (aq vO) ["deeds","day","latest"] ["turn","day"] 1 [1] ⟨V7,[ (V1 ".0",Mc),(V1 "turn",Mc),(V1 "day",Wi)],false,false,[]⟩:= .of
theorem K9:aU (aq vO) ["deeds","day","latest"] ["look","latest"] 1 [2] ⟨V7,[ (V1 ".0",Mc),(V1 "look",Mc),(V1 "latest",Wi)],false,false,[]⟩:= .of
def Lk.cl(k:Lk):Bool:=!k.st.isEmpty && !k.go.isEmpty
def qp(xs:List De):List Lk:=(qU xs).filter Lk.cl
theorem La:aW bY [a,b,c,d,e,f] (VY "to_stay")=some c:=by
 simp[bY,aW,show VY "day"≠VY "to_stay" by decide+kernel,show VY "paper"≠VY "to_stay" by decide+kernel]
def F_u(CL:L9):Fa:=λds Q=>∃xs:List De,ds=[.tuple (xs.map De.enc)]/\bX xs/\qP xs/\((qp xs).length<=100000->Q (.list ((qp xs).map (Lk.enc CL))))
theorem Lb(T:Txt Z mg t):aB P w Z mg base MX 12 t.a_u t.d_u ["deeds"] (aQ Z (F_u t.q0b)):=by
 refine T.F_u.F.okD aeF (λds Q h=>?_) (λ_ _ _ _ H O ds Q E hr h=>?_)
 ·obtain⟨xs,rfl,_⟩:=h;rfl
 ·obtain⟨xs,rfl,g,few,q⟩:=h;refine'⟨_,?A,?B⟩
  case A=>
   refine' az ?C
   case' C=>refine' aM ?D
   case' D=>refine' fe ?E
   case E=>exact(mJ rfl K7 (df (au (KI T) hr T.F_t (aa (dv 0) ah))) aK bS MA (λ_ _ _ _=>(aJ (i:=0) K7.nd rfl MH)) (λ_ _ _ _=>(eM (PW.pt (nF (Ib (bW (C:=t.q0b) T.q0e T.q0A (dv 0))) (nA (Ib (bW (C:=t.q0b) T.q0e T.q0q (dv 0)))))))) (λ_ _ _ _=>(dv 0)))
  case B=>
  clear hr T;walk_at "g";refine⟨xs,rfl,g,few,λkok kl=>?_⟩;rw[KY]at kl⊢;refine⟨_,rfl,by rw[V0];omega,gS Lk.cl (λk=>k.enc t.q0b) (λk hk R S h=>?_) (q (Wy (Xi _ _) kl))⟩;walk_at "g";refine⟨bY,_,rfl,_,La,_,rfl,?_⟩;rw[Ux];unfold Lk.cl at h;cases e1:k.st with
  |nil=>
   rw[e1]at h;rw[M4 MA];exact h
  |cons a l=>
   rw[M8 (by rfl)];refine⟨bY,_,rfl,_,DZ,_,rfl,?_⟩;rw[Ux];rw[e1]at h;cases e2:k.go with
   |nil=>
    rw[e2]at h;rw[M4 MA];exact h
   |cons b m=>
    rw[e2]at h;rw[M8 (by rfl)];exact h
theorem aaV(h:k∈qp xs):∃a l b m,k.st=a::l/\k.go=b::m:=by
 have h:=(Wr.mp h).2;unfold Lk.cl at h;cases e1:k.st with
 |nil=>rw[e1]at h;cases h
 |cons a l=>
  cases e2:k.go with
  |nil=>rw[e1,e2]at h;cases h
  |cons b m=>exact⟨a,l,b,m,rfl,rfl⟩
def Lk.told(k:Lk):L7:= .tuple [.int k.d,.str k.nm,(k.st.head?.map bA).getD .none,(k.go.head?.map bA).getD .none]
def pL(xs:List De):L7:=((qp xs).head?.map Lk.told).getD .none
def F_v:Fa:=λds Q=>∃xs:List De,ds=[.tuple (xs.map De.enc)]/\bX xs/\qP xs/\Q (pL xs)
theorem Lc(T:Txt Z mg t):aB P w Z mg base MX 13 t.a_v t.d_v ["deeds"] (aQ Z F_v):=by
 refine T.F_v.F.okD Ds (λds Q h=>?_) (λ_ _ _ _ H O ds Q E hr h=>?_)
 ·obtain⟨xs,rfl,_⟩:=h;rfl
 ·obtain⟨xs,rfl,g,few,q⟩:=h;refine'⟨_,?A,?B⟩
  case A=>
   refine' ao ?C ?D
   case C=>exact(bg (i:=1) Ds.nd rfl MH (au (Lb T) hr T.F_u (aa (dv 0) ah)))
   case' D=>refine' ao ?E ?F
   case E=>
    refine' bI ?G ?H bH
    case G=>exact(rC (vK (dv 1)))
    case H=>refine' az (aM mI)
   case' F=>refine' ao ?I ?J
   case I=>exact(bg (i:=2) Ds.nd rfl MH (aC dB d9 (dv 1) ag))
   case' J=>refine' az ?K
   case' K=>refine' aM ?L
   case' L=>refine' bq ?M
   case' M=>refine' aa ?N ?O
   case N=>exact(bW (C:=t.q0b) T.q0e T.q0o (dv 2))
   case' O=>refine' aa ?P ?Q
   case P=>exact(bW (C:=t.q0b) T.q0e T.q0p (dv 2))
   case' Q=>refine' aa ?R ?S
   case R=>exact(aC aE aH (bW (C:=t.q0b) T.q0e T.q0A (dv 2)) ag)
   case' S=>refine' aa ?T ah
   case T=>exact(aC aE aH (bW (C:=t.q0b) T.q0e T.q0q (dv 2)) ag)
  case B=>
  clear hr T;walk_at "g";refine⟨xs,rfl,g,few,λcl=>?_⟩;walk_at "g";unfold pL at q;cases e:qp xs with
  |nil=>
   rw[e]at q;rw[M8 (by rfl)];exact q
  |cons k l=>
   rw[e]at q;obtain⟨a,as,b,bs,e1,e2⟩:=aaV (xs:=xs) (k:=k) (by rw[e];exact WR);rw[M4 MC];have q:Q k.told:=q;unfold Lk.told at q;rw[e1,e2]at q;refine⟨_,bN,bY,_,rfl,_,DX,bY,_,rfl,_,DY,bY,_,rfl,_,La,_,rfl,bA a,?_,bY,_,rfl,_,DZ,_,rfl,bA b,?_,q⟩
   ·rw[e1];exact bN
   ·rw[e2];exact bN
theorem Ld{ns:List Int}(pw:ns.Pairwise (· < ·))(hm:M∈ns)(ha:∀a∈ns,a<=M):ns.getLast?=some M:=by
 obtain⟨a,b,rfl⟩:=Zo hm;cases b with
 |nil=>simp
 |cons c b=>
  have h1:=(XO.mp (YG.mp pw).2.1).1 c WR;have h2:=ha c MC;omega
def oz(xs:List De)(n:Int):Option Int:=((bO xs).filter λz=>decide (z<=n)).getLast?
def qV(xs:List De)(n:Int):List Str:=((qp xs).filter λk=>decide (some k.d=oz xs n)).map (·.nm)
def F_w:Fa:=λds Q=>∃(xs:List De)(n:Int),ds=[.tuple (xs.map De.enc),.int n]/\bX xs/\qP xs/\Q (.tuple ((qV xs n).map .str))
theorem Le(T:Txt Z mg t):aB P w Z mg base MX 13 t.a_w t.d_w ["deeds","day"] (aQ Z F_w):=by
 refine T.F_w.F.okD Ir (λds Q h=>?_) (λ_ _ _ _ H O ds Q E hr h=>?_)
 ·obtain⟨xs,n,rfl,_⟩:=h;rfl
 ·obtain⟨xs,n,rfl,g,few,q⟩:=h;refine'⟨_,?A,?B⟩
  case A=>
   refine' ao ?C ?D
   case C=>
    refine' bg (i:=2) Ir.nd rfl MH ?E (hs:=se)
    case E=>exact(Rr rfl rfl T.q0N (bz (fe (oZ rfl K8 (df (au (AJ T) hr T.F_h (aa (dv 0) ah))) aK bS MA (λ_ _ _ _=>(aJ (i:=0) K8.nd rfl MH)) (λ_ _ _ _=>(eM (aN rn n4 (dv 0) (dv 1) (aD _)))) (λ_ _ _ _=>(dv 0)))) bw))
   case' D=>refine' az ?F
   case' F=>refine' aM ?G
   case G=>exact(PE.imp (lY nX rfl T.q0h ny (bz (fe (mJ rfl K9 (df (au (Lb T) hr T.F_u (aa (dv 0) ah))) aK bS MA (λ_ _ _ _=>(aJ (i:=0) K9.nd rfl MH)) (λ_ _ _ _=>(eM (aN (cF hr.units) cG (bW (C:=t.q0b) T.q0e T.q0o (dv 0)) (dv 1) (aD _)))) (λ_ _ _ _=>(bW (C:=t.q0b) T.q0e T.q0p (dv 0))))) bw)) (cf n5))
  case B=>
  clear hr T;walk_at "g";refine⟨xs,rfl,g.gd,λ_=>few,λit tl=>?_⟩;walk_at "g";have fin:∀o:Option Int,o=oz xs n->F_u t.q0b [WG (X3 De.enc xs)] λd=>∃xs,d=X2 xs/\xs.length<=16777216/\mV (dR 0) (cc (bM d8 (dW t.q0b (VY "day") (dO 0)) (dO 1))) (dW t.q0b (VY "paper") (dO 0)) [none,some (Sl.v (di o))] xs λds=>Q (WG ds):=λo ho=>by
   refine⟨xs,rfl,g,few,λcl=>⟨_,rfl,by rw[V0];omega,gS (λk=>decide (some k.d=oz xs n)) (λk=>.str k.nm) (λk hk R S h=>?_) ?_⟩⟩
   ·walk_at "g";refine⟨bY,_,rfl,_,DX,?_⟩;have e:(Wa k.d).eqv (di o)=decide (some k.d=oz xs n):=by
     rw[<-ho];cases o with
     |none=>simp[di,Ws]
     |some d=>simp[di,Ws];rfl
    refine⟨fN,by cases o<;>rfl,?_⟩;rw[e];by_cases hd:decide (some k.d=oz xs n)=true
    ·rw[M8 hd]at h⊢;exact⟨bY,_,rfl,_,DY,h⟩
    ·rw[M4 hd]at h⊢;exact h
   ·unfold qV at q;rw[Wk]at q;exact q
  refine⟨by rw[V0];omega,gS (λz=>decide (z<=n)) (λz=>.int z) (λz hz R S h=>?_) ⟨_,rfl,λe0=>fin none ?_,λM hM ha=>fin (some M) ?_⟩⟩
  ·walk_at "g";simpa using h
  ·unfold oz;rw[e0];rfl
  ·exact(Ld (it.2.filter _) hM ha).symm
theorem Lf:aU (aq Ao) ["_law_date","_law_year","_law_month","_law_number"] ["_law_k","_law_year"] 1 [1] ⟨V7,[ (V1 ".0",Mc),(V1 "_law_k",Mc),(V1 "_law_length",W4),(V1 "_law_year",Wi)],false,false,[]⟩:= .of
def Ek:Sp:=λvs H Q _=>∃(c:Int),vs=[.int c]/\XT c<=2000000/\∀n:Int,Q (.int n) H
theorem UX(T:Txt Z mg t):aB P w Z mg base MX 1 t.a_y t.d_y ["_law_cell"] Ek:=by
 refine T.F_y.F.ok aaC (λvs H Q E h=>?_) (λcdv A outer s H vs Q E hr h=>?_)
 ·obtain⟨c,rfl,_⟩:=h;rfl
 ·obtain⟨c,rfl,hb,k⟩:=h;refine⟨_,(l5 (mG (bD rj (bD NZ (pv 0) bC) (bD acV bC bC)))),?_⟩;walk_at "a";refine⟨IntMulOk.of_le (m:=2000000) (n:=256) hb (intBits_le_iff.mpr MA) MA,?_,?_,k _⟩
  ·decide
  ·decide
theorem Lg(h1:0<=x)(h2:x<=1000000):XT x<=20:=intBits_le_iff.mpr (by
 have:(2:Nat)^ 20=1048576:=MA
 omega)
theorem UY{ns:List Int}(h:Dt Z H O v (oU (ns.map .int))):∃a,v= .ref a/\bb Z H a (ns.map V.int):=by
 obtain⟨a,xs,rfl,hs,r⟩:=(Sh.dt h).scr;refine⟨a,rfl,?_⟩;have:xs=ns.map V.int:=by
  clear hs h
  induction ns generalizing xs with
  |nil=>rw[WD]at r;cases r;rfl
  |cons n ns ih=>
   rw[V2]at r;cases r with
   |cons h r=>cases h;rw[V2,ih _ r]
 rw[<-this];exact hs
theorem UZ(T:Txt Z mg t):aB P w Z mg base MX 2 t.a_z t.d_z ["_law_script","_law_k"] (aQ Z OF):=by
 refine T.F_z.F.ok R8 (λvs H Q E h=>?_) (λcdv A outer s H vs Q E hr h=>?_)
 ·obtain⟨O,ds,Qd,_,r,⟨ns,i,rfl,_⟩,_⟩:=h;exact r.length
 ·obtain⟨O,ds,Qd,tr,r,⟨ns,i,rfl,hb,i0,i1,q⟩,k⟩:=h;cases r with
  |cons r1 r2=>
   cases r2 with
   |cons r2 r3=>
    cases r3;cases r2;obtain⟨a,rfl,hS⟩:=UY r1;refine⟨_,bE.newPack (gW (sM (rR wt (pv 1) (dA MS rfl T.q0i Yt (bj (pv 0) cm)) (aD _)) (l5 (mG (Bk (bj (mZ (UX T) (hr.mono MA) rfl T.F_y (bj (bD bF (pU dB (pv 0) (pv 1) (λ_ _=>rfl)) (bD rg bC (pv 1))) cm)) cm)))) sL)
   (l5 (mG (Bk (bj (mZ (UX T) (hr.mono MA) rfl T.F_y (bj (bD bF (bD rg bC (pv 1)) bC) cm)) cm))))),?_⟩
    have fin:∀(n:Int)(p:L9),H p=none->∃p' n',V.ref p=V.ref p'/\ai H p (.lst [.int n]) p'=some (.lst [.int n'])/\Q (.ref p) (ai (ai H p (.lst [.int n])) p' (rB p')):=λn p hp=>
     ⟨p,n,rfl,aV,k _ _ _ q (λb o e=>by rw[ar (lQ e hp),ar (lQ e hp)];exact e) (.pack aV λz=>tr p z hp)⟩
    walk_at "a";refine⟨ns.length,.inl ⟨_,hS,MC⟩,?_⟩;split
    ·rename_i hlt;obtain⟨j,rfl⟩:=Zi i0;have hj:j < ns.length:=L8
     refine FZ (v:= .int ns[j]) hS (rS (by simp[hj])) ⟨_,rfl,?_⟩;simp only[Ek];walk_at "a";refine⟨?_,λn=>⟨by show 1<=MT;decide,λp hp=>?_⟩⟩
     ·have e1:=hb ns[j] (Yp hj);have e2:XT (31*(j:Int))<=20:=Lg L8 L8;exact Wy (intBits_add_le e1 e2) MA
     ·simpa using fin n p hp
    ·simp only[Ek];walk_at "a";refine⟨?_,λn=>⟨by show 1<=MT;decide,λp hp=>?_⟩⟩
     ·exact Wy (Lg L8 L8) MA
     ·simpa using fin n p hp
theorem uZ(T:Txt Z mg t):aB P w Z mg base MX 1 t.q06 t.q07 ["_law_pack_here","_law_size"] (aQ Z Gd):=by
 refine T.q0d.F.ok Iu (λvs H Q E h=>?_) (λcdv A outer s H vs Q E hr h=>?_)
 ·obtain⟨O,ds,Qd,_,r,⟨z,rfl,_⟩,_⟩:=h;exact r.length
 ·obtain⟨O,ds,Qd,tr,r,⟨z,rfl,z0,z1,qq⟩,k⟩:=h;cases r with
  |cons r1 r2=>
   cases r2 with
   |cons r2 r3=>
    cases r3;cases r2;cases r1 with
    | @pack p hp hn=>
     refine⟨_,bE.pack (gW (EZ (dA ac5 rfl T.q02 aeg (bj (pU dB (pv 0) bC (λ_ _=>rfl)) (bj (pv 1) cm))) (oH (n:=2) rfl (cE (adn (pv 0) bC adD) (cE (aJ (i:=2) Iu.nd rfl MH) oG))))
   (l5 (mG (pv 2)))),p,hp,λn=>?_⟩
     walk_at "a";refine FZ (bb.of aV) rfl ⟨n,rfl,z0,L8,λq hq=>?_⟩;have hpq:p≠q:=lQ aV hq;refine⟨_,bo.of aV,rfl,_,_,rfl,?_⟩;refine⟨p,[.int n],0,0,rfl,rfl,by rw[ar hpq,aV],rfl,?_⟩;refine⟨_,_,rfl,rfl,?_⟩;refine⟨⟨_,aV⟩,k _ _ _ (qq (n % z) (TU _ L8) (Uu _ z0)) (λb o e=>?_) (.int _)⟩;by_cases hb:b=p
     ·subst hb;rw[aV,<-hp,e]
     ·have hbq:b≠q:=λy=>by
       subst y;rw[ar hb]at hq;rw[hq]at e;cases e
      rw[ar hb,ar hb,ar hbq,ar hb];exact e
def Lh(y m n:Int):Prop:=2000<=y/\y<=9999/\1<=m/\m<=12/\1<=n/\n<=aX y m
theorem U0(h1:1<=m)(h2:m<=12)(hm:m≠2):atI [Wa 31,Wa 29,Wa 31,Wa 30,Wa 31,Wa 30,Wa 31,Wa 31,Wa 30,Wa 31,Wa 30,Wa 31] (m - 1)=some (.int (aX y m)):=by
 have a:=xQ y;rcases xR h1 h2 with z|z|z|z|z|z|z|z|z|z|z|z<;>subst z
 ·rw[a.1];rfl
 ·exact absurd rfl hm
 ·rw[a.2.1];rfl
 ·rw[a.2.2.1];rfl
 ·rw[a.2.2.2.1];rfl
 ·rw[a.2.2.2.2.1];rfl
 ·rw[a.2.2.2.2.2.1];rfl
 ·rw[a.2.2.2.2.2.2.1];rfl
 ·rw[a.2.2.2.2.2.2.2.1];rfl
 ·rw[a.2.2.2.2.2.2.2.2.1];rfl
 ·rw[a.2.2.2.2.2.2.2.2.2.1];rfl
 ·rw[a.2.2.2.2.2.2.2.2.2.2];rfl
theorem u5(ss:List Str){i:Int}(h0:0<=i)(h1:i < ss.length):∃nm∈ss,atI (ss.map V8) i=some (.str nm):=by
 obtain⟨v,e,m⟩:=vt (xs:=ss.map V8) h0 (by rw[V0];exact h1);obtain⟨nm,hn,rfl⟩:=Wb.mp m;exact⟨nm,hn,e⟩
def Li:Fa:=λds Q=>∃y m:Int,ds=[.int y,.int m]/\1<=m/\m<=12/\Q (.int (aX y m))
theorem Lj(T:Txt Z mg t):aB P w Z mg base MX 1 t.q08 t.q09 ["_law_year","_law_month"] (aQ Z Li):=by
 refine T.q0S.F.okD R9 (λds Q h=>?_) (λ_ _ _ _ H O ds Q E hr h=>?_)
 ·obtain⟨y,m,rfl,_⟩:=h;rfl
 ·obtain⟨y,m,rfl,h1,h2,q⟩:=h;refine'⟨_,?A,?B⟩
  case A=>
   refine' ao ?C ?D
   case C=>
    refine' bI ?E ?F bH
    case E=>exact(PW.pt (nF (aN (cF hr.units) cG (dv 1) ag (aD _)) (nA (PW.pt (oW (aN (rE hr.units) rF (br rj pd (dv 0) ag) ag (aD _)) (qB (PW.pt (nF (aN (cF hr.units) cG (br rj pd (dv 0) ag) ag (aD _)) (nA (aN (rE hr.units) rF (br rj pd (dv 0) ag) ag (aD _)))))))))))
    case F=>refine' az (aM ag)
   case' D=>refine' az ?G
   case' G=>generalize hE6_0:Qw _ _=ee6_0
   exact(aM (aC dB d9 (fe (Gw (ds:=[.int 31,.int 29,.int 31,.int 30,.int 31,.int 30,.int 31,.int 31,.int 30,.int 31,.int 30,.int 31]) (by first | (subst hE6_0;rfl)))) (br mS cu (dv 1) ag)))
  case B=>
  clear hr T;walk_at "d";have tb:=U0 (y:=y) h1 h2;by_cases hm:m=2
  ·subst hm;have l1:=Ci y;have e2:=xP y;have t29:pk y=true->∃d,atI [Wa 31,Wa 29,Wa 31,Wa 30,Wa 31,Wa 30,Wa 31,Wa 31,Wa 30,Wa 31,Wa 30,Wa 31] (2 - 1)=some d/\Q d:=λh=>⟨.int 29,rfl,by rw[e2]at q;unfold ld at q;rw[h]at q;exact q⟩;have t28:¬pk y=true->Q (.int 28):=λh=>by rw[e2]at q;unfold ld at q;rw[M4 h]at q;exact q
   rw[M8 MA];split
   ·rename_i h4;exact t28 (by rw[l1];simp at h4;omega)
   ·rename_i h4;simp at h4;split
    ·rename_i h5;simp at h5;split
     ·rename_i h6;exact t28 (by rw[l1];simp at h6;omega)
     ·rename_i h6;exact t29 (l1.mpr (by simp at h6;omega))
    ·rename_i h5;exact t29 (l1.mpr (by simp at h5;omega))
  ·rw[M4 (by simpa using hm)];exact⟨_,tb hm,q⟩
def Ll:Fa:=λds Q=>∃y:Int,ds=[.int y]/\Q (.int (cg y))
theorem acg(T:Txt Z mg t):aB P w Z mg base MX 1 t.q1a t.q1b ["_law_year"] (aQ Z Ll):=by
 refine T.q1D.F.okD Iw (λds Q h=>?_) (λ_ _ _ _ H O ds Q E hr h=>?_)
 ·obtain⟨y,rfl,_⟩:=h;rfl
 ·obtain⟨y,rfl,q⟩:=h;refine'⟨_,?A,?B⟩
  case A=>
   refine' ao ?C ?D
   case C=>exact(bg (i:=1) Iw.nd rfl MH (br mS cu (dv 0) ag))
   case' D=>refine' az ?E
   case' E=>generalize hG4:Expr.BinOp _ _ _ _=eg4
   refine' aM ?F
   case' F=>subst hG4
   exact(br bF cu (br mS cu (br bF cu (br rg pd ag (dv 1)) (br qw pd (br bF cu (dv 1) ag) ag)) (br qw pd (br bF cu (dv 1) ag) ag)) (br qw pd (br bF cu (dv 1) ag) ag))
  case B=>
  clear hr T;walk_at "d";have e:365*(y - 2000)+(y - 2000+3)/ 4 - (y - 2000+99)/ 100+(y - 2000+399)/ 400=cg y:=by rw[<-aej y]
  rw[e];exact q
theorem AW:Li [.int y,.int m] Q↔1<=m/\m<=12/\Q (.int (aX y m)):=⟨λuu=>by obtain⟨_,_,e,h⟩:=uu;cases e;exact h,λh=>⟨_,_,rfl,h⟩⟩
theorem aaQ:Ll [.int y] Q↔Q (.int (cg y)):=⟨λuu=>by obtain⟨_,e,h⟩:=uu;cases e;exact h,λh=>⟨_,rfl,h⟩⟩
def abz:Fa:=λds Q=>∃y m n:Int,ds=[.tuple [.int y,.int m,.int n]]/\1<=m/\m<=12/\Q (.int (pq y m n))
theorem aaX(T:Txt Z mg t):aB P w Z mg base MX 2 t.q1c t.q1d ["_law_date"] (aQ Z abz):=by
 refine T.q1E.F.okD Ay (λds Q h=>?_) (λ_ _ _ _ H O ds Q E hr h=>?_)
 ·obtain⟨y,m,n,rfl,_⟩:=h;rfl
 ·obtain⟨y,m,n,rfl,m1,m2,q⟩:=h;refine'⟨_,?A,?B⟩
  case A=>
   refine' ao ?C ?D
   case C=>exact(wX (dv 0) (oH (n:=3) rfl (cE (aJ (i:=1) Ay.nd rfl MH) (cE (aJ (i:=2) Ay.nd rfl MH) (cE (aJ (i:=3) Ay.nd rfl MH) oG)))) (oY (cU aK (cU aK (cU aK oX)))))
   case' D=>refine' az ?E
   case' E=>refine' aM ?F
   case F=>exact(br mS cu (br bF cu (br bF cu (au (acg T) hr T.q1D (aa (dv 1) ah)) (PE.imp (dA (FX rfl) rfl T.q0O Sy (bz (fe (aei rfl Lf rfl T.q0j (bz ag (bz (dv 2) bw)) aK bS MA (λ_ _ _ _=>(aJ (i:=0) Lf.nd rfl MH)) (λ_ _ _ _=>mK) (λ_ _ _ _=>(au (Lj T) hr T.q0S (aa (dv 1) (aa (dv 0) ah)))))) bw)) (cf QJ))) (dv 3)) ag)
  case B=>
  clear hr T;walk_at "+AW aaQ ";have hm:((m - 1).toNat:Int)=m - 1:=Int.toNat_of_nonneg L8
  refine⟨L8,L8,L8,?_⟩;refine xC (λx=>match x with | .int k=>.int (aX y k)|_=>.none) (λx hx R hR=>?_) ?_
  ·obtain⟨k,hk,rfl⟩:=Wb.mp hx;have hk:=Ze.mp hk;walk_at "+AW true_and "
   exact⟨L8,L8,hR⟩
  ·refine⟨(XB (m - 1).toNat).map λ(i:Nat)=>aX y (1+(i:Int)),?_,?_⟩
   ·unfold oK;rw[Wk,Wk];rfl
   ·have e:cg y+((XB (m - 1).toNat).map λ(i:Nat)=>aX y (1+(i:Int))).sum+n - 1=pq y m n:=rfl;rw[e];exact q
def acD:Fa:=λds Q=>∃mo:Int,ds=[pV,.int mo]/\(2000<=mo/\mo<=9999)/\∀y m n,Lh y m n/\y<=mo->Q (.tuple [.int y,.int m,.int n])
theorem ack(T:Txt Z mg t):aB P w Z mg base MX 2 t.q1e t.q1f ["_law_pack_here","_law_most"] (aQ Z acD):=by
 refine T.q1F.F.okD tF (λds Q h=>?_) (λ_ _ _ _ H O ds Q E hr h=>?_)
 ·obtain⟨mo,rfl,_⟩:=h;rfl
 ·obtain⟨mo,rfl,hm,q⟩:=h;refine'⟨_,?A,?B⟩
  case A=>
   refine' ao ?C ?D
   case C=>
    generalize hG2:Expr.BinOp _ _ _ _=eg2;refine' bg (i:=2) tF.nd rfl MH ?E (hs:=by subst hG2;exact BX)
    case' E=>subst hG2
    exact(br mS cu (br bF cu (br bF cu ag (br rg pd ag (au (uZ T) hr T.q0d (aa (dv 0) (aa (br bF cu ag (br qw pd (br mS cu (dv 1) ag) ag)) ah))))) (au (uZ T) hr T.q0d (aa (dv 0) (aa ag ah)))) ag)
   case' D=>refine' ao ?F ?G
   case F=>
    refine' bg (i:=3) tF.nd rfl MH ?H (hs:=BX)
    case H=>exact(br bF cu ag (au (uZ T) hr T.q0d (aa (dv 0) (aa (br mS cu (dv 1) ag) ah))))
   case' G=>refine' ao ?I ?J
   case I=>
    refine' bg (i:=4) tF.nd rfl MH ?K (hs:=p7)
    case' K=>refine' nO dB d9 (df ?L) ?M
    case L=>
     refine' fe ?N
     case' N=>refine' g8 ?O
     case' O=>refine' aa (dv 3) ?P
     case' P=>refine' aa (dv 3) ?Q
     case' Q=>refine' aa ?R ah
     case R=>exact(PE.imp (dA (Bg rfl) rfl T.q0D RM (bz (dv 1) (bz (PE.imp (dA (ac3 rfl) rfl T.q0N TL (bz ag (bz (dv 2) bw))) (cf BG)) bw))) (cf BG))
    case M=>exact(df (au (uZ T) hr T.q0d (aa (dv 0) (aa ag ah))))
   case' J=>refine' ao ?S ?T
   case S=>
    generalize hG20:Se _ _ _=eg20;refine' bg (i:=5) tF.nd rfl MH ?U (hs:=by subst hG20;exact p7)
    case' U=>subst hG20
    refine' nO dB d9 (df ?V) ?W
    case V=>
     refine' fe ?X
     case' X=>refine' g8 ?Y
     case' Y=>refine' aa ?Z ?a
     case Z=>exact(br bF cu ag (au (uZ T) hr T.q0d (aa (dv 0) (aa ag ah))))
     case a=>refine' aa ag ah
    case W=>exact(df (PE.imp (lY wA rfl T.q0t wN (bz (nz (cF hr.units) cG (df (au (uZ T) hr T.q0d (aa (dv 0) (aa ag ah)))) (df ag) (aD _)) bw)) (cf w8)))
   case' T=>refine' ao ?b ?c
   case b=>exact(bg (i:=6) tF.nd rfl MH (au (Lj T) hr T.q0S (aa (dv 4) (aa (dv 5) ah))))
   case' c=>refine' ao ?d ?e
   case d=>
    refine' bg (i:=7) tF.nd rfl MH ?f (hs:=p7)
    case' f=>refine' nO dB d9 (df ?g) ?h
    case g=>
     refine' fe ?i
     case' i=>refine' g8 ?j
     case' j=>refine' aa ?k ?l
     case k=>exact(br bF cu ag (au (uZ T) hr T.q0d (aa (dv 0) (aa (dv 6) ah))))
     case' l=>refine' aa (dv 6) ?m
     case' m=>refine' aa ag ?n
     case' n=>refine' aa ?o ah
     case o=>exact(PE.imp (dA (Bg rfl) rfl T.q0D RM (bz (dv 6) (bz ag bw))) (cf BG))
    case h=>exact(df (au (uZ T) hr T.q0d (aa (dv 0) (aa ag ah))))
   case' e=>refine' az ?p
   case p=>exact(aM (bq (aa (dv 4) (aa (dv 5) (aa (dv 7) ah)))))
  case B=>
  clear hr T;walk_at "+bU AW ";have hmo:2000<=mo/\mo<=9999:=hm
  refine⟨L8,L8,λc c0 c1 c2 c3 c4=>⟨L8,L8,λa a0 a1 w w0 w1=>?_⟩⟩;generalize hC:(if (if 2000+100*c+c2 - 1 > 2000 then 2000+100*c+c2 - 1 else 2000) < mo then if 2000+100*c+c2 - 1 > 2000 then 2000+100*c+c2 - 1 else 2000 else mo)=cy;have hcy:2000<=cy/\cy<=mo:=by
   rw[<-hC]
   repeat' split
   all_goals omega
  clear hC;obtain⟨v,ev,hv⟩:=vt (xs:=[Wa (2000+a),Wa (2000+a),Wa cy]) (i:=w) w0 (by show _ < ((3:Nat):Int);omega);obtain⟨y,rfl,hy⟩:∃y:Int,v= .int y/\2000<=y/\y<=mo:=by
   simp only[Wc,XJ,or_false]at hv;rcases hv with rfl|rfl|rfl<;>exact⟨_,rfl,L8,L8⟩
  refine⟨_,ev,λb b0 b1 u u0 u1=>?_⟩;obtain⟨m,em,hm⟩:∃m:Int,atI [Wa (1+b),Wa 2] (if (u==0)=true then 1 else 0)=some (.int m)/\1<=m/\m<=12:=by
   split
   ·exact⟨2,rfl,L8,L8⟩
   ·exact⟨1+b,rfl,L8,L8⟩
  refine⟨_,em,?_⟩;have hb:=HD (y:=y) hm.1 hm.2;walk_at "+bU AW "
  refine⟨hm.1,hm.2,L8,L8,λg g0 g1 x x0 x1=>?_⟩;obtain⟨v,ev,hv⟩:=vt (xs:=[Wa (1+g),Wa (aX y m),Wa 1,Wa (if 28 < aX y m then 28 else aX y m)]) (i:=x) x0 (by show _ < ((4:Nat):Int);omega);refine⟨v,ev,?_⟩;obtain⟨n,rfl,hn⟩:∃n:Int,v= .int n/\1<=n/\n<=aX y m:=by
   simp only[Wc,XJ,or_false]at hv;rcases hv with rfl|rfl|rfl|rfl
   ·exact⟨_,rfl,L8,L8⟩
   ·exact⟨_,rfl,L8,L8⟩
   ·exact⟨_,rfl,L8,L8⟩
   ·refine⟨_,rfl,?_⟩;split<;>omega
  exact q y m n ⟨⟨hy.1,L8,hm.1,hm.2,hn.1,hn.2⟩,hy.2⟩
theorem U7(h:Lh y m n)(hy:y<=2272):0<=pq y m n/\pq y m n < 100000:=by
 obtain⟨y1,y2,m1,m2,n1,n2⟩:=h;have hb:=Cp (y:=y) m1 m2;have a:365*(y - 2000)<=cg y:=by unfold cg lb;omega
 have b:=xO y;have c:cg (y+1)<=99750:=by unfold cg lb;omega
 unfold pq;omega
def abO:Fa:=λds Q=>∃f:Bool,ds=[pV,.bool f]/\∀d:Int,0<=d/\d < 100000->Q (.int d)
theorem U9(T:Txt Z mg t):aB P w Z mg base MX 3 t.q1i t.q1j ["_law_pack_here","_law_far"] (aQ Z abO):=by
 refine T.q1G.F.okD Iy (λds Q h=>?_) (λ_ _ _ _ H O ds Q E hr h=>?_)
 ·obtain⟨f,rfl,_⟩:=h;rfl
 ·obtain⟨f,rfl,q⟩:=h;refine'⟨_,?A,?B⟩
  case A=>
   refine' ao ?C ?D
   case C=>exact(bg (i:=2) Iy.nd rfl MH (au (ack T) hr T.q1F (aa (dv 0) (aa ag ah))))
   case' D=>refine' ao ?E ?F
   case E=>
    refine' bI ?G ?H bH
    case G=>exact(nZ (dv 1))
    case' H=>refine' az ?I
    case I=>exact(aM (au (aaX T) hr T.q1E (aa (dv 2) ah)))
   case' F=>refine' az ?J
   case J=>exact(aM (au (uZ T) hr T.q0d (aa (dv 0) (aa ag ah))))
  case B=>
  clear hr T;walk_at "+bU true_and ";refine⟨2272,rfl,MA,λy m n hd=>?_⟩
  dsimp only;split
  ·exact⟨y,m,n,rfl,hd.1.2.2.1,hd.1.2.2.2.1,q _ (U7 hd.1 hd.2)⟩
  ·exact λi i0 i1=>q i L8
theorem Lm:aU (aq vP) ["_law_pack_here","_law_many","_law_letters","_law_turn","_law_size","_law_at"] ["_law_k","_law_letters"] 1 [2] ⟨V7,[ (V1 ".0",Mc),(V1 "_law_k",Mc),(V1 "_law_letters",Wi)],false,false,[]⟩:= .of
theorem Ln:aU (aq vP) ["_law_pack_here","_law_many","_law_letters","_law_turn","_law_size","_law_at"] ["_law_k","_law_letters","_law_at","_law_size"] 1 [2,5,4] ⟨V7,[ (V1 ".0",Mc),(V1 "_law_k",Mc),(V1 "_law_at",Wi),(V1 "_law_letters",Wi),(V1 "_law_size",Wi)],false,false,[]⟩:= .of
section
variable{P:N4}{w:Mp}{Z:VZ}{mg:Str->Option M3}{base:Md}{t:cS}
theorem Va(h:c∈(Txt.slice z lo hi).cps.toList):c∈z.cps.toList:=by
 rw[BU]at h;exact Zz (YV h)
theorem abR{a b:Str}{c:Nat}(h:c∈(a++b).cps.toList):c∈a.cps.toList\/c∈b.cps.toList:=by
 simpa only[Gx,U3,Wo]using h
def oA(z:Str):Prop:=∀c∈z.cps.toList,c∈uk.cps.toList
theorem oA.cut(h:oA z)(lo hi:Option Int):oA (Txt.slice z lo hi):=λc hc=>h c (Va hc)
theorem oA.app(h:oA a)(h2:oA b):oA (a++b):=λc hc=>(abR hc).elim (h c) (h2 c)
theorem Vc:∀c∈uk.cps.toList,c < 0x110000:=MN
theorem oA.ok(h:oA z):V6 z=true:=O3.mpr λc hc=>Vc c (h c hc)
def tT(tn:Int):Str:=Txt.slice (VY "abcdefghijklmnopqrstuvwxyz") (some tn) none++Txt.slice (VY "abcdefghijklmnopqrstuvwxyz") none (some tn)
theorem Vd(h0:0<=tn)(h1:tn < 26):(tT tn).length=26/\oA (tT tn):=by
 have e:(tT tn).cps.toList=uk.cps.toList.drop tn.toNat++uk.cps.toList.take tn.toNat:=by
  unfold tT;rw[show VY "abcdefghijklmnopqrstuvwxyz"=uk from rfl,Gx,U3,BU,BU,Pn h0 (by rw[BN];omega),Pm h0 (by rw[BN];omega)]
 refine⟨?_,λc hc=>?_⟩
 ·rw[GU,e,Wt,YO,Xr,BN];omega
 ·rw[e]at hc;rcases Wo.mp hc with h|h
  ·exact Zz h
  ·exact YV h
theorem BJ{p:Str->Prop}:∀{ds:List L7},(∀d∈ds,∃z,d= .str z/\p z)->∃ss:List Str,ds=ss.map .str/\∀z∈ss,p z
 | [],_=>⟨[],rfl,λz h=>by cases h⟩
 |d::r,h=>by
  obtain⟨z,rfl,hz⟩:=h d MC;obtain⟨ss,rfl,hs⟩:=BJ λy hy=>h y (Wu _ hy);exact⟨z::ss,rfl,λy hy=>by
   rcases Wc.mp hy with e|e
   ·rw[e];exact hz
   ·exact hs y e⟩
def Ve:Fa:=λds Q=>∃m:Int,ds=[pV,.int m]/\1<=m/\m<=10/\∀ss:List Str,(ss.length:Int)=m->(∀z∈ss,V6 z=true)->Q (.list (ss.map .str))
theorem Vf(T:Txt Z mg t):aB P w Z mg base MX 2 t.q1g t.q1h ["_law_pack_here","_law_many"] (aQ Z Ve):=by
 refine T.q0T.F.okD uI (λds Q h=>?_) (λ_ _ _ _ H O ds Q E hr h=>?_)
 ·obtain⟨m,rfl,_⟩:=h;rfl
 ·obtain⟨m,rfl,m1,m2,q⟩:=h;refine'⟨_,?A,?B⟩
  case A=>
   refine' ao ?C ?D
   case C=>exact(bg (i:=2) uI.nd rfl MH aZ)
   case' D=>refine' ao ?E ?F
   case E=>exact(wX (bq (aa (au (uZ T) hr T.q0d (aa (dv 0) (aa ag ah))) (aa (au (uZ T) hr T.q0d (aa (dv 0) (aa ag ah))) ah))) (oH (n:=2) rfl (cE (aJ (i:=3) uI.nd rfl MH) (cE (aJ (i:=4) uI.nd rfl MH) oG))) (oY (cU aK (cU aK oX))))
   case' F=>refine' ao ?G ?H
   case G=>
    refine' bg (i:=2) uI.nd rfl MH ?I (hs:=BX)
    case I=>exact(br Bf BI (vB (df (dv 2)) (mq (dv 3)) p6) (vB (df (dv 2)) p6 (mq (dv 3))))
   case' H=>refine' ao ?J ?K
   case J=>
    refine' bI ?L ?M bH
    case L=>exact(aN (cF hr.units) cG (au (uZ T) hr T.q0d (aa (dv 0) (aa ag ah))) ag (aD _))
    case' M=>refine' az ?N
    case' N=>refine' aM ?O
    case' O=>refine' fe ?P
    case P=>exact(F8 rfl Lm rfl T.q0j (bz (dv 1) bw) aK bS MA (λ_ _ _ _=>(aJ (i:=0) Lm.nd rfl MH)) (λ_ _ _ _=>mK) (λ_ _ _ _=>(vB (df (dv 1)) p6 (mq (br bF cu ag (dv 0))))))
   case' K=>refine' ao ?Q ?R
   case Q=>exact(bg (i:=5) uI.nd rfl MH (au (uZ T) hr T.q0d (aa (dv 0) (aa (br bF cu (dv 4) ag) ah))))
   case' R=>refine' az ?S
   case' S=>refine' aM ?T
   case' T=>refine' fe ?U
   case U=>exact(F8 rfl Ln rfl T.q0j (bz (dv 1) bw) aK bS MA (λ_ _ _ _=>(aJ (i:=0) Ln.nd rfl MH)) (λ_ _ _ _=>mK) (λ_ _ _ _=>(br Bf BI (br Bf BI (vB (df (dv 1)) (mq ag) (mq (br bF cu ag (dv 2)))) (aC Nt adX (dv 1) (dv 0))) (vB (df (dv 1)) (mq (br bF cu ag (dv 2))) (mq (br bF cu ag (dv 3)))))))
  case B=>
  clear hr T;walk_at "+bU true_and ";intro tn t0 t1 sz s0 s1
  have l26:(VY "abcdefghijklmnopqrstuvwxyz").length=26:=MN
  obtain⟨lR,aR⟩:=Vd t0 t1;have hs:(Txt.slice (VY "abcdefghijklmnopqrstuvwxyz") (some tn) none).length+(Txt.slice (VY "abcdefghijklmnopqrstuvwxyz") none (some tn)).length=26:=by rw[<-lR];unfold tT;rw[Gy]
  rw[show Txt.slice (VY "abcdefghijklmnopqrstuvwxyz") (some tn) none++Txt.slice (VY "abcdefghijklmnopqrstuvwxyz") none (some tn)=tT tn from rfl];refine⟨L8,L8,L8,λc c0 c1=>?_⟩;generalize tT tn=R at*;have fin:∀ds:List L7,ds.length=(oK 0 m.toNat).length->(∀d∈ds,∃z,d= .str z/\oA z)->Q (.list ds):=λds hl h=>by
   obtain⟨ss,rfl,hs⟩:=BJ h;rw[xq,V0]at hl;exact q ss L8 λz hz=>(hs z hz).ok
  split
  ·refine⟨L8,by have:((16777216:Nat):Int)=16777216:=rfl;omega,GS (λy=>∃z,y= .str z/\oA z) (λx hx T hT=>?_) fin⟩;obtain⟨k,hk,rfl⟩:=Wb.mp hx;walk_at "d";exact⟨L8,hT _ ⟨_,rfl,aR.cut _ _⟩⟩
  ·refine⟨L8,L8,λa a0 a1=>⟨L8,by have:((16777216:Nat):Int)=16777216:=rfl;omega,GS (λy=>∃z,y= .str z/\oA z) (λx hx T hT=>?_) fin⟩⟩;obtain⟨k,hk,rfl⟩:=Wb.mp hx;have hk:=Ze.mp hk;walk_at "d";obtain⟨ch,ec,mc⟩:=vt (xs:=R.cps.toList) (i:=0+(k:Int)) L8 (by rw[<-GU,lR];omega);have s1:=Txt.slice_le R (some 9) (some (9+a));have s2:=Txt.slice_le R (some (9+a)) (some (9+sz));have lc:(⟨#[ch]⟩:Str).length=1:=rfl;have ac:oA ⟨#[ch]⟩:=λx hx=>by
    have:x=ch:=by simpa using hx
    rw[this];exact aR ch mc
   exact⟨L8,L8,ch,ec,by rw[lc];omega,L8,by rw[Gy,lc];omega,hT _ ⟨_,rfl,((aR.cut _ _).app ac).app (aR.cut _ _)⟩⟩
def abN:Fa:=λds Q=>∃(ks ps:List Str)(f:Bool),ds=[pV,.list (ks.map .str),.list (ps.map .str),.bool f]/\0 < ks.length/\ks.length<=10/\2<=ps.length/\ps.length<=10/\(∀z∈ks,V6 z=true)/\(∀z∈ps,V6 z=true)/\∀pt:Pt,pt.Ok->Q pt.enc
theorem abv(T:Txt Z mg t):aB P w Z mg base MX 2 t.q1k t.q1l ["_law_pack_here","_law_kinds","_law_pool_here","_law_far"] (aQ Z abN):=by
 refine T.q1H.F.okD uJ (λds Q h=>?_) (λ_ _ _ _ H O ds Q E hr h=>?_)
 ·obtain⟨ks,ps,f,rfl,_⟩:=h;rfl
 ·obtain⟨ks,ps,f,rfl,k0,k1,p0,p1,hk,hp,q⟩:=h;refine'⟨_,?A,?B⟩
  case A=>
   refine' ao ?C ?D
   case C=>
    generalize hE2_0:Qw _ _=ee2_0;exact(bg (i:=4) uJ.nd rfl MH (aC dB d9 (fe (Gw (ds:=[.str "keep",.str "gone",.str "gone",.str "while",.str "follow",.str "leave"]) (by first | (subst hE2_0;rfl)))) (au (uZ T) hr T.q0d (aa (dv 0) (aa ag ah)))))
   case' D=>refine' ao ?E ?F
   case E=>
    refine' bg (i:=5) uJ.nd rfl MH ?G (hs:=p7)
    case' G=>refine' nO dB d9 (df (dv 1)) ?H
    case H=>exact(df (au (uZ T) hr T.q0d (aa (dv 0) (aa (PE.imp (dA qy rfl T.q0i Yt (bz (dv 1) bw)) (cf qD)) ah))))
   case' F=>refine' ao ?I ?J
   case I=>
    generalize hG8:Se _ _ _=eg8;refine' bg (i:=6) uJ.nd rfl MH ?K (hs:=by subst hG8;exact p7)
    case' K=>subst hG8
    refine' nO dB d9 (df ?L) ?M
    case L=>
     refine' fe ?N
     case' N=>refine' g8 ?O
     case' O=>refine' aa ?P ?Q
     case P=>exact(bq (aa aZ ah))
     case' Q=>refine' aa ?R ?S
     case R=>
      refine' bq ?T
      case' T=>refine' aa aZ ?U
      case' U=>refine' aa ?V ah
      case V=>exact(aC dB d9 (dv 2) (au (uZ T) hr T.q0d (aa (dv 0) (aa ag ah))))
     case' S=>refine' aa ?W ah
     case' W=>refine' bq ?X
     case' X=>refine' aa aZ ?Y
     case' Y=>refine' aa ?Z ah
     case Z=>exact(aC dB d9 (dv 2) (au (uZ T) hr T.q0d (aa (dv 0) (aa ag ah))))
    case M=>exact(df (au (uZ T) hr T.q0d (aa (dv 0) (aa ag ah))))
   case' J=>refine' ao ?a ?b
   case a=>
    refine' bg (i:=7) uJ.nd rfl MH ?c (hs:=p7)
    case' c=>refine' nO dB d9 (df ?d) ?e
    case d=>
     refine' fe ?f
     case' f=>refine' g8 ?g
     case' g=>refine' aa ?h ?i
     case h=>exact(au (uZ T) hr T.q0d (aa (dv 0) (aa ag ah)))
     case' i=>refine' aa ?j ah
     case j=>exact(au (uZ T) hr T.q0d (aa (dv 0) (aa ag ah)))
    case e=>exact(df (PE.imp (lY wA rfl T.q0t wN (bz (dv 3) bw)) (cf w8)))
   case' b=>refine' ao ?k ?l
   case k=>
    refine' bg (i:=8) uJ.nd rfl MH ?m (hs:=p7)
    case' m=>refine' nO dB d9 (df ?n) ?o
    case n=>exact(fe (g8 (xv (ds:=[.str "days",.str "months",.str "years"]) (by rfl))))
    case o=>exact(df (br rg pd (au (uZ T) hr T.q0d (aa (dv 0) (aa ag ah))) (PE.imp (lY wA rfl T.q0t wN (bz (dv 3) bw)) (cf w8))))
   case' l=>refine' ao ?p ?q
   case p=>
    refine' bI ?r ?s bH
    case r=>exact(aN (GP hr) GQ (dv 4) (bq (aa aZ (aa aZ ah))) rfl)
    case' s=>refine' az ?t
    case' t=>refine' aM ?u
    case' u=>refine' bq ?v
    case' v=>refine' aa (dv 4) ?w
    case' w=>refine' aa (dv 5) ?x
    case' x=>refine' aa (dv 6) ?y
    case' y=>refine' aa (dv 7) ?z
    case z=>refine' aa (dv 8) ah
   case' q=>refine' az ?A0
   case A0=>exact(aM (bq (aa (dv 4) (aa (dv 5) ah))))
  case B=>
  clear hr T;walk_at "+bU true_and ";intro i i0 i1;obtain⟨wo,hw,ew⟩:=u5 [VY "keep",VY "gone",VY "gone",VY "while",VY "follow",VY "leave"] i0 (show i < ((6:Nat):Int) from i1)
  refine⟨_,ew,by rw[V0];omega,by rw[V0];omega,λj j0 j1=>?_⟩;obtain⟨kd,hkd,ek⟩:=u5 ks j0 (by rw[V0]at j1;exact j1);have kok:=hk kd hkd;have pool:∀i:Int,0<=i->i < 2->∃nm∈ps,atI (ps.map V8) i=some (.str nm):=λi i0 i1=>u5 ps i0 L8;refine⟨_,ek,λa a0 a1=>?_⟩;obtain⟨na,ha,ea⟩:=pool a a0 a1;refine⟨_,ea,λb b0 b1=>?_⟩;obtain⟨nb,hb,eb⟩:=pool b b0 b1;refine⟨_,eb,λc c0 c1=>?_⟩;obtain⟨s,es,os⟩:∃s:cJ,atI [WG [V8 (VY "coming")],WG [V8 (VY "first"),.str na],WG [V8 (VY "last"),.str nb]] c=some s.enc/\s.Ok:=by
   rcases(show c=0\/c=1\/c=2 by omega) with rfl|rfl|rfl
   ·exact⟨.com,rfl,trivial⟩
   ·exact⟨.fst na,rfl,hp na ha⟩
   ·exact⟨.lst nb,rfl,hp nb hb⟩
  refine⟨_,es,λx x0 x1 y y0 y1=>?_⟩;obtain⟨n,en,n0,n1⟩:∃n:Int,atI [Wa x,Wa y] (if f=true then 1 else 0)=some (.int n)/\0<=n/\n < 1000:=by
   cases f
   ·exact⟨x,bN,x0,L8⟩
   ·exact⟨y,cN,y0,y1⟩
  refine⟨_,en,λu u0 u1=>⟨.inl ⟨L8,L8⟩,?_⟩⟩;obtain⟨un,hu,eu⟩:=u5 [VY "days",VY "months",VY "years"] (i:=u*if f=true then 1 else 0) (by split<;>omega) (by show _ < ((3:Nat):Int);split<;>omega);refine⟨_,eu,fT,?_⟩;rw[bT,bT];simp only[Wc,XJ,or_false]at hw hu;have wl:wo=VY "keep"\/wo=VY "gone"\/((wo=VY "while"\/wo=VY "follow"\/wo=VY "leave")):=by
   rcases hw with h|h|h|h|h|h<;>simp only[h,true_or,or_true]
  by_cases hkg:KG wo
  ·rw[M8 (by rcases hkg with h|h<;>rw[h]<;>decide+kernel)];exact q (.five wo kd s n un) ⟨hkg,kok,os,n0,n1,hu⟩
  ·rw[M4 (λz=>hkg (by
    rw[Zn,beq_iff_eq,beq_iff_eq]at z;exact z.imp Eq.symm Eq.symm))]
   refine q (.two wo kd) ⟨hkg,?_,kok⟩;rcases hw with h|h|h|h|h|h<;>rw[h]<;>decide+kernel
structure qW (x:De):Prop where
 d0:0<=x.d/\x.d < 100000
 nm:V6 x.nm=true
 w:V6 x.w=true
 ly:cx 6 x.enc
 pp:∀p,x= .pap p->V6 p.kd=true/\(∀m∈p.ms,V6 m=true)/\p.ms.length<=50
 np:∀w d nm r,x= .oth w d nm r->w≠VY "paper"
 hp:∀d nm r,x= .oth (VY "happens") d nm r->∃wd,r=[.str wd]/\V6 wd=true
 ru:∀d nm r,x= .oth (VY "rule") d nm r->∃pt:Pt,r=[pt.enc]/\pt.Ok
 ho:∀d nm r,x= .oth (VY "hold") d nm r->∃(ip:Bool)(tn:Str)(dp:Bool),r=[om ip tn,.bool dp]/\V6 tn=true
 le:∀d nm r,x= .oth (VY "leave") d nm r->∃kd,r=[.str kd]/\V6 kd=true
 rl:∀w d nm r,x= .oth w d nm r->r.length<=5
def qr(x y:De):Prop:=x≠y/\(∀p q,x= .pap p->y= .pap q->p.nm≠q.nm)/\(x.isE=true->y.isE=true->¬(x.d=y.d/\x.nm=y.nm))/\(x.isL=true->y.isL=true->¬(x.d=y.d/\x.nm=y.nm))/\(x.w=VY "leave"->y.w=VY "leave"->x.nm≠y.nm)
def De.r:De->List L7
 | .pap p=>[.str p.kd,.tuple (p.ms.map .str)]
 | .oth _ _ _ r=>r
theorem tU(x:De):x.enc= .tuple (.str x.w:: .int x.d:: .str x.nm::x.r):=by cases x<;>rfl
theorem Lo(x:De):x.isE=true↔x.w=VY "rule"\/x.w=VY "end":=by
 cases x with
 |pap p=>exact⟨λh=>(nomatch h),λh=>absurd h (by show ¬(VY "paper"=_\/VY "paper"=_);decide+kernel)⟩
 |oth w d nm r=>simp[De.isE,De.w]
theorem ab4(x:De):x.isL=true↔x.w=VY "hold"\/x.w=VY "lift":=by
 cases x with
 |pap p=>exact⟨λh=>(nomatch h),λh=>absurd h (by show ¬(VY "paper"=_\/VY "paper"=_);decide+kernel)⟩
 |oth w d nm r=>simp[De.isL,De.w]
mutual
theorem vZ:∀d:L7,d.canLay0=true->Ws d d=true
 | .none,_=>by simp[Ws]
 | .bool _,_ | .int _,_ | .str _,_=>by simp[Ws]
 | .list xs,h=>by rw[Ws];exact El xs (by simpa [Xm]using h)
 | .tuple xs,h=>by rw[Ws];exact El xs (by simpa [Xm]using h)
 | .dict _,h=>by simp[Xm]at h
theorem El:∀ds:List L7,X0 ds=true->Ym ds ds=true
 | [],_=>by simp[Ym]
 |d::ds,h=>by
  rw[X0,Xs]at h;rw[Ym,vZ d h.1,El ds h.2];rfl
end
theorem Lp{a b:Int}{s u:Str}:Ws (.tuple [.int a,.str s]) (.tuple [.int b,.str u])=false->¬(a=b/\s=u):=by
 rintro h ⟨rfl,rfl⟩;simp[Ws,Ym]at h
def aa1:Fa:=λds Q=>∃x y:De,ds=[x.enc,y.enc]/\qW x/\qW y/\∀b:Bool,(b=false->qr x y)->Q (.bool b)
theorem Vk(T:Txt Z mg t):aB P w Z mg base MX 1 t.q1o t.q1p ["_law_one_here","_law_other"] (aQ Z aa1):=by
 refine T.q1J.F.okD Iz (λds Q h=>?_) (λ_ _ _ _ H O ds Q E hr h=>?_)
 ·obtain⟨x,y,rfl,_⟩:=h;rfl
 ·obtain⟨x,y,rfl,gx,gy,q⟩:=h;refine'⟨_,?A,?B⟩
  case A=>
   refine' ao ?C ?D
   case C=>
    refine' bI ?E ?F bH
    case E=>exact(aN (cF hr.units) cG (dv 0) (dv 1) (aD _))
    case F=>refine' az (aM rW)
   case' D=>refine' ao ?G ?H
   case G=>
    refine' bI ?I ?J bH
    case I=>exact(PW.pt (oW (F7 (cF hr.units) (mv hr) cG mw (df (aC aE aH (dv 0) ag)) (df (aC aE aH (dv 1) ag)) (df aZ)) (qB (F7 (cF hr.units) (mv hr) cG mw (df (aC aE aH (dv 0) ag)) (df (aC aE aH (dv 1) ag)) (df aZ)))))
    case' J=>refine' az ?K
    case' K=>refine' aM ?L
    case L=>exact(nz (cF hr.units) cG (df (aC aE aH (dv 0) ag)) (df (aC aE aH (dv 1) ag)) (aD _))
   case' H=>refine' ao ?M ?N
   case M=>
    refine' Ox XR rfl (fe (g8 (aa (bq (aa aZ (aa aZ ah))) (aa (bq (aa aZ (aa aZ ah))) ah)))) ?O aK ?P
    case O=>exact(aJ (i:=2) Iz.nd rfl MH)
    case' P=>refine' az ?Q
    case' Q=>refine' bI ?R ?S bH
    case R=>exact(PW.pt (nF (aN (vD hr) r6 (aC aE aH (dv 0) ag) (dv 2) rfl) (nA (aN (vD hr) r6 (aC aE aH (dv 1) ag) (dv 2) rfl))))
    case' S=>refine' az ?T
    case' T=>refine' aM ?U
    case U=>exact(nz (cF hr.units) cG (df (vE (df (dv 0)) (mq ag) (mq ag))) (df (vE (df (dv 1)) (mq ag) (mq ag))) (aD _))
   case N=>refine' az (aM rW)
  case B=>
  clear hr T;have ex:=gx.ly.shp MA;have ey:=gy.ly.shp MA;have ne:(x.enc).eqv y.enc=false->x≠y:=λh e=>by rw[e,vZ _ gy.ly.can]at h;cases h
  have two:∀z:De,V6 z.nm=true->ZQ (WG [Wa z.d,V8 z.nm])=true:=λz hz=>(nP (n:=1) λy hy=>by
   simp only[Wc,XJ,or_false]at hy;rcases hy with rfl|rfl
   ·exact xy
   ·exact pe hz).shp MA
  have tx:=two x gx.nm;have ty:=two y gy.nm;have ax:=cQ.mpr gx.w;have ay:=cQ.mpr gy.w;have bx:=cQ.mpr gx.nm;have by':=cQ.mpr gy.nm
  rw[tU]at ex;rw[tU]at ey;have pw:∀z:De,∀p,z= .pap p->z.w=VY "paper":=λz p e=>by rw[e];rfl
  have eE:=Lo;have eL:=ab4;have q:∀b:Bool,(b=false->(x.enc).eqv y.enc=false/\(x.w=VY "paper"->y.w=VY "paper"->x.nm≠y.nm)/\((x.w=VY "rule"\/x.w=VY "end")->(y.w=VY "rule"\/y.w=VY "end")->¬(x.d=y.d/\x.nm=y.nm))/\((x.w=VY "hold"\/x.w=VY "lift")->(y.w=VY "hold"\/y.w=VY "lift")->¬(x.d=y.d/\x.nm=y.nm))/\(x.w=VY "leave"->y.w=VY "leave"->x.nm≠y.nm))->Q (.bool b):=λb h=>q b λe=>by
   obtain⟨h1,h2,h3,h4,h5⟩:=h e;refine⟨ne h1,λp q e1 e2=>?_,λa b=>h3 ((eE x).mp a) ((eE y).mp b),λa b=>h4 ((eL x).mp a) ((eL y).mp b),h5⟩;have h2:=h2 (pw x p e1) (pw y q e2);rw[e1,e2]at h2;exact h2
  clear ne pw eE eL two gx gy;rw[tU,tU]at q;rw[tU,tU];generalize x.w=xw at*;generalize y.w=yw at*;generalize x.d=xd at*;generalize y.d=yd at*;generalize x.nm=xn at*;generalize y.nm=yn at*;generalize x.r=xr at*;generalize y.r=yr at*;walk_at "d";refine⟨ex,ey,?_⟩;clear ex ey;have c1:X0 [V8 (VY "rule"),V8 (VY "end")]=true:=MN
  have c2:X0 [V8 (VY "hold"),V8 (VY "lift")]=true:=MN
  simp only[ax,ay,bx,by',tx,ty,c1,c2,true_and];clear ax ay bx by' tx ty c1 c2
  split
  ·exact q true (λe=>by cases e)
  ·rename_i hn;rw[YD]at hn;have E':∀z:Str,(VY "rule"==z || VY "end"==z)=true↔(z=VY "rule"\/z=VY "end"):=λz=>by
    rw[Zn,beq_iff_eq,beq_iff_eq];exact⟨λh=>h.imp Eq.symm Eq.symm,λh=>h.imp Eq.symm Eq.symm⟩
   have L':∀z:Str,(VY "hold"==z || VY "lift"==z)=true↔(z=VY "hold"\/z=VY "lift"):=λz=>by
    rw[Zn,beq_iff_eq,beq_iff_eq];exact⟨λh=>h.imp Eq.symm Eq.symm,λh=>h.imp Eq.symm Eq.symm⟩
   have nw:∀{z:Str},(z=VY "rule"\/z=VY "end")\/(z=VY "hold"\/z=VY "lift")->z≠VY "paper"/\z≠VY "leave":=λ{z} h=>by
    rcases h with(h|h) | (h|h)<;>subst h<;>decide+kernel
   have cut:(xw=VY "rule"\/xw=VY "end")\/(xw=VY "hold"\/xw=VY "lift")->Q (Ya ((WG [Wa xd,V8 xn]).eqv (WG [Wa yd,V8 yn]))):=λhx=>q _ λe=>⟨hn,λa=>absurd a (nw hx).1,λ_ _=>Lp e,λ_ _=>Lp e,λa=>absurd a (nw hx).2⟩;have tl:¬(xw=VY "paper"/\yw=VY "paper")->¬(xw=VY "leave"/\yw=VY "leave")->if (VY "rule"==xw || VY "end"==xw)=true then if (VY "rule"==yw || VY "end"==yw)=true then Q (Ya ((WG [Wa xd,V8 xn]).eqv (WG [Wa yd,V8 yn]))) else(if (VY "hold"==xw || VY "lift"==xw)=true then if (VY "hold"==yw || VY "lift"==yw)=true then Q (Ya ((WG [Wa xd,V8 xn]).eqv (WG [Wa yd,V8 yn]))) else Q (Ya false) else Q (Ya false)) else(if (VY "hold"==xw || VY "lift"==xw)=true then if (VY "hold"==yw || VY "lift"==yw)=true then Q (Ya ((WG [Wa xd,V8 xn]).eqv (WG [Wa yd,V8 yn]))) else Q (Ya false) else Q (Ya false)):=λh1 h2=>by
    have no:¬((xw=VY "rule"\/xw=VY "end")/\(yw=VY "rule"\/yw=VY "end"))->(if (VY "hold"==xw || VY "lift"==xw)=true then if (VY "hold"==yw || VY "lift"==yw)=true then Q (Ya ((WG [Wa xd,V8 xn]).eqv (WG [Wa yd,V8 yn]))) else Q (Ya false) else Q (Ya false)):=λhE=>by
     by_cases a:(xw=VY "hold"\/xw=VY "lift")
     ·rw[M8 ((L' _).mpr a)];by_cases b:(yw=VY "hold"\/yw=VY "lift")
      ·rw[M8 ((L' _).mpr b)];exact cut (.inr a)
      ·rw[M4 (λz=>b ((L' _).mp z))];exact q _ λ_=>⟨hn,λx y=>absurd ⟨x,y⟩ h1,λx y=>absurd ⟨x,y⟩ hE,λ_ y=>absurd y b,λx y=>absurd ⟨x,y⟩ h2⟩
     ·rw[M4 (λz=>a ((L' _).mp z))];exact q _ λ_=>⟨hn,λx y=>absurd ⟨x,y⟩ h1,λx y=>absurd ⟨x,y⟩ hE,λx _=>absurd x a,λx y=>absurd ⟨x,y⟩ h2⟩
    by_cases a:(xw=VY "rule"\/xw=VY "end")
    ·rw[M8 ((E' _).mpr a)];by_cases b:(yw=VY "rule"\/yw=VY "end")
     ·rw[M8 ((E' _).mpr b)];exact cut (.inl a)
     ·rw[M4 (λz=>b ((E' _).mp z))];exact no λz=>b z.2
    ·rw[M4 (λz=>a ((E' _).mp z))];exact no λz=>a z.1
   have one:xw=yw->yw=VY "paper"\/yw=VY "leave"->Q (Ya (xn==yn)):=λh1 h2=>q _ λe=>by
    have e:=beq_eq_false_iff_ne.mp e;have hx:=h2;rw[<-h1]at hx;have nE:¬((xw=VY "rule"\/xw=VY "end")\/(xw=VY "hold"\/xw=VY "lift")):=λz=>hx.elim (nw z).1 (nw z).2;exact⟨hn,λ_ _=>e,λa=>absurd (.inl a) nE,λa=>absurd (.inr a) nE,λ_ _=>e⟩
   clear q cut;by_cases hW:xw=yw
   ·rw[M8 (by simpa using hW)];by_cases hP:yw=VY "paper"
    ·rw[M8 (by simpa using hP)];exact one hW (.inl hP)
    ·rw[M4 (by simpa using hP),M8 (by simpa using hW)];by_cases hV:yw=VY "leave"
     ·rw[M8 (by simpa using hV)];exact one hW (.inr hV)
     ·rw[M4 (by simpa using hV)];exact tl (λz=>hP z.2) (λz=>hV z.2)
   ·rw[M4 (by simpa using hW),M4 (by simpa using hW)];exact tl (λz=>hW (z.1.trans z.2.symm)) (λz=>hW (z.1.trans z.2.symm))
end
theorem Lq:aU (aq Ap) ["_law_pack_here","_law_sort","_law_pool_here","_law_kinds","_law_far","_law_day_here","_law_name","_law_other","_law_kind","_law_own","_law_target"] ["_law_one_here","_law_name","_law_pack_here"] 1 [6,0] ⟨V7,[ (V1 ".0",Mc),(V1 "_law_one_here",Mc),(V1 "_law_take",W4),(V1 "_law_name",Wi),(V1 "_law_pack_here",Wi)],false,false,[]⟩:= .of
theorem Vl(ha:V6 a=true)(hb:V6 b=true):cx 2 (.tuple [.str a,.str b]):=nP (cq (pe ha) (cq (pe hb) mW))
theorem Lr(hw:V6 w=true)(hn:V6 nm=true)(hr:∀y∈r,cx 5 y):cx 6 (.tuple (.str w:: .int d:: .str nm::r)):=
 nP (cq ((pe hw).mono MA) (cq (xy.mono MA) (cq ((pe hn).mono MA) hr)))
structure aak (w:Str) (r:List L7):Prop where
 np:w≠VY "paper"
 hp:w=VY "happens"->∃wd,r=[.str wd]/\V6 wd=true
 ru:w=VY "rule"->∃pt:Pt,r=[pt.enc]/\pt.Ok
 ho:w=VY "hold"->∃(ip:Bool)(tn:Str)(dp:Bool),r=[om ip tn,.bool dp]/\V6 tn=true
 le:w=VY "leave"->∃kd,r=[.str kd]/\V6 kd=true
 ln:r.length<=5
theorem v5(d0:0<=d/\d < 100000)(hw:V6 w=true)(hn:V6 nm=true)(hr:∀y∈r,cx 5 y)(o:aak w r):qW (.oth w d nm r):=by
 refine⟨d0,hn,hw,Lr hw hn hr,λp e=>(by cases e),λw' d' nm' r' e=>(by cases e;exact o.np),λd' nm' r' e=>(by cases e;exact o.hp rfl),λd' nm' r' e=>(by cases e;exact o.ru rfl),λd' nm' r' e=>(by cases e;exact o.ho rfl),λd' nm' r' e=>(by cases e;exact o.le rfl),λw' d' nm' r' e=>(by cases e;exact o.ln)⟩
theorem Vn{p:Pp}(d0:0<=p.d/\p.d < 100000)(hn:V6 p.nm=true)(hk:V6 p.kd=true)(hm:∀m∈p.ms,V6 m=true)(hl:p.ms.length<=50):qW (.pap p):=by
 refine⟨d0,hn,DC,Lr DC hn (cq ((pe hk).mono MA) (cq ((nP (BV (n:=1) hm)).mono MA) mW)),λp' e=>(by cases e;exact⟨hk,hm,hl⟩),λw' d' nm' r' e=>(by cases e),λd' nm' r' e=>(by cases e),λd' nm' r' e=>(by cases e),λd' nm' r' e=>(by cases e),λd' nm' r' e=>(by cases e),λw' d' nm' r' e=>(by cases e)⟩
theorem Lu(ss:List Str)(lo hi:Option Int):∃ms:List Str,cM (ss.map V8) lo hi=ms.map .str/\(∀m∈ms,m∈ss)/\ms.length<=ss.length:=by
 unfold cM;rw[<-List.map_drop,<-R0];exact⟨_,rfl,λm hm=>Zz (YV hm),by rw[Xr,YO];omega⟩
theorem AX:∀i:Nat,i < 6->i=0\/i=1\/i=2\/i=3\/i=4\/i=5:=MA
def sW(w:Str):Nat:=if w="paper" then 0 else if w="rule" then 1 else if w="happens" then 2 else if w="hold" then 3 else if w="end"\/w="lift" then 4 else 5
def sN(x:De):Nat:=sW x.w
theorem qX:sW "paper"=0/\sW "rule"=1/\sW "happens"=2/\sW "hold"=3/\sW "end"=4/\sW "lift"=4/\sW "leave"=5:=MN
def Vo:Fa:=λds Q=>∃(so:Nat)(ps ks:List Str)(f:Bool),ds=[pV,.int (so:Int),.list (ps.map .str),.list (ks.map .str),.bool f]/\so<=5/\ps.length=5/\0 < ks.length/\ks.length<=10/\(∀z∈ks,V6 z=true)/\(∀z∈ps,V6 z=true)/\∀x:De,qW x->sN x=so->x.nm∈ps->Q x.enc
theorem oQ{c:DB}{E:nN}(h:∀R,R=r->c Y λb=>if b=true then t {E with nx:=R E} Y else R E Y):cB (cw c t d4) r E Y:=h r rfl
theorem acC(T:Txt Z mg t):aB P w Z mg base MX 4 t.q1m t.q1n ["_law_pack_here","_law_sort","_law_pool_here","_law_kinds","_law_far"] (aQ Z Vo):=by
 refine T.q1I.F.okD tG (λds Q h=>?_) (λ_ _ _ _ H O ds Q E hr h=>?_)
 ·obtain⟨so,ps,ks,f,rfl,_⟩:=h;rfl
 ·obtain⟨so,ps,ks,f,rfl,s5,p5,k0,k1,hk,hp,q⟩:=h;refine'⟨_,?A,?B⟩
  case A=>
   refine' ao ?C ?D
   case C=>exact(bg (i:=5) tG.nd rfl MH (au (U9 T) hr T.q1G (aa (dv 0) (aa (dv 4) ah))))
   case' D=>refine' ao ?E ?F
   case E=>exact(wX (bq (aa (aC dB d9 (dv 2) (au (uZ T) hr T.q0d (aa (dv 0) (aa (PE.imp (dA qy rfl T.q0i Yt (bz (dv 2) bw)) (cf qD)) ah)))) (aa (aC dB d9 (dv 2) (au (uZ T) hr T.q0d (aa (dv 0) (aa (PE.imp (dA qy rfl T.q0i Yt (bz (dv 2) bw)) (cf qD)) ah)))) ah))) (oH (n:=2) rfl (cE (aJ (i:=6) tG.nd rfl MH) (cE (aJ (i:=7) tG.nd rfl MH) oG))) (oY (cU aK (cU aK oX))))
   case' F=>refine' ao ?G ?H
   case G=>
    refine' bg (i:=8) tG.nd rfl MH ?I (hs:=p7)
    case' I=>refine' nO dB d9 (df (dv 3)) ?J
    case J=>exact(df (au (uZ T) hr T.q0d (aa (dv 0) (aa (PE.imp (dA qy rfl T.q0i Yt (bz (dv 3) bw)) (cf qD)) ah))))
   case' H=>refine' ao ?K ?L
   case K=>
    refine' bI ?M ?N bH
    case M=>exact(aN (cF hr.units) cG (dv 1) ag (aD _))
    case' N=>refine' ao ?O ?P
    case O=>
     refine' bg (i:=9) tG.nd rfl MH ?Q (hs:=p7)
     case' Q=>refine' fe ?R
     case R=>exact(vA (df (fe (mJ rfl Lq (df (dv 2)) aK bS MA (λ_ _ _ _=>(aJ (i:=0) Lq.nd rfl MH)) (λ_ _ _ _=>(eM (PW.pt (nF (aN (rE hr.units) rF (dv 0) (dv 1) (aD _)) (nA (aN (cF hr.units) cG (au (uZ T) hr T.q0d (aa (dv 2) (aa ag ah))) ag (aD _))))))) (λ_ _ _ _=>(dv 0))))) p6 (mq ag))
    case' P=>refine' az ?S
    case' S=>refine' aM ?T
    case' T=>refine' bq ?U
    case' U=>refine' aa aZ ?V
    case' V=>refine' aa (dv 5) ?W
    case' W=>refine' aa (dv 6) ?X
    case' X=>refine' aa (dv 8) ?Y
    case' Y=>refine' aa ?Z ah
    case Z=>exact(PE.imp (lY nX rfl T.q0h ny (bz (fe (aeu rfl T.q0k YC (bz (dv 9) bw))) bw)) (cf n5))
   case' L=>refine' ao ?a ?b
   case a=>
    refine' bI ?c ?d bH
    case c=>exact(aN (cF hr.units) cG (dv 1) ag (aD _))
    case' d=>refine' az ?e
    case' e=>refine' aM ?f
    case' f=>refine' bq ?g
    case' g=>refine' aa aZ ?h
    case' h=>refine' aa (dv 5) ?i
    case' i=>refine' aa (dv 6) ?j
    case' j=>refine' aa ?k ah
    case k=>exact(au (abv T) hr T.q1H (aa (dv 0) (aa (dv 3) (aa (dv 2) (aa (dv 4) ah)))))
   case' b=>refine' ao ?l ?m
   case l=>
    refine' bI ?n ?o bH
    case n=>exact(aN (cF hr.units) cG (dv 1) ag (aD _))
    case' o=>refine' az ?p
    case' p=>refine' aM ?q
    case' q=>refine' bq ?r
    case' r=>refine' aa aZ ?s
    case' s=>refine' aa (dv 5) ?t
    case' t=>refine' aa (dv 6) ?u
    case' u=>refine' aa ?v ah
    case v=>exact(aC dB d9 (dv 2) (au (uZ T) hr T.q0d (aa (dv 0) (aa ag ah))))
   case' m=>refine' ao ?w ?x
   case w=>
    refine' bI ?y ?z bH
    case y=>exact(aN (cF hr.units) cG (dv 1) ag (aD _))
    case' z=>refine' ao ?A0 ?A1
    case A0=>
     refine' bg (i:=10) tG.nd rfl MH ?A2 (hs:=p7)
     case' A2=>refine' nO dB d9 (df ?A3) ?A4
     case A3=>
      refine' fe ?A5
      case' A5=>refine' g8 ?A6
      case' A6=>refine' aa ?A7 ?A8
      case A7=>exact(bq (aa aZ (aa (dv 7) ah)))
      case' A8=>refine' aa ?A9 ah
      case A9=>exact(bq (aa aZ (aa (dv 8) ah)))
     case A4=>exact(df (au (uZ T) hr T.q0d (aa (dv 0) (aa ag ah))))
    case' A1=>refine' az ?AA
    case' AA=>refine' aM ?AB
    case' AB=>refine' bq ?AC
    case' AC=>refine' aa aZ ?AD
    case' AD=>refine' aa (dv 5) ?AE
    case' AE=>refine' aa (dv 6) ?AF
    case' AF=>refine' aa (dv 10) ?AG
    case' AG=>refine' aa ?AH ah
    case AH=>exact(nz (cF hr.units) cG (df (au (uZ T) hr T.q0d (aa (dv 0) (aa ag ah)))) (df ag) (aD _))
   case' x=>refine' ao ?AI ?AJ
   case AI=>
    refine' bI ?AK ?AL bH
    case AK=>exact(aN (cF hr.units) cG (dv 1) ag (aD _))
    case' AL=>refine' az ?AM
    case' AM=>refine' aM ?AN
    case' AN=>refine' nO dB d9 (df ?AO) ?AP
    case AO=>
     refine' fe ?AQ
     case' AQ=>refine' g8 ?AR
     case' AR=>refine' aa ?AS ?AT
     case AS=>exact(bq (aa aZ (aa (dv 5) (aa (dv 6) ah))))
     case' AT=>refine' aa ?AU ah
     case AU=>exact(bq (aa aZ (aa (dv 5) (aa (dv 6) ah))))
    case AP=>exact(df (au (uZ T) hr T.q0d (aa (dv 0) (aa ag ah))))
   case' AJ=>refine' az ?AV
   case AV=>exact(aM (bq (aa aZ (aa (dv 5) (aa (dv 6) (aa (dv 8) ah))))))
  case B=>
  clear hr T;generalize hB:cB (cw _ _ _) _=TB;walk_at "+bU true_and "
  refine⟨f,rfl,λd d0=>?_⟩;dsimp only;rw[V0,V0];have pick:∀i:Int,0<=i->i < (ps.length:Int)->∃nm∈ps,atI (ps.map V8) i=some (.str nm):=λi i0 i1=>u5 ps i0 i1;refine⟨L8,L8,λa a0 a1=>?_⟩;obtain⟨nm,hm,em⟩:=pick a a0 a1;refine⟨_,em,L8,L8,λb b0 b1=>?_⟩;obtain⟨no,ho,eo⟩:=pick b b0 b1;refine⟨_,eo,L8,L8,λc c0 c1=>?_⟩;obtain⟨kd,hd,ed⟩:=u5 ks c0 c1;refine⟨_,ed,?_⟩;have kok:=hk kd hd;have nok:=hp nm hm;have ook:=hp no ho;have l1:∀{s:Str},V6 s=true->cx 5 (.str s):=λh=>(pe h).mono MA;subst hB;refine oQ λR hR=>?_;walk_at "+bU true_and "
  by_cases e0:so=0
  ·subst e0;rw[M8 MA];clear hR;refine⟨by rw[V0];omega,abB (λx hx R S hR hS=>?_) λys hy=>?_⟩
   ·obtain⟨z,hz,rfl⟩:=Wb.mp hx;walk_at "+bU true_and ";refine⟨cQ.mpr (hp z hz),cQ.mpr nok,?_⟩
    split
    ·intro i i0 i1;split
     ·exact hR
     ·exact hS
    ·exact hS
   ·obtain⟨zs,hz,rfl⟩:=List.sublist_map_iff.mp hy;obtain⟨ms,em',m1,m2⟩:=Lu zs none (some 4);have zl:zs.length<=5:=by have:=hz.length_le;omega
    have sp:=rJ ms;refine⟨ms,em',L8,q (.pap ⟨d,nm,kd,mL ms⟩) (Vn d0 nok kok (λm hm=>hp m (hz.subset (m1 m (sp.mem_iff.mp hm)))) (by rw[sp.length_eq];omega)) ?_ hm⟩;exact qX.1
  rw[M4 (by rw[beq_iff_eq];omega)];subst hR;refine oQ λR hR=>?_;walk_at "+bU true_and "
  by_cases e1:so=1
  ·subst e1;rw[M8 MA];clear hR;refine⟨ks,ps,f,rfl,k0,k1,L8,L8,hk,hp,λpt hpt=>q (.oth (VY "rule") d nm [pt.enc]) (v5 d0 MN nok (cq ((Pt.lay hpt).mono MA) mW) ⟨MN,λh=>absurd h MN,λ_=>⟨pt,rfl,hpt⟩,λh=>absurd h MN,λh=>absurd h MN,MC⟩) ?_ hm⟩;exact qX.2.1
  rw[M4 (by rw[beq_iff_eq];omega)];subst hR;refine oQ λR hR=>?_;walk_at "+bU true_and "
  by_cases e2:so=2
  ·subst e2;rw[M8 MA];clear hR;intro i i0 i1;obtain⟨wd,hw,ew⟩:=pick i i0 L8;refine⟨_,ew,q (.oth (VY "happens") d nm [.str wd]) (v5 d0 MN nok (cq (l1 (hp wd hw)) mW) ⟨MN,λ_=>⟨wd,rfl,hp wd hw⟩,λh=>absurd h MN,λh=>absurd h MN,λh=>absurd h MN,MC⟩) ?_ hm⟩;exact qX.2.2.1
  rw[M4 (by rw[beq_iff_eq];omega)];subst hR;refine oQ λR hR=>?_;walk_at "+bU true_and "
  by_cases e3:so=3
  ·subst e3;rw[M8 MA];clear hR;intro i i0 i1;obtain⟨v,ev,hv⟩:=vt (xs:=[WG [V8 (VY "paper"),.str no],WG [V8 (VY "kind"),.str kd]]) i0 (show i < ((2:Nat):Int) from i1);obtain⟨ip,z,rfl,hz⟩:∃(ip:Bool)(z:Str),v=om ip z/\V6 z=true:=by
    simp only[Wc,XJ,or_false]at hv;rcases hv with rfl|rfl
    ·exact⟨true,no,rfl,ook⟩
    ·exact⟨false,kd,rfl,kok⟩
   have ly:cx 5 (om ip z):=(Vl (by cases ip<;>decide+kernel) hz).mono MA;refine⟨_,ev,λj j0 j1=>q (.oth (VY "hold") d nm [om ip z,.bool (j==0)]) (v5 d0 MN nok (cq ly (cq (O4.mono MA) mW)) ⟨MN,λh=>absurd h MN,λh=>absurd h MN,λ_=>⟨ip,z,_,rfl,hz⟩,λh=>absurd h MN,MC⟩) ?_ hm⟩;exact qX.2.2.2.1
  rw[M4 (by rw[beq_iff_eq];omega)];subst hR;refine oQ λR hR=>?_;walk_at "+bU true_and "
  by_cases e4:so=4
  ·subst e4;rw[M8 MA];clear hR;intro i i0 i1;have fin:∀w:Str,w=VY "end"\/w=VY "lift"->Q (.tuple [.str w,.int d,.str nm]):=λw hw=>by
    refine q (.oth w d nm []) (v5 d0 (by rcases hw with h|h<;>rw[h]<;>decide+kernel) nok mW (by rcases hw with rfl|rfl<;>exact⟨MN,λh=>absurd h MN,λh=>absurd h MN,λh=>absurd h MN,λh=>absurd h MN,MC⟩)) ?_ hm;rcases hw with rfl|rfl
    ·exact qX.2.2.2.2.1
    ·exact qX.2.2.2.2.2.1
   rcases(show i=0\/i=1 by omega) with rfl|rfl
   ·exact⟨_,bN,fin _ (.inl rfl)⟩
   ·exact⟨_,cN,fin _ (.inr rfl)⟩
  rw[M4 (by rw[beq_iff_eq];omega)];subst hR;obtain rfl:so=5:=by rcases AX so (Nat.lt_succ_of_le s5) with h|h|h|h|h|h<;>first|exact h|exact absurd h (by assumption)
  walk_at "+bU true_and ";exact q (.oth (VY "leave") d nm [.str kd]) (v5 d0 MN nok (cq (l1 kok) mW) ⟨MN,λh=>absurd h MN,λh=>absurd h MN,λh=>absurd h MN,λ_=>⟨kd,rfl,kok⟩,MC⟩) qX.2.2.2.2.2.2 hm
theorem Lv:aU (aq Aq) ["_law_script","_law_head","_law_pool_here","_law_kinds","_law_far","_law_many","_law_found","_law_at","_law_sort","_law_k","_law_deed"] ["_law_other","_law_deed"] 1 [10] ⟨V7,[ (V1 ".0",Mc),(V1 "_law_other",Mc),(V1 "_law_quarrel",W4),(V1 "_law_deed",Wi)],false,false,[]⟩:= .of
def nB(i:Nat):Nat:=[5,6,4,2,2,2].getD i 0
def sI:Nat->List Nat
 |0=>[]
 |i+1=>sI i++Wj (nB i) i
theorem Lw{f:De->Bool}(h:∀x,f x=true->sN x=s):∀xs:List De,(xs.filter f).length<=((xs.map sN).filter (·==s)).length
 | []=>V4 _
 |x::xs=>by
  have ih:=Lw h xs;rw[W6,V2,W6];by_cases hf:f x=true
  ·rw[M8 hf,M8 (by rw[h x hf];exact beq_self_eq_true _)];exact Nat.succ_le_succ ih
  ·rw[M4 hf];split
   ·exact Nat.le_succ_of_le ih
   ·exact ih
theorem Em{f:De->Bool}{xs:List De}(sl:(xs.map sN).Sublist (sI 6))(hn:((sI 6).filter (·==s)).length=n)(h:∀x,f x=true->sN x=s):(xs.filter f).length<=n:=by
 rw[<-hn];exact Wy (Lw h xs) (sl.filter _).length_le
theorem qr.symm(h:qr x y):qr y x:=⟨λe=>h.1 e.symm,λp q e1 e2 e=>h.2.1 q p e2 e1 e.symm,λa b e=>h.2.2.1 b a ⟨e.1.symm,e.2.symm⟩,λa b e=>h.2.2.2.1 b a ⟨e.1.symm,e.2.symm⟩,λa b e=>h.2.2.2.2 b a e.symm⟩
structure Dr (np nr nh:Nat) (xs:List De):Prop where
 it:∀x∈xs,qW x
 pw:xs.Pairwise qr
 ln:xs.length<=21
 cP:(aI xs).length<=np
 cR:(xs.filter De.isR).length<=nr
 cH:(xs.filter De.isH).length<=nh
theorem Dr.of(it:∀x∈xs,qW x)(pw:xs.Pairwise qr)(sl:(xs.map sN).Sublist (sI 6)):Dr 5 6 4 xs:=by
 have ln:xs.length<=21:=by have:=sl.length_le;rwa [V0]at this
 have pl:(aI xs).length<=5:=by
  have h1:=Em (f:=qa λ_=>true) sl (n:=5) (s:=0) MN (λx hx=>by cases x with|pap p=>exact qX.1|oth=>cases hx);have h2:=congrArg ZD (uM (f:=λ_=>true) xs);rw[pB,V0,V0]at h2;omega
 refine⟨it,pw,ln,pl,?_,?_⟩
 ·exact Em sl (s:=1) MN (λx hx=>by cases x with|pap p=>cases hx|oth w d nm r=>rw[show sN (.oth w d nm r)=sW w from rfl,eq_of_beq hx];exact qX.2.1)
 ·exact Em sl (s:=2) MN (λx hx=>by cases x with|pap p=>cases hx|oth w d nm r=>rw[show sN (.oth w d nm r)=sW w from rfl,eq_of_beq hx];exact qX.2.2.1)
theorem Dr.sub{xs ys:List De}(d:Dr np nr nh xs)(h:ys.Sublist xs):Dr np nr nh ys:=
 ⟨λx hx=>d.it x (h.subset hx),d.pw.sublist h,Wy h.length_le d.ln,Wy (h.filterMap _).length_le d.cP,Wy (h.filter _).length_le d.cR,Wy (h.filter _).length_le d.cH⟩
theorem Dr.good(h:Dr np nr nh xs):bX xs:=by
 have it:=h.it;have pw:=h.pw;have ln:=h.ln;clear h;have pg:∀p∈aI xs,qW (.pap p):=λp hp=>it _ (IX.mp hp);have pl:(aI xs).length<=xs.length:=Zh De.pp xs;have two:∀{A:De->De->Prop},(∀x y,qr x y->¬A x y)->(∀x y,A x y->A y x)->∀x∈xs,∀y∈xs,A x y->x=y:=λ{A} h sy x hx y hy a=>by
  clear it pg pl ln
  induction xs with
  |nil=>cases hx
  |cons z xs ih=>
   rw[XO]at pw;rcases Wc.mp hx with e1|h1
   ·rcases Wc.mp hy with e2|h2
    ·rw[e1,e2]
    ·exact absurd (by rw[<-e1];exact a) (h z y (pw.1 y h2))
   ·rcases Wc.mp hy with e2|h2
    ·exact absurd (by rw[<-e2];exact sy _ _ a) (h z x (pw.1 x h1))
    ·exact ih pw.2 h1 h2
 refine⟨⟨⟨⟨L8,?_,λp hp=>(pg p hp).nm,λp hp=>((pg p hp).pp p rfl).1,λp hp=>((pg p hp).pp p rfl).2⟩,λw d nm r h=>(it _ h).np w d nm r rfl,L8,λx hx=>(it x hx).w,λx hx=>(it x hx).nm⟩,λd nm r h=>(it _ h).hp d nm r rfl,λd nm r h=>(it _ h).ru d nm r rfl,pw.imp λh=>h.1,λx hx=>(it x hx).d0,λx hx y hy a1 a2 a3 a4=>?_⟩,λd nm r h=>(it _ h).ho d nm r rfl,λd nm r h=>(it _ h).le d nm r rfl,λx hx y hy a1 a2 a3 a4=>?_,λx hx y hy a1 a2 a3=>?_⟩
 ·rw[ZZ,X1];refine pw.filterMap De.pp λa b h p hp q hq=>?_;cases a with
  |oth=>cases hp
  |pap p'=>
   cases b with
   |oth=>cases hq
   |pap q'=>cases hp;cases hq;exact h.2.1 _ _ rfl rfl
 ·exact two (A:=λx y=>x.isE=true/\y.isE=true/\x.d=y.d/\x.nm=y.nm) (λx y h a=>h.2.2.1 a.1 a.2.1 a.2.2) (λx y a=>⟨a.2.1,a.1,a.2.2.1.symm,a.2.2.2.symm⟩) x hx y hy ⟨a1,a2,a3,a4⟩
 ·exact two (A:=λx y=>x.isL=true/\y.isL=true/\x.d=y.d/\x.nm=y.nm) (λx y h a=>h.2.2.2.1 a.1 a.2.1 a.2.2) (λx y a=>⟨a.2.1,a.1,a.2.2.1.symm,a.2.2.2.symm⟩) x hx y hy ⟨a1,a2,a3,a4⟩
 ·exact two (A:=λx y=>x.w=VY "leave"/\y.w=VY "leave"/\x.nm=y.nm) (λx y h a=>h.2.2.2.2 a.1 a.2.1 a.2.2) (λx y a=>⟨a.2.1,a.1,a.2.2.symm⟩) x hx y hy ⟨a1,a2,a3⟩
theorem aar(l:List (Int×Str)):(qM l).length<=l.length:=by
 unfold qM;split
 ·rename_i h;exact Qz h.choose_spec.1.length_eq
 ·exact Xe _
theorem Lx{α:Type}{p q:α->Bool}(h:∀x,p x=true->q x=true):∀xs:List α,(xs.filter p).length+((xs.filter λx=>!p x).filter q).length<=(xs.filter q).length
 | []=>V4 _
 |x::xs=>by
  have ih:=Lx h xs;by_cases hp:p x=true
  ·rw[W6,M8 hp,W6,M4 (by rw[hp];exact We),W6,M8 (h x hp),V5,V5];omega
  ·rw[W6,M4 hp,W6,M8 (by rw[YD]at hp;rw[hp];rfl),W6,W6];by_cases hq:q x=true
   ·rw[M8 hq,M8 hq,V5,V5];omega
   ·rw[M4 hq,M4 hq];exact ih
theorem En(h:mn nm x=true):x.isH=true/\x.nm=nm:=by
 cases x with
 |pap p=>cases h
 |oth w d n r=>
  simp only[mn,Xs,beq_iff_eq]at h;exact⟨by simp[De.isH,h.1],h.2⟩
theorem Ly:∀{nms:List Str},nms.Nodup->∀xs:List De,(nms.map λnm=>(xs.filter (mn nm)).length).sum<=(xs.filter De.isH).length
 | [],_,_=>Xe _
 |nm::nms,nd,xs=>by
  rw[XW]at nd;have ih:=Ly nd.2 (xs.filter λx=>!mn nm x);have sp:=Lx (p:=mn nm) (q:=De.isH) (λx h=>(En h).1) xs;have e:(nms.map λnm'=>((xs.filter λx=>!mn nm x).filter (mn nm')).length)=nms.map λnm'=>(xs.filter (mn nm')).length:=by
   refine Y0 λnm' hn=>?_;rw[U8];congr 2;funext x;by_cases h:mn nm' x=true
   ·have h2:mn nm x=false:=by
     rw[<-YD];intro z;exact nd.1 (by rw[<-(En z).2,(En h).2];exact hn)
    rw[h,h2];rfl
   ·rw[YD]at h;rw[h];rfl
  rw[e]at ih;rw[V2,Zj];omega
theorem v7{α β:Type}{f:α->List β}{g:α->Nat}:∀{l:List α},(∀x∈l,(f x).length<=g x)->(l.flatMap f).length<=(l.map g).sum
 | [],_=>Xe _
 |x::l,h=>by
  have ih:=v7 (f:=f) (g:=g) (l:=l) λy hy=>h y (Wu _ hy);have h1:=h x WR;rw[YI,Wt,V2,Zj];omega
theorem Lz{α:Type}:∀l:List α,(l.map λ_=>1).sum=l.length
 | []=>rfl
 |_::l=>by rw[V2,Zj,Lz l,V5];omega
theorem acf(h:Dr np nr nh xs)(kd:Str)(s:cJ)(k:Int)(u:Str):(pH (mB xs) kd s k u).length<=max np nh:=by
 have rl:(mB xs).length=(aI xs).length:=by unfold mB;rw[V0,qJ]
 have c1:=h.cP;have c3:=h.cH;have hap:∀wd:Str,((mB xs).map λr=>(mP r.hs wd).length).sum<=nh:=λwd=>by
  have nd:((bV (aI xs)).map (·.nm)).Nodup:=((pz _).map _).nodup_iff.mpr h.good.gd.gx.gp.nd;have hs:=Ly nd xs;have le:((mB xs).map λr=>(mP r.hs wd).length).sum<=(((bV (aI xs)).map (·.nm)).map λnm=>(xs.filter (mn nm)).length).sum:=by
   unfold mB;rw[Wk,Wk];generalize bV (aI xs)=cs
   induction cs with
   |nil=>exact V4 _
   |cons c cs ih=>
    rw[V2,V2,Zj,Zj];have h1:(mP (dh xs c).hs wd).length<=(xs.filter (mn c.nm)).length:=by
     unfold mP;rw[V0];refine Wy (Xi _ _) (Wy (aar _) ?_);unfold nI;rw[V0];exact V4 _
    exact Nat.add_le_add h1 ih
  omega
 unfold pH;cases s with
 |com=>
  have:=v7 (f:=λr:Rp=>if (r.c.kd==kd)=true then(tK r .com).map λb=>qO b k u else []) (g:=λ_=>1) (l:=mB xs) (λr _=>by
   split
   ·rw[V0];exact V4 _
   ·exact Xe _)
  rw[Lz]at this;omega
 |fst wd=>
  have:=v7 (f:=λr:Rp=>if (r.c.kd==kd)=true then(tK r (.fst wd)).map λb=>qO b k u else []) (g:=λr=>(mP r.hs wd).length) (l:=mB xs) (λr _=>by
   split
   ·rw[V0];show((mP r.hs wd).take 1).length<=_;rw[Xr];omega
   ·exact Xe _)
  have:=hap wd;omega
 |lst wd=>
  have:=v7 (f:=λr:Rp=>if (r.c.kd==kd)=true then(tK r (.lst wd)).map λb=>qO b k u else []) (g:=λr=>(mP r.hs wd).length) (l:=mB xs) (λr _=>by
   split
   ·rw[V0];exact V4 _
   ·exact Xe _)
  have:=hap wd;omega
theorem acz(h:Dr np nr nh xs)(hx:x∈xs):(gU xs x).length<=if x.isR=true then max np nh else 0:=by
 by_cases e:gU xs x=[]
 ·rw[e];exact Xe _
 ·have hr:x.isR=true:=by
   rw[<-QX];exact λz=>e (DU z)
  rw[M8 hr];cases x with
  |pap p=>cases hr
  |oth wo d nm r=>
   have hw:wo=VY "rule":=eq_of_beq hr;subst hw;obtain⟨pt,rfl,ok⟩:=(h.it _ hx).ru d nm r rfl;cases pt with
   |two w2 kd=>exact absurd (JS _ _ _ _ _ _) e
   |five w2 kd s k u=>
    rw[JR];exact acf h kd s k u
theorem LA(m:Nat):∀xs:List De,(xs.map λx=>if x.isR=true then m else 0).sum=m*(xs.filter De.isR).length
 | []=>rfl
 |x::xs=>by
  rw[V2,Zj,LA m xs,W6];split
  ·rw[V5,Rl];omega
  ·omega
theorem Dr.few(h:Dr np nr nh xs)(hn:21+max np nh*nr < 64):qP xs:=by
 have fb:=v7 (f:=gU xs) (l:=xs) λx hx=>acz h hx;rw[LA]at fb;have ln:=h.ln;have mm:=Sb (max np nh) h.cR;have tl:(qi xs).length < 64:=by
  unfold qi;rw[Wt,V0];omega
 exact⟨L8,qi xs,tl,λz hz=>hz⟩
def Vt:Fa:=λds Q=>∃ns:List Int,ds=[oU (ns.map .int)]/\(∀z∈ns,XT z<=1048576)/\∀(xs:List De)(pl:List Str),Dr 5 6 4 xs->pl.length=5->(∀x∈xs,x.nm∈pl)->Q (.tuple (xs.map De.enc))
theorem ab9(T:Txt Z mg t):aB P w Z mg base MX 5 t.q1q t.q1r ["_law_script"] (aQ Z Vt):=by
 refine T.q1K.F.okD px (λds Q h=>?_) (λ_ _ _ _ H O ds Q E hr h=>?_)
 ·obtain⟨ns,rfl,_⟩:=h;rfl
 ·obtain⟨ns,rfl,hb,q⟩:=h;refine'⟨_,?A,?B⟩
  case A=>
   refine' ao ?C ?D
   case C=>exact(bg (i:=1) px.nd rfl MH (au (UZ T) hr T.F_z (aa (dv 0) (aa ag ah))))
   case' D=>refine' ao ?E ?F
   case E=>exact(bg (i:=2) px.nd rfl MH (au (Vf T) hr T.q0T (aa (dv 1) (aa ag ah))))
   case' F=>refine' ao ?G ?H
   case G=>
    refine' bg (i:=3) px.nd rfl MH ?I (hs:=p7)
    case I=>exact(fe (vA (df (au (Vf T) hr T.q0T (aa (dv 1) (aa ag ah)))) p6 (mq (br bF cu ag (PE.imp (lY wA rfl T.q0t wN (bz (nz (cF hr.units) cG (df (au (uZ T) hr T.q0d (aa (dv 1) (aa ag ah)))) (df ag) (aD _)) bw)) (cf w8))))))
   case' H=>refine' ao ?J ?K
   case J=>exact(bg (i:=4) px.nd rfl MH (nz (cF hr.units) cG (df (au (uZ T) hr T.q0d (aa (dv 1) (aa ag ah)))) (df ag) (aD _)))
   case' K=>refine' ao ?L ?M
   case L=>
    generalize hG11:Qw _ _=eg11;refine' pY (i:=5) px.nd rfl MH ?N (hs:=by subst hG11;exact Po)
    case' N=>subst hG11
    refine' g8 ?O
    case' O=>refine' aa ?P ?Q
    case P=>exact(br bF cu ag (au (uZ T) hr T.q0d (aa (dv 1) (aa ag ah))))
    case' Q=>refine' aa ?R ?S
    case R=>exact(br bF cu ag (au (uZ T) hr T.q0d (aa (dv 1) (aa ag ah))))
    case' S=>refine' aa ?T ?U
    case T=>exact(au (uZ T) hr T.q0d (aa (dv 1) (aa ag ah)))
    case' U=>refine' aa ?V ?W
    case V=>exact(au (uZ T) hr T.q0d (aa (dv 1) (aa ag ah)))
    case' W=>refine' aa ?X ah
    case X=>exact(au (uZ T) hr T.q0d (aa (dv 1) (aa ag ah)))
   case' M=>refine' ao ?Y ?Z
   case Y=>exact(rD (i:=5) (pv 5) (au (uZ T) hr T.q0d (aa (dv 1) (aa ag ah))))
   case' Z=>refine' ao ?a ?b
   case a=>exact(pY (i:=6) px.nd rfl MH (g8 ah))
   case' b=>refine' ao ?c ?d
   case c=>exact(bg (i:=7) px.nd rfl MH ag)
   case' d=>refine' ao ?e ?f
   case e=>
    refine' BF XR rfl rfl T.q0j (aa ag ah) ?g aK ?h
    case g=>exact(aJ (i:=8) px.nd rfl MH)
    case' h=>refine' az ?i
    case' i=>refine' BF XR rfl rfl T.q0j (aa (nO dB d9 (dw 5) (df (dv 8))) ah) ?j aK ?k
    case j=>exact(aJ (i:=9) px.nd rfl MH)
    case' k=>refine' ao ?l ?m
    case l=>exact(bg (i:=7) px.nd rfl MH (br bF cu (dv 7) ag))
    case' m=>refine' ao ?n ?o
    case n=>
     refine' bg (i:=10) px.nd rfl MH ?p (hs:=se)
     case p=>exact(au (acC T) hr T.q1I (aa (au (UZ T) hr T.F_z (aa (dv 0) (aa (dv 7) ah))) (aa (dv 8) (aa (dv 2) (aa (dv 3) (aa (dv 4) ah))))))
    case' o=>refine' az ?q
    case' q=>refine' bI ?r ?s bH
    case r=>exact(rC (nZ (PE.imp (dA (Bz rfl) rfl T.q0C BA (bz (fe (mJ rfl Lv (dw 6) aK bS MA (λ_ _ _ _=>(aJ (i:=0) Lv.nd rfl MH)) (λ_ _ _ _=>mK) (λ_ _ _ _=>(au (Vk T) hr T.q1J (aa (dv 1) (aa (dv 0) ah)))))) bw)) (cf wZ))))
    case' s=>refine' az ?t
    case t=>exact(rD (i:=6) (pv 6) (dv 10))
   case' f=>refine' az ?u
   case u=>exact(aM (PE.imp (lY nX rfl T.q0h ny (sV (dw 6) bw)) (cf n5)))
  case B=>
  clear hr T;walk_at "+bU true_and "
  refine⟨ns,0,rfl,hb,MA,MA,5,rfl,MA,MA,λpl pll pok=>⟨2,rfl,MA,MA,λkl kll kok=>?_⟩⟩;walk_at "+bU true_and "
  intro x x0 x1;intro f f0 f1 a a0 a1 b b0 b1 c c0 c1 d d0 d1 e e0 e1 g g0 g1;obtain⟨ks,ek,mk,lk⟩:=Lu kl none (some (1+if (x==0)=true then 1 else 0));have kpos:0 < ks.length:=by
   have:=congrArg ZD ek;rw[V0]at this;rw[<-this];have e2:(kl.map V8).length=2:=by rw[V0];omega
   split
   ·rw[rX MA (by rw[e2];decide),Xr,e2];decide
   ·rw[rX MA (by rw[e2];decide),Xr,e2];decide
  have kok2:∀z∈ks,V6 z=true:=λz hz=>kok z (mk z hz);rw[ek];have mi:∀i:Nat,i < 6->∃m:Int,atI [Wa (1+a),.int (2+b),.int c,.int d,.int e,.int g] (0+(i:Int))=some (.int m)/\0<=m/\m<=(nB i:Int):=λi hi=>by
   rcases(AX i hi) with rfl|rfl|rfl|rfl|rfl|rfl
   ·exact⟨_,rfl,L8,by show _<=((5:Nat):Int);omega⟩
   ·exact⟨_,rfl,L8,by show _<=((6:Nat):Int);omega⟩
   ·exact⟨_,rfl,L8,by show _<=((4:Nat):Int);omega⟩
   ·exact⟨_,rfl,by assumption,by show _<=((2:Nat):Int);omega⟩
   ·exact⟨_,rfl,by assumption,by show _<=((2:Nat):Int);omega⟩
   ·exact⟨_,rfl,by assumption,by show _<=((2:Nat):Int);omega⟩
  generalize [Wa (1+a),.int (2+b),.int c,.int d,.int e,.int g]=ML at*;generalize hF:Ya (f==0)=FF;refine⟨λi Y=>∃(xs:List De)(at0:Int)(o8 o9 o10:Option Sl),(xs.map sN).Sublist (sI i)/\(∀x∈xs,qW x)/\xs.Pairwise qr/\(∀x∈xs,x.nm∈pl)/\1<=at0/\at0<=1+10*(i:Int)/\Y=[some (Sl.v (oU (ns.map .int))),some (Sl.v pV),some (Sl.v (X2 (pl.map .str))),some (Sl.v (X2 (ks.map .str))),some (Sl.v FF),some (Sl.o ML),some (Sl.o (xs.map De.enc)),some (Sl.v (Wa at0)),o8,o9,o10],⟨[],1,_,_,_,List.nil_sublist _,MC,.nil,MC,MA,MA,rfl⟩,?_,?_⟩
  ·rintro i z Y hz ⟨xs,at0,o8,o9,o10,sl,hg,hp,hn,at1,at2,rfl⟩;obtain⟨hi,rfl⟩:=Ge hz;have hi:i < 6:=hi;clear hz;walk_at "d";obtain⟨m,em,m0,m1⟩:=mi i hi;have b10:nB i<=6:=by
    rcases(AX i hi) with rfl|rfl|rfl|rfl|rfl|rfl<;>decide
   refine⟨_,em,m,rfl,L8,L8,?_⟩;refine⟨λj Y=>∃(xs:List De)(at0:Int)(o9 o10:Option Sl),(xs.map sN).Sublist (sI i++Wj j i)/\(∀x∈xs,qW x)/\xs.Pairwise qr/\(∀x∈xs,x.nm∈pl)/\1<=at0/\at0<=1+10*(i:Int)+j/\Y=[some (Sl.v (oU (ns.map .int))),some (Sl.v pV),some (Sl.v (X2 (pl.map .str))),some (Sl.v (X2 (ks.map .str))),some (Sl.v FF),some (Sl.o ML),some (Sl.o (xs.map De.enc)),some (Sl.v (Wa at0)),some (Sl.v (Wa (0+(i:Int)))),o9,o10],⟨xs,at0,_,_,by rw[List.replicate_zero,Wn];exact sl,hg,hp,hn,at1,L8,rfl⟩,?_,?_⟩
   ·rintro j z Y hz ⟨xs,at0,o9,o10,sl,hg,hp,hn,at1,at2,rfl⟩;obtain⟨hj,rfl⟩:=Ge hz;clear hz;walk_at "d";have hj:j < m.toNat:=hj;have xl:xs.length<=41:=by
     have h1:=sl.length_le;have h2:=(show(sI i).length<=21 by rcases(AX i hi) with rfl|rfl|rfl|rfl|rfl|rfl<;>decide);rw[V0,Wt,RC]at h1;omega
    refine⟨ns,at0+1,rfl,hb,L8,L8,i,pl,ks,f==0,?_,L8,L8,kpos,L8,kok2,pok,λx gx hs hx=>?_⟩
    ·rw[<-hF,Int.zero_add]
    dsimp only;have s1:(xs.map sN).Sublist (sI i++i::Wj j i):=sl.trans ((Z2 _).append (List.sublist_cons_self _ _));refine⟨by rw[V0];omega,λi' acc=>∃bs:List Bool,acc=bs.map .bool/\bs.length=i'/\∀j:Nat,bs[j]?=some false->∀y,xs[j]?=some y->qr x y,⟨[],rfl,rfl,MC⟩,?_,?_⟩
    ·rintro j z acc hz ⟨bs,rfl,bl,hb⟩;rw[Wm]at hz;cases hy':xs[j]? with
     |none=>rw[hy']at hz;cases hz
     |some y=>
      rw[hy']at hz;cases hz;walk_at "d";refine⟨x,y,rfl,gx,hg y (W0 hy'),λb hb2=>⟨bs++[b],by rw[Ww];rfl,by rw[Wt,bl];rfl,λn hn y' hy2=>?_⟩⟩;rcases YA n bs.length with h|h
      ·rw[XI h]at hn;exact hb n hn y' hy2
      ·rw[Yg h]at hn;have n0:n - bs.length=0:=by
        rcases T8 (n - bs.length) with h0|h0
        ·exact h0
        ·rw[Yc (by rw[Y7];omega)]at hn;cases hn
       rw[n0]at hn;have ek:n=j:=L8
       rw[ek,hy']at hy2;cases hy2;exact hb2 (by simpa using hn)
    ·rintro acc ⟨bs,rfl,bl,hb⟩;rw[V0]at bl;refine⟨bs,rfl,?_⟩;split
     ·rename_i hany;have hno:∀y∈xs,qr x y:=λy hy=>by
       obtain⟨j,hj⟩:=List.getElem?_of_mem hy;have jl:j < bs.length:=by rw[bl];exact(Wf.mp hj).1
       refine hb j ?_ y hj;have:bs[j]=false:=by simpa using SA.mp hany bs[j] (Yp jl)
       rw[WE jl,this]
      refine⟨by rw[V0];omega,xs++[x],?_,λy hy=>?_,YG.mpr ⟨hp,SE _ _,λu hu v hv=>?_⟩,λy hy=>?_,_,L8,L8,by rw[Ww];rfl,rfl,_,rfl⟩
      ·rw[Ww,V2,WD,hs,show i::Wj j i=Wj (j+1) i from rfl,List.replicate_succ',<-XX];exact sl.append (Z2 _)
      ·rcases Wo.mp hy with h|h
       ·exact hg y h
       ·rw[WH]at h;rw[h];exact gx
      ·rw[WH]at hv;rw[hv];exact(hno u hu).symm
      ·rcases Wo.mp hy with h|h
       ·exact hn y h
       ·rw[WH]at h;rw[h];exact hx
     ·exact⟨xs,s1,hg,hp,hn,_,L8,L8,rfl,rfl,_,rfl⟩
   ·rintro Y ⟨xs,at0,o9,o10,sl,hg,hp,hn,at1,at2,rfl⟩;rw[xq]at sl at2;refine⟨xs,sl.trans ?_,hg,hp,hn,at0,at1,L8,_,_,_,rfl⟩;exact(Z2 _).append (List.replicate_sublist_replicate i |>.mpr L8)
  ·rintro Y ⟨xs,at0,o8,o9,o10,sl,hg,hp,hn,at1,at2,rfl⟩;rw[xq]at sl;walk_at "d";exact q xs pl (Dr.of hg hp sl) L8 hn
section
def Eo(x:L7):Prop:=(∃s,x= .str s/\V6 s=true)\/(∃i,x= .int i)\/x= .none
def tV(z:Str×L7):Prop:=V6 z.1=true/\Eo z.2
theorem LB(h:Eo x):cx 1 x:=by
 rcases h with⟨s,rfl,h⟩|⟨i,rfl⟩|rfl
 ·exact pe h
 ·exact xy
 ·exact⟨by simp[Xm],by simp[Zu]⟩
theorem LC(h:tV z):cx 4 (.tuple [bA z]):=nP (cq (nP (cq ⟨(pe h.1).can,by simp[Zu]⟩ (cq ⟨(LB h.2).can,Wy (LB h.2).dep MA⟩ mW))) mW)
theorem LD(o:Option Int):Eo (di o):=by
 cases o with
 |none=>exact .inr (.inr rfl)
 |some d=>exact .inr (.inl ⟨d,rfl⟩)
theorem acA{r:Rp}(hr:∀m∈r.ts,V6 m=true)(hL:∀y∈L,V6 y.1=true):∀z∈gT r n G L,tV z:=λz hz=>by
 obtain⟨y,hy,hz⟩:=Yr.mp hz;have hy:y∈L:=by
  unfold oh at hy;split at hy
  ·cases hy
  ·exact(Wr.mp hy).1
 unfold qg at hz;rw[Y9,Xl]at hz;obtain⟨b,hb,rfl⟩:=hz;refine⟨hL y hy,?_⟩;cases e:y.2 with
 |five w kd s k u=>
  rw[e]at hb;simp only[pE]at hb;split at hb
  ·cases hb;exact LD _
  ·cases hb
 |two w kd=>
  rw[e]at hb;simp only[pE]at hb;split at hb
  ·rw[Xl]at hb;obtain⟨m,hm,rfl⟩:=hb;exact .inl ⟨m,rfl,hr m (Wr.mp (R1 hm)).1⟩
  ·cases hb
theorem acJ{r:Rp}(hr:∀m∈r.ts,V6 m=true)(hL:∀y∈L,V6 y.1=true):∀z∈lZ r n G L,tV z:=λz hz=>by
 obtain⟨y,hy,hz⟩:=Yr.mp hz;have hy:y∈L:=by
  unfold oh at hy;split at hy
  ·cases hy
  ·exact(Wr.mp hy).1
 unfold qh at hz;rw[Y9,Xl]at hz;obtain⟨b,hb,rfl⟩:=hz;refine⟨hL y hy,?_⟩;cases e:y.2 with
 |five w kd s k u=>
  rw[e]at hb;simp only[pF]at hb;split at hb
  ·cases hb;exact LD _
  ·cases hb
 |two w kd=>
  rw[e]at hb;simp only[pF]at hb;split at hb
  ·rw[Xl]at hb;obtain⟨m,hm,rfl⟩:=hb;exact .inl ⟨m,rfl,hr m (Wr.mp (R1 hm)).1⟩
  ·cases hb
theorem LF(g:bX xs)(n:Int):∀y∈dM xs n,V6 y.1=true:=λy hy=>by
 obtain⟨d,_,hd,_⟩:=((KP g.gd n).2 y).mp hy;exact g.gd.gx.nm _ hd
theorem LG(g:bX xs):∀m∈(dh xs c).ts,V6 m=true:=λm hm=>by
 obtain⟨p,hp,rfl⟩:=Wb.mp hm;exact g.gd.gx.gp.nm p (qI.mp (Wr.mp hp).1)
theorem Vx(g:bX xs)(G:Gn)(n:Int)(c:Pp):∀z∈gT (dh xs c) n G (dM xs n),tV z:=acA (LG g) (LF g n)
theorem aaY(g:bX xs)(G:Gn)(n:Int)(c:Pp):∀z∈lZ (dh xs c) n G (dM xs n),tV z:=acJ (LG g) (LF g n)
def mE.cl(k:mE):Bool:=!k.st.isEmpty && !k.go.isEmpty
def oB(xs:List De)(G:Gn)(n:Int):List mE:=(vY xs G n (bB xs)).filter mE.cl
theorem LH(g:bX xs)(hG:qo xs G):(qp xs).map Lk.tri=(bO xs).flatMap λn=>oB xs G n:=by
 have e:(qp xs).map Lk.tri=((qU xs).map Lk.tri).filter mE.cl:=by
  unfold qp;rw[TM];rfl
 rw[e,acs g hG,List.filter_flatMap];rfl
theorem LI(h:k∈oB xs G n):k.d=n:=by
 obtain⟨s,_,rfl⟩:=Wb.mp (Wr.mp h).1;rfl
theorem LJ(h:n∈bO xs):oz xs n=some n:=by
 unfold oz;refine Ld ((KQ xs).2.filter _) (Wr.mpr ⟨h,MC⟩) λa ha=>?_;simpa using(Wr.mp ha).2
theorem LK(h:oz xs m=some n):n∈bO xs/\n<=m:=by
 have:=List.mem_of_getLast? h;obtain⟨a,b⟩:=Wr.mp this;exact⟨a,by simpa using b⟩
theorem Ep(g:bX xs)(hG:qo xs G)(m:Int):qV xs m=match oz xs m with
 |none=>[]
 |some n=>(oB xs G n).map (·.nm):=by
 have e:qV xs m=(((qp xs).map Lk.tri).filter λk=>decide (some k.d=oz xs m)).map (·.nm):=by
  unfold qV;rw[TM,Wk];rfl
 rw[e,LH g hG];cases hl:oz xs m with
 |none=>rw[Su.mpr λk _=>by simp];rfl
 |some n=>
  obtain⟨T1,T2,hT⟩:=Zo (LK hl).1;obtain⟨t1,t2⟩:=Eg hT;have no:∀T:List Int,(∀m∈T,m≠n)->(T.flatMap λn=>oB xs G n).filter (λk=>decide (some k.d=some n))=[]:=λT h=>by
   refine Su.mpr λk hk=>?_;obtain⟨m,hm,hk⟩:=Yr.mp hk;have:=h m hm;rw[<-LI hk]at this;simpa using this
  rw[hT,Yw,YI,ZX,ZX,no T1 λm hm=>T5 (t1 m hm),no T2 λm hm=>(T5 (t2 m hm)).symm,WK,Wn];rw[VF.mpr λk hk=>by rw[LI hk];simp]
def mE.told(k:mE):L7:= .tuple [.int k.d,.str k.nm,(k.st.head?.map bA).getD .none,(k.go.head?.map bA).getD .none]
def LL(o:Option mE):L7:=(o.map mE.told).getD .none
theorem Er(g:bX xs)(hG:qo xs G):pL xs=LL ((bO xs).findSome? λn=>(oB xs G n).head?):=by
 rw[<-List.head?_flatMap,<-LH g hG];unfold pL LL;rw[List.head?_map];cases (qp xs).head?<;>rfl
theorem Vz(h:k∈oB xs G n):k.d=n/\∃c∈aI xs,k.nm=c.nm/\k.st=gT (dh xs c) n G (dM xs n)/\k.go=lZ (dh xs c) n G (dM xs n)/\∃a l b m,k.st=a::l/\k.go=b::m:=by
 obtain⟨h1,h2⟩:=Wr.mp h;obtain⟨s,hs,rfl⟩:=Wb.mp h1;obtain⟨c,hc,rfl⟩:=Wb.mp (Wr.mp hs).1;refine⟨rfl,c,qI.mp hc,rfl,rfl,rfl,?_⟩;unfold mE.cl at h2;cases e1:(Ej xs G n (dh xs c,qQ (aI xs) c)).st with
 |nil=>rw[e1]at h2;cases h2
 |cons a l=>
  cases e2:(Ej xs G n (dh xs c,qQ (aI xs) c)).go with
  |nil=>rw[e1,e2]at h2;cases h2
  |cons b m=>exact⟨a,l,b,m,rfl,rfl⟩
theorem VA(g:bX xs)(hG:qo xs G)(h:z∈qV xs m):∃n,oz xs m=some n/\∃k∈oB xs G n,k.nm=z:=by
 rw[Ep g hG]at h;cases e:oz xs m with
 |none=>rw[e]at h;cases h
 |some n=>
  rw[e]at h;obtain⟨k,hk,rfl⟩:=Wb.mp h;exact⟨n,rfl,k,hk,rfl⟩
theorem VB(g:bX xs)(hG:qo xs G)(h:pL xs= .none)(m:Int):qV xs m=[]:=by
 rw[Er g hG]at h;have h0:(bO xs).findSome? (λn=>(oB xs G n).head?)=none:=by
  cases e:(bO xs).findSome? (λn=>(oB xs G n).head?) with
  |none=>rfl
  |some k=>rw[e]at h;cases h
 cases e:qV xs m with
 |nil=>rfl
 |cons z l=>
  obtain⟨n,hl,k,hk,_⟩:=VA g hG (z:=z) (m:=m) (by rw[e];simp);have:=List.findSome?_eq_none_iff.mp h0 n (LK hl).1;rw[Sw]at this;rw[this]at hk;cases hk
structure VC (xs:List De) (G:Gn) (k:mE) (c:Pp) (a b:Str×L7):Prop where
 d:k.d∈bO xs
 pc:c∈aI xs
 nm:k.nm=c.nm
 st:∃l,tI xs k.d c G=a::l
 go:∃l,tJ xs k.d c G=b::l
 cl:pL xs= .tuple [.int k.d,.str c.nm,bA a,bA b]
 ch:∃l,qV xs k.d=c.nm::l
 no:∀n∈bO xs,n < k.d->qV xs n=[]
theorem AY(g:bX xs)(hG:qo xs G):pL xs= .none\/∃k c a b,VC xs G k c a b:=by
 rw[Er g hG];cases e:(bO xs).findSome? (λn=>(oB xs G n).head?) with
 |none=>exact .inl rfl
 |some k=>
  right
  obtain⟨T1,m,T2,hT,hk,no⟩:=List.findSome?_eq_some_iff.mp e;have hm:=R1 hk;obtain⟨kd,c,hc,en,es,eg,a,l,b,l2,s1,s2⟩:=Vz hm;obtain⟨t1,t2⟩:=Eg hT;have hmT:m∈bO xs:=by rw[hT];simp
  refine⟨k,c,a,b,by rw[kd];exact hmT,hc,en,⟨l,?_⟩,⟨l2,?_⟩,?_,?_,λn hn hlt=>?_⟩
  ·unfold tI;rw[kd,<-es,s1]
  ·unfold tJ;rw[kd,<-eg,s2]
  ·rw[Er g hG,e];show k.told=_;unfold mE.told;rw[s1,s2,en];rfl
  ·rw[Ep g hG,kd,LJ hmT];obtain⟨r,hr⟩:∃r,oB xs G m=k::r:=by
    cases e2:oB xs G m with
    |nil=>rw[e2]at hk;cases hk
    |cons y r=>rw[e2]at hk;cases hk;exact⟨r,rfl⟩
   exact⟨r.map (·.nm),by show(oB xs G m).map (·.nm)=_;rw[hr,V2,en]⟩
  ·rw[Ep g hG,LJ hn];have h1:n∈T1:=by
    rw[hT]at hn;rcases Wo.mp hn with z|z
    ·exact z
    ·exfalso;rcases Wc.mp z with z|z
     ·omega
     ·have:=t2 n z;omega
   have:=no n h1;rw[Sw]at this;show(oB xs G n).map (·.nm)=[];rw[this];rfl
end
section
theorem LM(h:z∈oh r n L):z∈L/\z.2.kd=r.c.kd:=by
 unfold oh at h;split at h
 ·cases h
 ·obtain⟨a,b⟩:=Wr.mp h;exact⟨a,eq_of_beq b⟩
end
section
theorem VD{α:Type}{m:List (Str×α)}{k:Str}{v:α}(h:∀p∈m,p.1≠k):oq m k v=m++[(k,v)]:=by
 unfold oq;rw[M4 (by rw[Yq];rintro⟨p,hp,e⟩;exact h p hp (of_decide_eq_true e))]
theorem LN{α:Type}(f:α->L7):∀(M A:List (Str×α)),((A++M).map (·.1)).Nodup->(eJ f M).foldl (λa p=>mh a p.1 p.2) (eJ f A)=eJ f (A++M)
 | [],A,_=>by rw[Wn];rfl
 |p::M,A,h=>by
  have h2:A++p::M=(A++[p])++M:=MC
  rw[h2]at h⊢;show(eJ f M).foldl _ (mh (eJ f A) (.inr p.1) (f p.2))=_;have h3:=h;rw[Ww,Ww,Yl,Yl]at h3;rw[KL,VD (λq hq e=>h3.1.2.2 _ (Yv hq) _ MC e)];exact LN f M (A++[p]) h
theorem LO{α:Type}(f:α->L7){M:List (Str×α)}(h:(M.map (·.1)).Nodup):(eJ f M).foldl (λa p=>mh a p.1 p.2) []=eJ f M:=LN f M [] h
theorem v8{α:Type}(p:Str×α)(m:List (Str×α))(z:Str):mQ (p::m) z=if p.1=z then some p.2 else mQ m z:=by
 unfold mQ;rw[XN];by_cases h:p.1=z<;>simp[h]
theorem LP{α:Type}:∀{M:List (Str×α)},(M.map (·.1)).Nodup->∀p∈M,mQ M p.1=some p.2
 |q::M,h,p,hp=>by
  rw[V2,XW]at h;rw[v8];rcases Wc.mp hp with rfl|hp
  ·rw[M8 rfl]
  ·rw[M4 (λe=>h.1 (by rw[e];exact Yv hp))];exact LP h.2 p hp
theorem AZ{α:Type}:∀{M:List (Str×α)},(∀p∈M,p.1≠z)->mQ M z=none
 | [],_=>rfl
 |q::M,h=>by
  rw[v8,M4 (h q MC)];exact AZ λp hp=>h p (Wu _ hp)
def pM(M:List (Str×Int)):Gn:=⟨M.map (·.1),M.map (·.2)⟩
theorem Es(M:List (Str×Int))(z:Str):(pM M).at z=mQ M z:=Ei M z
theorem acQ(M:List (Str×Int)):kQ (M.map (·.1)) ((eJ Wa M).map (·.2))=(pM M).enc:=by
 unfold pM Gn.enc eJ;rw[Wk,Wk];rfl
theorem LQ(z:Str):∀{M:List (Str×Int)},(M.map (·.1)).Nodup->(pM (M.filter λp=>decide (p.2<=n))).has n z=(pM M).has n z
 | [],_=>rfl
 |p::M,h=>by
  rw[V2,XW]at h;have ih:=LQ (n:=n) z h.2;unfold Gn.has at ih⊢;rw[Es,Es]at ih⊢;rw[W6,v8];by_cases hp:p.2<=n
  ·rw[M8 (decide_eq_true hp),v8];by_cases e:p.1=z
   ·rw[M8 e,M8 e]
   ·rw[M4 e,M4 e];exact ih
  ·rw[M4 (by simpa using hp)];by_cases e:p.1=z
   ·rw[M8 e,AZ λq hq e2=>h.1 (by rw[e,<-e2];exact Yv (Wr.mp hq).1)];exact(decide_eq_false hp).symm
   ·rw[M4 e];exact ih
theorem LR{G G':Gn}(h:∀z,G.has n z=G'.has n z):gT r n G L=gT r n G' L/\lZ r n G L=lZ r n G' L:=by
 have e1:oi r n G=oi r n G':=by unfold oi;congr 1;funext z;rw[h]
 have e2:oj r n G=oj r n G':=by unfold oj;congr 1;funext z;rw[h]
 have e3:qg r n G=qg r n G':=by
  funext z;unfold qg;cases z.2<;>simp only[pE,e1]
 have e4:qh r n G=qh r n G':=by
  funext z;unfold qh;cases z.2<;>simp only[pF,e2]
 unfold gT lZ;rw[e3,e4];exact⟨rfl,rfl⟩
def v9(xs:List De)(cs:List Pp):List (Str×Int):=cs.filterMap λc=>(oP xs c.nm).map λd=>(c.nm,d)
def oC(xs:List De):List (Str×Int):=v9 xs (bV (aI xs))
theorem abw(g:bX xs):((oC xs).map (·.1)).Nodup:=by
 have nd:((bV (aI xs)).map (·.nm)).Nodup:=((pz _).map _).nodup_iff.mpr g.gd.gx.gp.nd;rw[ZZ,X1]at nd⊢;refine nd.filterMap _ λa b h p hp q hq=>?_;rw[Xl]at hp hq;obtain⟨_,_,rfl⟩:=hp;obtain⟨_,_,rfl⟩:=hq;exact h
theorem abP(g:bX xs):(oC xs).length<=41:=by
 refine Wy (Zh _ _) ?_;rw[qJ];exact g.gd.gx.gp.ln
theorem VH(h:r∈ot xs):∃c∈bV (aI xs),c.nm=r.nm:=by
 rw[Eb]at h;obtain⟨k,hk,_,rfl⟩:=Ef.mp h;obtain⟨Z',e,h2⟩:=AU xs (lV (bO xs) (bB xs)) [];unfold qU at hk;rw[e,WK]at hk;obtain⟨z,hz,_,e2⟩:=h2 k hk;obtain⟨n,_,hz⟩:=Yr.mp hz;obtain⟨s,hs,rfl⟩:=Wb.mp hz;obtain⟨c,hc,rfl⟩:=Wb.mp hs;exact⟨c,hc,e2.symm⟩
theorem LS:∀{cs:List Pp},(∃c∈cs,c.nm=z)->mQ (v9 xs cs) z=oP xs z
 |c::cs,h=>by
  have tl:c.nm≠z->mQ (v9 xs cs) z=oP xs z:=λhz=>LS (by
   obtain⟨d,hd,e⟩:=h;rcases Wc.mp hd with rfl|hd
   ·exact absurd e hz
   ·exact⟨d,hd,e⟩)
  unfold v9 at tl⊢;cases e:oP xs c.nm with
  |none=>
   rw[VJ (by rw[e];rfl)];by_cases hz:c.nm=z
   ·rw[<-hz,e];refine AZ λp hp e2=>?_;obtain⟨b,hb,hp⟩:=Yy.mp hp;rw[Xl]at hp;obtain⟨d,hd,rfl⟩:=hp;have e2:b.nm=c.nm:=e2;rw[e2,e]at hd;cases hd
   ·exact tl hz
  |some d=>
   rw[Sn (by rw[e];rfl),v8];by_cases hz:c.nm=z
   ·rw[M8 hz,<-hz,e]
   ·rw[M4 hz];exact tl hz
theorem wa:qo xs (pM (oC xs)):=λz=>by
 rw[Es];by_cases h:∃c∈bV (aI xs),c.nm=z
 ·exact LS h
 ·have e:oP xs z=none:=by
   cases e:oP xs z with
   |none=>rfl
   |some d=>
    obtain⟨r,hr,e1,_⟩:=uY.mp e;obtain⟨c,hc,e2⟩:=VH hr;exact absurd ⟨c,hc,e2.trans e1⟩ h
  rw[e];refine AZ λp hp e2=>h ?_;obtain⟨b,hb,hp⟩:=Yy.mp hp;rw[Xl]at hp;obtain⟨d,hd,rfl⟩:=hp;exact⟨b,hb,e2⟩
theorem VI(xs:List De):((uX xs).filter λr:Pl=>r.d.isSome).map (λr:Pl=>WG [.str r.nm,di r.d])=(eJ Wa (oC xs)).map λp=>.tuple [pf p.1,p.2]:=by
 unfold uX oC v9 eJ;generalize bV (aI xs)=cs
 induction cs with
 |nil=>rfl
 |cons c cs ih=>
  rw[V2,W6];unfold oP at ih⊢;cases e:oO (ot xs) c.nm with
  |none=>
   rw[VJ (by rw[e];rfl)];exact ih
  |some r=>
   rw[Sn (by rw[e];rfl)];have en:=((vX (Ed xs)).mp e).2;rw[M8 (by rfl),V2,V2,V2,ih,<-en];rfl
end
theorem LU:aU (aq tE) ["_law_deeds_here","_law_told","_law_day_here","_law_paper","_law_one_here","_law_other","_law_early","_law_gone","_law_here"] ["_law_other","_law_day_here"] 1 [2] ⟨V7,[ (V1 ".0",Mc),(V1 "_law_other",Mc),(V1 "_law_day_here",Wi)],false,false,[]⟩:= .of
theorem LV:aU (aq tE) ["_law_deeds_here","_law_told","_law_day_here","_law_paper","_law_one_here","_law_other","_law_early","_law_gone","_law_here"] ["_law_other","_law_deeds_here"] 1 [0] ⟨V7,[ (V1 ".0",Mc),(V1 "_law_other",Mc),(V1 "clashing",W4),(V1 "_law_deeds_here",Wi)],false,false,[]⟩:= .of
theorem A1:aU (aq tE) ["_law_deeds_here","_law_told","_law_day_here","_law_paper","_law_one_here","_law_other","_law_early","_law_gone","_law_here"] ["_law_name","_law_when_here","_law_leave"] 3 [] ⟨V7,[ (V1 ".0",Mc),(V1 "_law_name",Mc),(V1 "_law_when_here",Mc),(V1 "_law_leave",Mc)],false,false,[]⟩:= .of
theorem LW:aU (aq tE) ["_law_deeds_here","_law_told","_law_day_here","_law_paper","_law_one_here","_law_other","_law_early","_law_gone","_law_here"] ["_law_name","_law_gone","_law_day_here"] 1 [7,2] ⟨V7,[ (V1 ".0",Mc),(V1 "_law_name",Mc),(V1 "_law_day_here",Wi),(V1 "_law_gone",Wi)],false,false,[]⟩:= .of
def aaS:Fa:=λds Q=>∃xs:List De,ds=[.tuple (xs.map De.enc),pL xs]/\bX xs/\qP xs/\pL xs≠ .none/\Q (.bool true)
theorem acH(T:Txt Z mg t):aB P w Z mg base MX 14 t.q1s t.q1t ["_law_deeds_here","_law_told"] (aQ Z aaS):=by
 refine T.q1L.F.okD su (λds Q h=>?_) (λ_ _ _ _ H O ds Q E hr h=>?_)
 ·obtain⟨xs,rfl,_⟩:=h;rfl
 ·obtain⟨xs,rfl,g,few,hc,q⟩:=h;refine'⟨_,?A,?B⟩
  case A=>
   refine' ao ?C ?D
   case C=>exact(wX (dv 1) (oH (n:=4) rfl (cE (aJ (i:=2) su.nd rfl MH) (cE (aJ (i:=3) su.nd rfl MH) (cE (aJ (i:=4) su.nd rfl MH) (cE (aJ (i:=5) su.nd rfl MH) oG))))) (oY (cU aK (cU aK (cU aK (cU aK oX))))))
   case' D=>refine' ao ?E ?F
   case E=>exact(tu (i:=6) su.nd rfl MH (sf rfl LU (df (au (AJ T) hr T.F_h (aa (dv 0) ah))) aK bS MA (λ_ _ _ _=>(aJ (i:=0) LU.nd rfl MH)) (λ_ _ _ _=>(eM (aN wt n4 (dv 0) (dv 1) (aD _)))) (λ_ _ _ _=>(dv 0))))
   case' F=>refine' ao ?G ?H
   case G=>
    refine' bI ?I ?J bH
    case I=>exact(PW.pt (oW (aN (rE hr.units) rF (vE (df (au (Le T) hr T.F_w (aa (dv 0) (aa (dv 2) ah)))) p6 (mq ag)) (bq (aa (dv 3) ah)) (aD _)) (qB (nZ (PE.imp (dA (Bz rfl) rfl T.q0C BA (bz (fe (mJ rfl LV (df (fe (vA (df (dv 6)) (mq (BW ag)) p6))) aK bS MA (λ_ _ _ _=>(aJ (i:=0) LV.nd rfl MH)) (λ_ _ _ _=>mK) (λ_ _ _ _=>(nz (rE hr.units) rF (df (au (Le T) hr T.F_w (aa (dv 1) (aa (dv 0) ah)))) (df (bq ah)) (aD _))))) bw)) (cf wZ))))))
    case J=>refine' az (aM rW)
   case' H=>refine' ao ?K ?L
   case K=>
    refine' bg (i:=7) su.nd rfl MH ?M (hs:=se)
    case M=>exact(Ic (HL rfl rfl T.q0L (bz (fe (oZ rfl A1 (df (au (acn T) hr T.F_x (aa (dv 0) ah))) (oY (cU aK (cU aK (cU aK oX)))) Rv MA (λ_ _ _ _=>(oH (n:=3) rfl (cE (aJ (i:=0) A1.nd rfl MH) (cE (aJ (i:=1) A1.nd rfl MH) (cE (aJ (i:=2) A1.nd rfl MH) oG))))) (λ_ _ _ _=>(eM (aN wx xD (dv 1) mI (aD _)))) (λ_ _ _ _=>(bq (aa (dv 0) (aa (dv 1) ah)))))) bw)))
   case' L=>refine' ao ?N ?O
   case N=>
    refine' bg (i:=8) su.nd rfl MH ?P (hs:=se)
    case P=>exact(Ic (HL rfl rfl T.q0L (bz (fe (aaW rfl LW (dv 7) aK bS MA (λ_ _ _ _=>(aJ (i:=0) LW.nd rfl MH)) (λ_ _ _ _=>(eM (aN rn n4 (Hq hr.units (dv 1) (dv 0) (λ_ _=>rfl)) (dv 2) (aD _)))) (λ_ _ _ _=>(bq (aa (dv 0) (aa (Hq hr.units (dv 1) (dv 0) (λ_ _=>rfl)) ah)))))) bw)))
   case' O=>refine' az ?Q
   case' Q=>refine' aM ?R
   case R=>exact(BE (nz (cF hr.units) cG (df (vE (df (au (abj T) hr T.F_d (aa (dv 0) (aa (dv 2) (aa (dv 3) (aa (dv 8) ah)))))) p6 (mq ag))) (df (bq (aa (dv 4) ah))) (aD _)) (BD (nz (cF hr.units) cG (df (vE (df (au (abI T) hr T.F_e (aa (dv 0) (aa (dv 2) (aa (dv 3) (aa (dv 8) ah)))))) p6 (mq ag))) (df (bq (aa (dv 5) ah))) (aD _))))
  case B=>
  clear hr T;obtain⟨k,c,a,b,F⟩:=(AY g wa).resolve_left hc;rw[F.cl];have nd:=abw g;have gl:=abP g;have sa:=Vx g (pM (oC xs)) k.d c;have ga:=aaY g (pM (oC xs)) k.d c;obtain⟨la,ea⟩:=F.st;obtain⟨lb,eb⟩:=F.go;have ca:tV a:=sa a (by show a∈tI xs k.d c _;rw[ea];simp);have cb:tV b:=ga b (by show b∈tJ xs k.d c _;rw[eb];simp);have hh:∀z,(pM ((oC xs).filter λp=>decide (p.2<=k.d))).has k.d z=(pM (oC xs)).has k.d z:=λz=>LQ z nd;have ea:tI xs k.d c (pM ((oC xs).filter λp=>decide (p.2<=k.d)))=a::la:=(LR hh).1.trans ea;have eb:tJ xs k.d c (pM ((oC xs).filter λp=>decide (p.2<=k.d)))=b::lb:=(LR hh).2.trans eb;obtain⟨lc,ec⟩:=F.ch;have fl:=Xi (λn=>decide (n < k.d)) (bO xs);have cn:cx 2 (.tuple [.str c.nm]):=nP (cq (pe (g.gd.gx.gp.nm _ F.pc)) mW);have c1:∀(x:L7)(l:List L7),cM (x::l) none (some 1)=[x]:=λx l=>rX MA (by simp only[V5];omega);have plen:=g.gd.gx.gp.ln;generalize hB:cB (cw _ _ _) _=TB;walk_at "d";refine⟨xs,rfl,g.gd,λ_=>few,λtis tl=>⟨_,rfl,by rw[V0];omega,qL (λn:Int=>decide (n < k.d)) Wa (λn hn R S h1 h0=>?_) ?_⟩⟩
  ·walk_at "d";by_cases e:n < k.d
   ·rw[M8 e];exact h1 (decide_eq_true e)
   ·rw[M4 e];exact h0 (decide_eq_false e)
  ·subst hB;refine oQ λR hR=>?_;walk_at "d";refine⟨xs,k.d,rfl,g,few,_,rfl,?_⟩;rw[ec,V2,c1];refine⟨cn.shp MA,cn.shp MA,?_⟩;rw[vZ _ cn.can,M4 MA];refine⟨?_,xC (λ_=>.bool false) (λz hz R hR=>?_) ⟨_,(Wk (f:=λ_=>false) (g:=Ya)).symm,?_⟩⟩
   ·unfold cM;rw[Xr,YO,V0];omega
   ·obtain⟨n,hn,rfl⟩:∃n∈(bO xs).filter λn=>decide (n < k.d),z= .int n:=by
     unfold cM at hz;obtain⟨n,hn,e⟩:=Wb.mp (Zz (YV hz));exact⟨n,hn,e.symm⟩
    obtain⟨h1,h2⟩:=Wr.mp hn;walk_at "d";refine⟨xs,n,rfl,g,few,?_⟩;rw[F.no n h1 (of_decide_eq_true h2)];exact⟨MN,MN,hR⟩
   ·rw[M4 MC];subst hR;walk_at "d";refine⟨xs,rfl,g,few,_,rfl,by rw[V0];unfold uX;rw[V0,qJ];omega,gS (λr:Pl=>r.d.isSome) (λr:Pl=>WG [.str r.nm,di r.d]) (λr hr R S h=>?_) ?_⟩
    ·simp only[Pl.enc];walk_at "d";cases e:r.d with
     |none=>rw[e]at h;exact h
     |some d=>rw[e]at h;exact h
    ·rw[VI];refine⟨_,rfl,?_⟩;rw[LO _ nd,KN];refine⟨_,D9 _ _,_,⟨_,rfl⟩,by rw[V0];omega,?_⟩;rw[Wk];refine qL (enc:=V8 ∘ λp:Str×Int=>p.1) (λp=>decide (p.2<=k.d)) (λp=>.tuple [.str p.1,.int p.2]) (λp hp R S h1 h0=>?_) ?_
     ·have at_:aW ((oC xs).map (·.1)) ((oC xs).map λp=>Wa p.2) p.1=some (.int p.2):=by rw[D8,LP nd p hp];rfl
      simp only[YE];walk_at "d";refine⟨_,_,rfl,_,at_,p.2,rfl,?_⟩;by_cases e:p.2<=k.d
      ·rw[M8 e];exact⟨_,_,rfl,_,at_,h1 (decide_eq_true e)⟩
      ·rw[M4 e];exact h0 (decide_eq_false e)
     ·refine⟨eJ .int ((oC xs).filter λp=>decide (p.2<=k.d)),by unfold eJ;rw[Wk];rfl,?_⟩;rw[LO _ (nd.sublist (YL.map _)),D9];refine⟨_,rfl,?_⟩;rw[acQ];have l1:cx 4 (.tuple [bA a]):=LC ca;have l2:cx 4 (.tuple [bA b]):=LC cb;refine⟨xs,k.d,c,_,rfl,g.gd,F.pc,λ_ _ _=>⟨_,rfl,?_⟩⟩;rw[ea,V2,c1];refine⟨l1.shp MA,l1.shp MA,?_⟩;rw[vZ _ l1.can,M8 rfl];refine⟨xs,k.d,c,_,rfl,g.gd,F.pc,λ_ _ _=>⟨_,rfl,?_⟩⟩;rw[eb,V2,c1];refine⟨l2.shp MA,l2.shp MA,?_⟩;rw[vZ _ l2.can];exact q
theorem LX:aU (aq As) ["_law_deeds_here","_law_name"] ["_law_deed","_law_name"] 1 [1] ⟨V7,[ (V1 ".0",Mc),(V1 "_law_deed",Mc),(V1 "_law_name",Wi)],false,false,[]⟩:= .of
theorem LY:aU (aq Au) ["_law_deeds_here","_law_words"] ["_law_deed","_law_words"] 1 [1] ⟨V7,[ (V1 ".0",Mc),(V1 "_law_deed",Mc),(V1 "_law_words",Wi)],false,false,[]⟩:= .of
theorem LZ:aU (aq Ar) ["_law_deeds_here","_law_days"] ["_law_day_here","_law_deeds_here"] 1 [0] ⟨V7,[ (V1 ".0",Mc),(V1 "_law_day_here",Mc),(V1 "clashing",W4),(V1 "_law_deeds_here",Wi)],false,false,[]⟩:= .of
def wb(nm:Str)(x:De):Bool:=!((VY "rule"==x.w || VY "end"==x.w) && x.nm==nm)
def VM:Fa:=λds Q=>∃(xs:List De)(nm:Str),ds=[.tuple (xs.map De.enc),.str nm]/\bX xs/\V6 nm=true/\Q (.tuple ((xs.filter (wb nm)).map De.enc))
theorem aaq(T:Txt Z mg t):aB P w Z mg base MX 1 t.q1w t.q1x ["_law_deeds_here","_law_name"] (aQ Z VM):=by
 refine T.q1M.F.okD abH (λds Q h=>?_) (λ_ _ _ _ H O ds Q E hr h=>?_)
 ·obtain⟨xs,nm,rfl,_⟩:=h;rfl
 ·obtain⟨xs,nm,rfl,g,hn,q⟩:=h;refine'⟨_,?A,?B⟩
  case A=>
   refine' az ?C
   case' C=>refine' aM ?D
   case D=>exact(PE.imp (lY nX rfl T.q0h ny (bz (fe (oZ rfl LX (df (dv 0)) aK bS MA (λ_ _ _ _=>(aJ (i:=0) LX.nd rfl MH)) (λ_ _ _ _=>(eM (PW.pt (oW (aN (BP hr) r6 (aC aE aH (dv 0) ag) (bq (aa aZ (aa aZ ah))) rfl) (qB (aN (rE hr.units) rF (aC aE aH (dv 0) ag) (dv 1) (aD _))))))) (λ_ _ _ _=>(dv 0)))) bw)) (cf n5))
  case B=>
  clear hr T;walk_at "d";have ln:=g.gd.gx.ln;refine⟨by rw[V0];omega,gS (wb nm) De.enc (λx hx R S h=>?_) ?_⟩
  ·rw[tU]at h⊢;have hw:=cQ.mpr (g.gd.gx.w _ hx);have hm:=cQ.mpr (g.gd.gx.nm _ hx);unfold wb at h;walk_at "d";refine⟨hw,MN,?_⟩;cases e1:(VY "rule"==x.w || VY "end"==x.w)<;>rw[e1]at h
   ·rw[M8 rfl];exact h
   ·rw[M4 MA];refine⟨hm,cQ.mpr hn,?_⟩;cases e2:(x.nm==nm)<;>rw[e2]at h
    ·rw[M8 rfl];exact h
    ·rw[M4 MA];exact h
  ·exact q
def aba:Fa:=λds Q=>∃xs:List De,ds=[.tuple (xs.map De.enc)]/\bX xs/\qP xs/\pL xs= .none/\Q (.bool true)
theorem L1(T:Txt Z mg t):aB P w Z mg base MX 14 t.q1u t.q1v ["_law_deeds_here"] (aQ Z aba):=by
 refine T.q0U.F.okD IA (λds Q h=>?_) (λ_ _ _ _ H O ds Q E hr h=>?_)
 ·obtain⟨xs,rfl,_⟩:=h;rfl
 ·obtain⟨xs,rfl,g,few,hc,q⟩:=h;refine'⟨_,?A,?B⟩
  case A=>
   refine' ao ?C ?D
   case C=>exact(bg (i:=1) IA.nd rfl MH (au (AJ T) hr T.F_h (aa (dv 0) ah)))
   case' D=>refine' az ?E
   case' E=>refine' aM ?F
   case F=>exact(PE.imp (dA (ael rfl) rfl T.q01 aek (bz (fe (oZ rfl LZ (df (aeI (dv 1) (br bF cu ag (br qw pd (PE.imp (dA qy rfl T.q0i Yt (bz (dv 1) bw)) (cf qD)) ag)))) aK bS MA (λ_ _ _ _=>(aJ (i:=0) LZ.nd rfl MH)) (λ_ _ _ _=>mK) (λ_ _ _ _=>(nz (cF hr.units) cG (df (au (Le T) hr T.F_w (aa (dv 1) (aa (br bF cu (dv 0) (br rj pd (dv 0) ag)) ah)))) (df (bq ah)) (aD _))))) bw)) (cf wZ))
  case B=>
  clear hr T;walk_at "d";refine⟨xs,rfl,g.gd,λ_=>few,λtis tl=>⟨(bO xs).map .int,.inr rfl,_,rfl,L8,λys hm hl=>?_⟩⟩;rw[V0]at hl;refine⟨L8,Pj (p:=λb=>Q (.bool b)) (λ_=>true) (λx hx R hR=>?_) ?_⟩
  ·obtain⟨n,_,rfl⟩:=Wb.mp (hm x hx);walk_at "d";refine⟨xs,_,rfl,g,few,?_⟩;rw[VB g wa hc];exact⟨MN,MN,by simpa [Ws,Ym]using hR⟩
  ·have e:∀l:List L7,((l.map λ_=>true).all id)=true:=λl=>by rw[List.all_map];exact Zy.mpr λ_ _=>rfl
   rw[e];exact q
def qt(a b:Str):De->Bool
 | .oth w _ _ [.tuple (.str z::_)]=>!(w==VY "rule" && (a==z || b==z))
 |_=>true
theorem L3{pt:Pt}:qt a b (.oth (VY "rule") d nm [pt.enc])=!(a==pt.wd || b==pt.wd):=by
 cases pt<;>simp[qt,Pt.enc,Pt.wd]
theorem VP(h:w≠VY "rule"):qt a b (.oth w d nm r)=true:=by
 unfold qt;split
 ·rename_i e;cases e;rw[cI h];rfl
 ·rfl
def VQ:Fa:=λds Q=>∃(xs:List De)(a b:Str),ds=[.tuple (xs.map De.enc),.tuple [.str a,.str b]]/\bX xs/\V6 a=true/\V6 b=true/\Q (.tuple ((xs.filter (qt a b)).map De.enc))
theorem VR(T:Txt Z mg t):aB P w Z mg base MX 1 t.q1A t.q1B ["_law_deeds_here","_law_words"] (aQ Z VQ):=by
 refine T.q0W.F.okD abx (λds Q h=>?_) (λ_ _ _ _ H O ds Q E hr h=>?_)
 ·obtain⟨xs,a,b,rfl,_⟩:=h;rfl
 ·obtain⟨xs,a,b,rfl,g,ha,hb,q⟩:=h;refine'⟨_,?A,?B⟩
  case A=>
   refine' az ?C
   case' C=>refine' aM ?D
   case D=>exact(PE.imp (lY nX rfl T.q0h ny (bz (fe (oZ rfl LY (df (dv 0)) aK bS MA (λ_ _ _ _=>(aJ (i:=0) LY.nd rfl MH)) (λ_ _ _ _=>(eM (PW.pt (oW (aN (rE hr.units) rF (aC aE aH (dv 0) ag) aZ (aD _)) (qB (aN (BP hr) r6 (aC aE aH (aC aE aH (dv 0) ag) ag) (dv 1) rfl)))))) (λ_ _ _ _=>(dv 0)))) bw)) (cf n5))
  case B=>
  clear hr T;walk_at "d";have ln:=g.gd.gx.ln;refine⟨by rw[V0];omega,gS (qt a b) De.enc (λx hx R S h=>?_) q⟩;cases x with
  |pap p=>
   simp only[De.enc,Pp.enc];walk_at "d";exact⟨MN,MN,h⟩
  |oth w d nm r=>
   by_cases hw:w=VY "rule"
   ·subst hw;obtain⟨pt,rfl,ok⟩:=g.gd.ru d nm r hx;rw[L3]at h;simp only[De.enc]at h⊢;obtain⟨l,e1,e2⟩:=Pt.at0 pt;rw[e1]at h⊢;have pw:V6 pt.wd=true:=by
     cases pt with
     |two=>exact ok.2.1
     |five w=>rcases ok.1 with e|e<;>(show V6 w=true;rw[e];decide+kernel)
    walk_at "d";refine⟨MN,MN,_,e2,cQ.mpr pw,by simp[X0,Xm,ha,hb],?_⟩;rw[bT,bT];cases e:(a==pt.wd || b==pt.wd)<;>rw[e]at h
    ·rw[M8 rfl];exact h
    ·rw[M4 MA];exact h
   ·rw[VP hw]at h;simp only[De.enc]at h⊢;walk_at "d";refine⟨cQ.mpr (g.gd.gx.w _ hx),MN,?_⟩;rw[cI hw,M8 rfl];exact h
theorem L4(h:z∈gT r n G L):∃y∈L,z.1=y.1/\(VY "keep"=y.2.wd\/VY "while"=y.2.wd):=by
 obtain⟨y,hy,hz⟩:=Yr.mp h;unfold qg at hz;rw[Y9,Xl]at hz;obtain⟨b,hb,rfl⟩:=hz;refine⟨y,(LM hy).1,rfl,?_⟩;cases e:y.2 with
 |five w kd s k u=>
  rw[e]at hb;simp only[pE]at hb;split at hb
  ·rename_i h;exact .inl h.1.symm
  ·cases hb
 |two w kd=>
  rw[e]at hb;simp only[pE]at hb;split at hb
  ·rename_i h;exact .inr h.symm
  ·cases hb
theorem L5(h:z∈lZ r n G L):∃y∈L,z.1=y.1/\(VY "gone"=y.2.wd\/VY "follow"=y.2.wd):=by
 obtain⟨y,hy,hz⟩:=Yr.mp h;unfold qh at hz;rw[Y9,Xl]at hz;obtain⟨b,hb,rfl⟩:=hz;refine⟨y,(LM hy).1,rfl,?_⟩;cases e:y.2 with
 |five w kd s k u=>
  rw[e]at hb;simp only[pF]at hb;split at hb
  ·rename_i h;exact .inl h.1.symm
  ·cases hb
 |two w kd=>
  rw[e]at hb;simp only[pF]at hb;split at hb
  ·rename_i h;exact .inr h.symm
  ·cases hb
theorem Et(g:nH xs)(h:y∈dM xs n):∃d,De.oth (VY "rule") d y.1 [y.2.enc]∈xs:=by
 obtain⟨d,_,hd,_⟩:=((KP g n).2 y).mp h;exact⟨d,hd⟩
theorem L6{xs:List De}(g:bX (xs.filter (qt a b)))(h:(a=VY "keep"/\b=VY "while")\/(a=VY "gone"/\b=VY "follow")):pL (xs.filter (qt a b))= .none:=by
 refine(AY g wa).resolve_right ?_;rintro⟨k,c,x,y,F⟩;have no:∀z:Str×Pt,z∈dM (xs.filter (qt a b)) k.d->(a=z.2.wd\/b=z.2.wd)->False:=λz hz e=>by
  obtain⟨d,hd⟩:=Et g.gd hz;have h2:=(Wr.mp hd).2;rw[L3]at h2;rcases e with e|e<;>simp[e]at h2
 rcases h with⟨rfl,rfl⟩|⟨rfl,rfl⟩
 ·obtain⟨l,e⟩:=F.st;obtain⟨z,hz,_,e2⟩:=L4 (z:=x) (show x∈tI (xs.filter _) k.d c _ by rw[e];simp);exact no z hz e2
 ·obtain⟨l,e⟩:=F.go;obtain⟨z,hz,_,e2⟩:=L5 (z:=y) (show y∈tJ (xs.filter _) k.d c _ by rw[e];simp);exact no z hz e2
theorem Eu:∀{l m:List Str},l.Nodup->(∀z∈l,z∈m)->l.length<=m.length
 | [],_,_,_=>Xe _
 |a::l,m,nd,h=>by
  rw[XW]at nd;have ha:=h a MC;have:=Eu (m:=m.erase a) nd.2 λz hz=>(List.mem_erase_of_ne (λe=>nd.1 (by rw[<-e];exact hz))).mpr (h z (by simp[hz]));rw[List.length_erase_of_mem ha]at this;have:=List.length_pos_of_mem ha;rw[V5];omega
def abV:Fa:=λds Q=>∃(xs:List De)(pl:List Str)(s:Int),ds=[.tuple (xs.map De.enc),.int s]/\(s=0\/s=1)/\Dr 5 6 4 xs/\pl.length=5/\(∀x∈xs,x.nm∈pl)/\Q (.bool true)
theorem VT(T:Txt Z mg t):aB P w Z mg base MX 15 t.q1y t.q1z ["_law_deeds_here","_law_side"] (aQ Z abV):=by
 refine T.q0V.F.okD vQ (λds Q h=>?_) (λ_ _ _ _ H O ds Q E hr h=>?_)
 ·obtain⟨xs,pl,s,rfl,_⟩:=h;rfl
 ·obtain⟨xs,pl,sd,rfl,hs,dr,pll,hn,q⟩:=h;refine'⟨_,?A,?B⟩
  case A=>
   refine' ao ?C ?D
   case C=>exact(pY (i:=2) vQ.nd rfl MH (g8 ah))
   case' D=>refine' ao ?E ?F
   case E=>
    refine' BF XR rfl rfl T.q0j (aa ag ah) ?G aK ?H
    case G=>exact(aJ (i:=3) vQ.nd rfl MH)
    case' H=>refine' ao ?I ?J
    case I=>exact(bg (i:=4) vQ.nd rfl MH (au (Lc T) hr T.F_v (aa (dv 0) ah)))
    case' J=>refine' ao ?K ?L
    case K=>
     refine' bI ?M ?N bH
     case M=>exact(aN sP tw (dv 4) mI (aD _))
     case' N=>refine' az ?O
     case O=>exact(aM (au (L1 T) hr T.q0U (aa (dv 0) ah)))
    case' L=>refine' ao ?P ?Q
    case P=>
     refine' bI ?R ?S bH
     case R=>exact(PW.pt (oW (rC (nZ (Hr (Z':=Z) (T:="tuple") rfl rfl T.q0M F1 (df (dv 4)) (ED (v:= .ty "tuple") rfl T.q0h ny rfl)))) (oW (aN (rE hr.units) rF (PE.imp (dA qy rfl T.q0i Yt (bz (dv 4) bw)) (cf qD)) ag (aD _)) (qB (BC (vD hr) r6 (df (aC aE aH (aC aE aH (dv 4) (br bF cu ag (dv 1))) ag)) (dw 2) rfl)))))
     case S=>refine' az (aM rW)
    case' Q=>refine' ao ?T ?U
    case T=>
     refine' rD (i:=2) (pv 2) ?V
     case' V=>refine' nO aE aH (df ?W) (df ag)
     case W=>exact(aC aE aH (dv 4) (br bF cu ag (dv 1)))
    case' U=>refine' az ?X
    case' X=>refine' bg (i:=0) vQ.nd rfl MH ?Y (hs:=se)
    case Y=>exact(au (aaq T) hr T.q1M (aa (dv 0) (aa (nO dB d9 (dw 2) (df (BW ag))) ah)))
   case F=>refine' az (aM rW)
  case B=>
  clear hr T;walk_at "d";refine⟨λi Y=>∃(ys:List De)(out:List Str)(o3 o4:Option Sl),Dr 5 6 4 ys/\(∀x∈ys,x.nm∈pl)/\out.Nodup/\out.length=i/\(∀z∈out,z∈pl/\V6 z=true)/\(∀x∈ys,x.isE=true->x.nm∉out)/\Y=[some (Sl.v (.tuple (ys.map De.enc))),some (Sl.v (.int sd)),some (Sl.o (out.map .str)),o3,o4],⟨xs,[],none,none,dr,hn,.nil,rfl,MC,MC,rfl⟩,?_,?_⟩
  ·rintro i z Y hz ⟨ys,out,o3,o4,dr,hn,nd,ol,op,no,rfl⟩;clear hz;generalize hB:cB (cw _ _ _) _=TB;walk_at "d";have g:=dr.good;have few:=dr.few MA;refine⟨ys,rfl,g,few,?_⟩;rcases AY g wa with hc|⟨k,c,a,b,F⟩
   ·rw[hc];subst hB;refine oQ λR hR=>?_;clear hR;walk_at "d";exact⟨ys,rfl,g,few,hc,q⟩
   ·rw[F.cl];obtain⟨nm,v,ea,d,e,he⟩:∃nm v,atI [.int k.d,.str c.nm,bA a,bA b] (2+sd)=some (.tuple [.str nm,v])/\∃d e,De.oth (VY "rule") d nm e∈ys:=by
     rcases hs with rfl|rfl
     ·obtain⟨l,e⟩:=F.st;obtain⟨z,hz,e1,_⟩:=L4 (z:=a) (show a∈tI ys k.d c _ by rw[e];simp);obtain⟨d,hd⟩:=Et g.gd hz;exact⟨a.1,a.2,rfl,d,_,by rw[e1];exact hd⟩
     ·obtain⟨l,e⟩:=F.go;obtain⟨z,hz,e1,_⟩:=L5 (z:=b) (show b∈tJ ys k.d c _ by rw[e];simp);obtain⟨d,hd⟩:=Et g.gd hz;exact⟨b.1,b.2,rfl,d,_,by rw[e1];exact hd⟩
    subst hB;clear F;generalize bA a=ca at*;generalize bA b=cb at*;refine oQ λR hR=>?_;walk_at "d";rw[M4 (by simp[mM])];subst hR;refine oQ λR hR=>?_;walk_at "d";have nn:nm∉out:=no _ he rfl;have ok:=g.gd.gx.nm _ he;have ol2:out.length<=5:=by rw[<-pll];exact Eu nd λz hz=>(op z hz).1
    simp only[GR];refine⟨_,rfl,λ_=>trivial,?_⟩;rw[M4 (by simp[BS]),M4 MA];refine⟨_,ea,_,rfl,_,bN,cQ.mpr ok,Jd λz hz=>(op z hz).2,?_⟩;rw[M4 (by
     rw[Yq];rintro⟨y,hy,e1⟩;obtain⟨z,hz,rfl⟩:=Wb.mp hy;rw[bT]at e1;exact nn (eq_of_beq e1▸hz))]
    subst hR;walk_at "d";refine⟨_,ea,_,rfl,_,bN,by rw[V0];omega,_,Bn,ys,nm,rfl,g,ok,ys.filter (wb nm),dr.sub YL,λx hx=>hn x (Wr.mp hx).1,out++[nm],?_,by rw[Wt,ol];rfl,λz hz=>?_,λx hx xe xn=>?_,rfl,by rw[Ww];rfl,_,rfl⟩
    ·rw[Yl];exact⟨nd,MC,λa ha b hb e=>nn (by rw[WH]at hb;rw[<-hb,<-e];exact ha)⟩
    ·rcases Wo.mp hz with h|h
     ·exact op z h
     ·rw[WH]at h;rw[h];exact⟨hn _ he,ok⟩
    ·obtain⟨h1,h2⟩:=Wr.mp hx;rcases Wo.mp xn with h|h
     ·exact no x h1 xe h
     ·rw[WH]at h;unfold wb at h2;rw[h,show(VY "rule"==x.w || VY "end"==x.w)=true by rcases(Lo x).mp xe with e|e<;>simp[e]]at h2;simp at h2
  ·rintro Y ⟨ys,out,o3,o4,dr,hn,nd,ol,op,no,rfl⟩;have:=Eu nd λz hz=>(op z hz).1;rw[xq]at ol;omega
def q0X:Fa:=λds Q=>∃ns:List Int,ds=[oU (ns.map .int)]/\ns.length<=63/\(∀z∈ns,XT z<=1048576)/\Q (.bool true)
def sp_law(Z:VZ):Sp:=aQ Z q0X
theorem start_law{ns:List Int}(hl:ns.length<=63)(hb:∀z∈ns,XT z<=1048576)(hS:bb Z H a (ns.map V.int)):sp_law Z [.ref a] H (λv _=>v= .bl true) λ_ _ _=>False:=
 ⟨λ_=>False,[oU (ns.map .int)],λd=>d= .bool true,λ_ z=>z.elim,.cons (.scr (by
  rcases hS with h|h
  ·exact .inl ⟨h,λz=>z⟩
  ·exact .inr (.inr h)) (ak.ints ns)) .nil,⟨ns,rfl,hl,hb,rfl⟩,λd v H' e _ r=>by subst e;cases r;rfl⟩
theorem ok_law(T:Txt Z mg t):aB P w Z mg base MX 22 t.q1C t.q0P ["_law_script"] (sp_law Z):=by
 refine T.q0X.F.okD Dv (λds Q h=>?_) (λ_ _ _ _ H O ds Q E hr h=>?_)
 ·obtain⟨ns,rfl,_⟩:=h;rfl
 ·obtain⟨ns,rfl,hl,hb,q⟩:=h;refine'⟨_,?A,?B⟩
  case A=>
   refine' ao ?C ?D
   case C=>exact(bg (i:=1) Dv.nd rfl MH (au (ab9 T) hr T.q1K (aa (dv 0) ah)))
   case' D=>refine' ao ?E ?F
   case E=>exact(bg (i:=2) Dv.nd rfl MH (au (Lc T) hr T.F_v (aa (dv 1) ah)))
   case' F=>refine' ao ?G ?H
   case G=>
    refine' bI ?I ?J bH
    case I=>exact(aN sP tw (dv 2) mI (aD _))
    case' J=>refine' az ?K
    case K=>exact(aM (au (L1 T) hr T.q0U (aa (dv 1) ah)))
   case' H=>refine' ao ?L ?M
   case L=>
    refine' bI ?N ?O bH
    case N=>exact(PW.pt (oW (rC (nZ (Hr (Z':=Z) (T:="tuple") rfl rfl T.q0M F1 (df (dv 2)) (ED (v:= .ty "tuple") rfl T.q0h ny rfl)))) (oW (aN (rE hr.units) rF (PE.imp (dA qy rfl T.q0i Yt (bz (dv 2) bw)) (cf qD)) ag (aD _)) (qB (rC (nZ (au (acH T) hr T.q1L (aa (dv 1) (aa (dv 2) ah)))))))))
    case O=>refine' az (aM rW)
   case' M=>refine' ao ?P ?Q
   case P=>
    refine' bI ?R ?S bH
    case R=>exact(PW.pt (oW (rC (nZ (au (VT T) hr T.q0V (aa (dv 1) (aa ag ah))))) (qB (rC (nZ (au (VT T) hr T.q0V (aa (dv 1) (aa ag ah))))))))
    case S=>refine' az (aM rW)
   case' Q=>refine' ao ?T ?U
   case T=>
    refine' bI ?V ?W bH
    case V=>exact(aN wx xD (au (Lc T) hr T.F_v (aa (au (VR T) hr T.q0W (aa (dv 1) (aa (bq (aa aZ (aa aZ ah))) ah))) ah)) mI (aD _))
    case W=>refine' az (aM rW)
   case' U=>refine' az ?X
   case' X=>refine' aM ?Y
   case Y=>exact(nz sP tw (df (au (Lc T) hr T.F_v (aa (au (VR T) hr T.q0W (aa (dv 1) (aa (bq (aa aZ (aa aZ ah))) ah))) ah))) (df mI) (aD _))
  case B=>
  clear hr T;generalize hB:cB (cw _ _ _) _=TB;walk_at "d";refine⟨ns,rfl,hb,λxs pl dr pll hn=>⟨xs,rfl,dr.good,dr.few MA,?_⟩⟩;have g:=dr.good;have few:=dr.few MA;by_cases hc:pL xs= .none
  ·rw[hc];subst hB;refine oQ λR hR=>?_;clear hR;walk_at "d";exact⟨xs,rfl,g,few,hc,q⟩
  ·obtain⟨k,c,a,b,F⟩:=(AY g wa).resolve_left hc;have ec:=F.cl;rw[ec];clear F;generalize bA a=ca at*;generalize bA b=cb at*;subst hB;refine oQ λR hR=>?_;walk_at "d";rw[M4 (by simp[mM])];subst hR;refine oQ λR hR=>?_;walk_at "d";simp only[GR];refine⟨_,rfl,λ_=>trivial,?_⟩;rw[M4 (by simp[BS]),M4 MA];refine⟨xs,by rw[ec],g,few,hc,true,rfl,?_⟩;rw[M4 MA];subst hR;refine oQ λR hR=>?_;walk_at "d";refine⟨xs,pl,0,rfl,.inl rfl,dr,pll,hn,true,rfl,?_⟩;rw[M4 MA];refine⟨xs,pl,1,rfl,.inr rfl,dr,pll,hn,true,rfl,?_⟩;rw[M4 MA];subst hR;have gs:∀a b,bX (xs.filter (qt a b)):=λa b=>(dr.sub YL).good;have fs:∀a b,qP (xs.filter (qt a b)):=λa b=>(dr.sub YL).few MA;walk_at "d";refine⟨xs,_,_,rfl,g,MN,MN,_,rfl,gs _ _,fs _ _,?_⟩;rw[L6 (gs _ _) (.inl ⟨rfl,rfl⟩)];dsimp only;refine⟨xs,_,_,rfl,g,MN,MN,_,rfl,gs _ _,fs _ _,?_⟩;rw[L6 (gs _ _) (.inr ⟨rfl,rfl⟩)];exact q
end K66
namespace PySem.W.Fast
def tw3619471294258755779:=0
def tw4666861581593650768:=0
def tw6365518129581775931:=0
def tw5483346690542663355:=0
def tw10902762367435747893:=0
def tw7014067710503159098:=0
def tw14537134531264220276:=0
def tw9921882037785188779:=0
def tw6919526682381397260:=0
def tw14434611926704065450:=0
def tw14298476745925079148:=0
def tw9511586792330342137:=0
def tw5568939727717117484:=0
def tw12667882095635143643:=0
def tw7815693394216540006:=0
def tw15836606043790390571:=0
def tw12457555659544884004:=0
def tw10271712382279639284:=0
def tw18265225838674567502:=0
def tw10976957052714034897:=0
def tw12161367966854932237:=0
def tw6055530038129112881:=0
def tw14360331695100658058:=0
def tw3422412728142320242:=0
def tw206130549641258142:=0
def tw15516241711715219500:=0
def tw2487098011973952739:=0
def tw15566001040510195357:=0
def tw10227122886990928132:=0
def tw4537073530232916158:=0
def tw13846070697526034517:=0
def tw14366605033826024707:=0
def tw15361838384577603992:=0
def tw1938840626683143232:=0
def tw16984220314283959948:=0
def tw9348323411571429861:=0
def tw4523233617338907034:=0
def tw17572438973429404807:=0
def tw4684034385845725299:=0
def tw9505255465163638021:=0
def tw3862182085976083412:=0
def tw11080860448303010369:=0
def tw13236051796006701528:=0
def tw8062115407920553383:=0
def tw208972620226979717:=0
def tw13199569614381097645:=0
def tw11927717500020066270:=0
def tw8545357369310657140:=0
def tw14859095616968588387:=0
def tw11738876593567897349:=0
def tw6281977073615597984:=0
def tw17260636393736394829:=0
def tw2570846882325066034:=0
def tw17106431820168255012:=0
def tw9185731851225383753:=0
def tw7602226101064443488:=0
def tw16160013706566171296:=0
def tw10989094009227579592:=0
def tw9864214404616434845:=0
def tw18121692513904055277:=0
def tw18417102864803458592:=0
def tw6149867531208923622:=0
def tw4296697298656630:=0
def tw1490691023026109095:=0
def tw2624992234193352582:=0
def tw14632246011594386329:=0
def tw10236004054488753939:=0
def tw16478380149494305247:=0
def tw7809377363897373395:=0
def tw12465207820508436616:=0
def tw2746575197260168645:=0
def tw15367043711011703381:=0
def tw6052655891642691262:=0
def tw16424152886309632187:=0
def tw14806278117198150393:=0
def tw18123954888775850315:=0
def tw3852075805324793659:=0
def tw8793958038261538152:=0
def tw4755986987478318338:=0
def tw4206807589195057876:=0
def tw18288433835928087840:=0
def tw15789736879818919684:=0
def tw11779913037511005340:=0
def tw4012766921873450858:=0
def tw15634759297317779191:=0
def tw7930461038179184979:=0
def tw8151103998285574688:=0
def tw7387275161107006857:=0
def tw13238380856705941613:=0
def tw13721298966972690606:=0
def tw212340236020249883:=0
def tw15818011886662522081:=0
def tw13204226578631070275:=0
def tw17648271378766493073:=0
def tw15343515655470091627:=0
def tw17373376139330093551:=0
def tw3695284502008130617:=0
def tw2356815436903760556:=0
def tw17974251539668372239:=0
def tw5694521996403911813:=0
def tw139940356795360882:=0
def tw5128103960968531045:=0
def tw15463509966375147975:=0
def tw10884782949061912891:=0
def tw2534474878246339012:=0
def tw4097620165711561196:=0
def tw11068848630071866732:=0
def tw14966571288877164281:=0
def tw12088679850976588879:=0
def tw7042987251464643985:=0
def tw3296944468289639594:=0
def tw10987998625879352496:=0
def tw3142663319126740933:=0
def tw14826380401253105635:=0
def tw7799388308190084532:=0
def tw17812801738147362431:=0
def tw4870927014687650668:=0
def tw7684753718097665298:=0
def tw664098105743813620:=0
def tw17137819520769493116:=0
def tw16180008682142236917:=0
def tw9999176349236132925:=0
def tw9295588431621183576:=0
def tw4209072130748111788:=0
def tw17807011316772246710:=0
def tw10058221246011449203:=0
def tw4418493396369003833:=0
def tw423558159526448332:=0
def tw4465006791737830636:=0
def tw435025778405810842:=0
def tw16762163718213381332:=0
def tw13717485744911280873:=0
def tw10565755956825773362:=0
def tw3462754513140781623:=0
def tw8999431297571087756:=0
def tw17208206373174300255:=0
def tw2686034720179589442:=0
def tw17396545659719363038:=0
def tw13970048683589918094:=0
def tw16070332369366616571:=0
def tw13381858191095326907:=0
def tw4516912819102867292:=0
def tw11311985153424107140:=0
def tw4375996204252822470:=0
def tw11453149707379156819:=0
def tw17408387993389101019:=0
def tw2620435597913378838:=0
def tw17486282407818867833:=0
def tw3446976730851868557:=0
def tw256894829581919632:=0
def tw10790810121593218434:=0
def tw11835467250963602332:=0
def tw8315803759018236188:=0
def tw1368560926130022411:=0
def tw220277473552668444:=0
def tw5075970321096231692:=0
def tw3070628890266370214:=0
def tw5062308403862985557:=0
def tw11441617963770901910:=0
def tw10812773985743557316:=0
def tw4176667496668058319:=0
def tw5445638095174962853:=0
def tw16388073929045206120:=0
def tw7846980777409128946:=0
def tw11236014076999148626:=0
def tw9621916761507131801:=0
def tw9983116758990908307:=0
def tw3126010638427831410:=0
def tw39668442463790834:=0
def tw15682278194097617423:=0
def tw2536916256571069028:=0
def tw16571803376580120110:=0
def tw18336468118193139080:=0
def tw715438783250169121:=0
def tw17585364480271673380:=0
def tw13544767021066349901:=0
def tw11916609817920897584:=0
def tw4700519738499221350:=0
def tw17287988986416497815:=0
def tw8948101071662320266:=0
def tw14938534442531897356:=0
def tw15644850506867031428:=0
def tw16482209913661235199:=0
def tw6216565875935233107:=0
def tw3739213949379225237:=0
def tw6708707215161743267:=0
def tw7530183595358246377:=0
def tw3995482234040040768:=0
def tw4410959277796724187:=0
def tw4944802563628484024:=0
def tw806631280548426568:=0
def tw5167754133377355065:=0
def tw2378414053682874876:=0
def tw3002066707190505252:=0
def tw10923851613019268061:=0
def tw15194660073835796996:=0
def tw4506331798707218885:=0
def tw8464067513668612149:=0
def tw9932162401633864468:=0
def tw12523383762491765144:=0
def tw2650962136095968741:=0
def tw8669544203190068526:=0
def tw6767318799125271198:=0
def tw4603012522786867168:=0
def tw16119763653152066717:=0
def tw13856127290341737236:=0
def tw284519726434875182:=0
def tw10371861445226230605:=0
def tw8133253414394587477:=0
def tw7891871098133476025:=0
def tw8741393095821744687:=0
def tw14219678480383479654:=0
def tw254524901954763389:=0
def tw11285820319903337705:=0
def tw10869269445351379907:=0
def tw4077698284249911423:=0
def tw17644295826094696368:=0
def tw11680709898998381607:=0
def tw17062666321723390758:=0
def tw8410740637630417841:=0
def tw611792841567942272:=0
def tw5175307561568669516:=0
def tw36433782562393245:=0
def tw12918455257394562234:=0
def tw11760873689094825330:=0
def tw1463726540509855264:=0
def tw11241076615710456322:=0
def tw11375366016894522981:=0
def tw4123896593823424024:=0
def tw2789961892919615302:=0
def tw16617148359990218311:=0
def tw16466288636962127674:=0
def tw9081877043300045233:=0
def tw2283724583353861451:=0
def tw12996308633745053652:=0
def tw12094907405420435383:=0
def tw10228774892057615075:=0
def tw8585871044502038733:=0
def tw1799481433627652841:=0
def tw14460710027301037970:=0
def tw12598972337351508540:=0
def tw7416672886438120320:=0
def tw12416181237360134895:=0
def tw7634218804291670180:=0
def tw16091227929782339056:=0
def tw5861228591247902282:=0
def tw304535446372909298:=0
def tw2064817388928455559:=0
def tw13754269919886361262:=0
def tw7370848344906628217:=0
def tw6166832580073106616:=0
def tw3984564634824578314:=0
def tw6869063207273697355:=0
def tw18179899646977622659:=0
def tw7148360644516826585:=0
def tw6376794062354017282:=0
def tw14103841600699569959:=0
def tw12049953924723477352:=0
def tw13315844686451118041:=0
def tw3898154121276981773:=0
def tw8103698232238840838:=0
def tw18189426244256319021:=0
def tw16886215852727186884:=0
def tw14747721854458705963:=0
def tw16056443659557024394:=0
def tw5393245129891807111:=0
def tw14384375227747441520:=0
def tw1257848475953333743:=0
def tw8909645960678105111:=0
def tw1476533356246477784:=0
def tw402345325729259807:=0
def tw17822390740252349904:=0
def tw12175460484700231938:=0
def tw11646455774722628973:=0
def tw11547401608158114579:=0
def tw2009559553749426879:=0
def tw12097399433342013212:=0
def tw14653244226464488893:=0
def tw6716939710367772092:=0
def tw9002395871616103877:=0
def tw14226768218239643164:=0
def tw17918656498731004599:=0
def tw10300582889706531517:=0
def tw2091343376378847731:=0
def tw3678989827478621268:=0
def tw16381305327638790115:=0
def tw12419552065875268840:=0
def tw2214184407791203961:=0
def tw7443436156825637383:=0
def tw5874850054291616296:=0
def tw7576495794987961197:=0
def tw18270893786926258180:=0
def tw17955792627047173685:=0
def tw2854577260575707991:=0
def tw4807555817816833683:=0
def tw8074456658684202594:=0
def tw5680375263129582333:=0
def tw17143376295537000141:=0
def tw12803822579483250252:=0
def tw18403173496400611320:=0
def tw2484614666105390352:=0
def tw18161896153626311460:=0
def tw13025776019086750670:=0
def tw12132637360628281960:=0
def tw16207657689489725793:=0
def tw16789096084715503327:=0
def tw17265745791611867851:=0
def tw69383417956451525:=0
def tw5296132175909657680:=0
def tw235849845182676954:=0
def tw12453685140539709267:=0
def tw13636188676682937698:=0
def tw842969536741160814:=0
def tw4089476559235694895:=0
def tw16139278159899605251:=0
def tw13406699651687044795:=0
def tw16345866567363073443:=0
def tw10887143238640973281:=0
def tw8983228504636211470:=0
def tw6641711172547617045:=0
def tw16352526648051388309:=0
def tw13649608231466908537:=0
def tw10064367186784850678:=0
def tw11329682168625501206:=0
def tw4817186029013574754:=0
def tw3783500306536686615:=0
def tw2369883366564649433:=0
def tw2108249960228519402:=0
def tw16307057294817708752:=0
def tw5472509940635467672:=0
def tw6081211049840323076:=0
def tw9838302495457156610:=0
def tw740022763698470221:=0
def tw7138340582327237674:=0
def tw4762864248330589817:=0
def tw17183274607425798878:=0
def tw9939196423073592827:=0
def tw9900013203921019395:=0
def tw9654657057009505029:=0
def tw9524423269129983671:=0
def tw8943039232325750315:=0
def tw8868857767917014825:=0
def tw8517711539099084961:=0
def tw8224492716131858844:=0
def tw8203211263772673687:=0
def tw8110244950534863077:=0
def tw7896245189092255230:=0
def tw7808896235435056700:=0
def tw779896198323499450:=0
def tw7652635328438146428:=0
def tw7462692677727927344:=0
def tw7321831776039017712:=0
def tw7156339803194613250:=0
def tw7099465379356987189:=0
def tw7083144116716339327:=0
def tw6948189294658328112:=0
def tw6901141465886525554:=0
def tw6778939729947790901:=0
def tw6649778082454870201:=0
def tw5939640428378696192:=0
def tw5903062461139641194:=0
def tw5853181529517551146:=0
def tw5793255624715616225:=0
def tw5634848732495822800:=0
def tw5583893181086562247:=0
def tw5565206822778126509:=0
def tw5250661491822344789:=0
def tw5064971189538045469:=0
def tw498551554014481063:=0
def tw4926187643688502454:=0
def tw4490124620884680509:=0
def tw4464679911082327507:=0
def tw4448386105299987399:=0
def tw3913582748269353660:=0
def tw35255910903828912:=0
def tw3472586297399288990:=0
def tw3260195868139844224:=0
def tw3221235947384198595:=0
def tw2632067723291694898:=0
def tw2211270672408316115:=0
def tw2194517740178239236:=0
def tw1998402500334824462:=0
def tw1928184168071782554:=0
def tw1883559472267214964:=0
def tw18382133151295436935:=0
def tw1836456023197872877:=0
def tw1814406260344672726:=0
def tw18019947242801216627:=0
def tw17766721484503669339:=0
def tw17638242822481535613:=0
def tw17589637122753543911:=0
def tw17479627521910043444:=0
def tw17469570154654104571:=0
def tw17406939187464159845:=0
def tw17349182404354645516:=0
def tw17054491391419038152:=0
def tw16954674924221547717:=0
def tw16942277674576209515:=0
def tw16849408937116990117:=0
def tw1684782442373447823:=0
def tw16717921697565019917:=0
def tw16554169960592346461:=0
def tw16527981538920857617:=0
def tw16475882282925221733:=0
def tw16391831725316111412:=0
def tw16143379288446716455:=0
def tw1613411638307513363:=0
def tw1612207463602171905:=0
def tw15966310402865650331:=0
def tw15963793936291461872:=0
def tw15873018746721239938:=0
def tw15752285457942683270:=0
def tw15552862866682867166:=0
def tw15474384506397836551:=0
def tw15412517569131986188:=0
def tw15409977693703644470:=0
def tw15232569857203447479:=0
def tw14739383751444043662:=0
def tw1432993024590344561:=0
def tw14153929282900399379:=0
def tw14035071871507545613:=0
def tw14030172860483281769:=0
def tw14026461799326089678:=0
def tw14012993073515257752:=0
def tw13896141044302900150:=0
def tw13857747243491217226:=0
def tw13588991503556571078:=0
def tw13542011213903843754:=0
def tw13400540119520912036:=0
def tw13377376657890934094:=0
def tw13262336834063851444:=0
def tw13134351162001781273:=0
def tw13086426041168995563:=0
def tw13058874572634548422:=0
def tw1293477939122939197:=0
def tw12894673394586976716:=0
def tw12841005663442419701:=0
def tw12528782352949355668:=0
def tw12280870126725646579:=0
def tw122446739011083872:=0
def tw12224331705902361625:=0
def tw12172073622496687165:=0
def tw11765614110968612048:=0
def tw1164731456711603258:=0
def tw11243544422500284290:=0
def tw11230357965510115125:=0
def tw11181781096669591870:=0
def tw10961436362413973283:=0
def tw10381532321020945439:=0
def tw10197288995130237814:=0
def tw10016103744238866243:=0
end PySem.W.Fast
open PySem PySem.W PyProof.Rows
local macro_rules | `(tactic| walk_at "f")=>`(tactic| (refine' L2.Mi.of ?a ?l ?c ?k;(case a=>k_is);(case l=>k_is);(case c=>k_is);(case k=>k_is)))
local macro_rules | `(tactic| walk_at "m")=>`(tactic| (refine' L2.NQ.of ?a ?i ?l ?c ?k;(case a=>k_is);(case i=>k_is);(case l=>k_is);(case c=>k_is);(case k=>k_is)))
local macro_rules | `(tactic| walk_at "c")=>`(tactic| (refine'⟨⟨?a,?i,?l,?c⟩,?m,?k⟩;(case a=>k_is);(case i=>k_is);(case l=>k_is);(case c=>k_is);(case m=>k_is);(case k=>k_is)))
set_option maxRecDepth 100000 in
theorem PySem.Challenge.cw_goneday_k66_whole_no_clash_where_no_pair_holds : PySem.Challenge.rw_goneday_k66_whole_no_clash_where_no_pair.Holds := by
 w_on;o_law;k_head;(case hw=>w_witness2)
 k_fill
 refine L2.walk_ofBK (l:=PySem.Challenge.rw_goneday_k66_whole_no_clash_where_no_pair) (n:=63) (k:=22) (x:="_law_script") (CX:=L2.MX) (sp:=K66.sp_law) rfl MA rfl ⟨rfl,MA,MA⟩ (λw h Y=>PySem.W.kIn_of Y) ?F ?S ?C
 case F=>
  intro w mg fa h KX G hmg;have T:∃t,K66.Txt (L2.Th KX) mg t:=by
   dsimp only[L2.Th];refine' K66.txt_mk KX G ?za ?zb ?zc ?zd ?ze ?zf ?zg ?zh ?zi ?zj ?zk ?zl ?zm ?zn ?zo ?zp ?zq ?zr ?zs ?zt ?zu ?zv ?zw ?zx ?zy ?zz ?zA ?zB ?zC ?zD ?zE ?zF ?zG ?zH ?zI ?zJ ?zK ?zL ?zM ?zN ?zO ?zP ?zQ ?zR ?zS ?zT ?zU ?zV ?zW ?zX ?zY ?zZ ?ya ?yb ?yc ?yd ?ye ?yf ?yg ?yh ?yi ?yj ?yk ?yl ?ym ?yn ?yo ?yp ?yq ?yr ?ys ?yt ?yu ?yv ?yw ?yx ?yy ?yz ?yA ?yB ?yC ?yD ?yE ?yF ?yG ?yH ?yI ?yJ ?yK ?yL ?yM ?yN ?yO ?yP ?yQ ?yR ?yS ?yT ?yU ?yV ?yW ?yX ?yY ?yZ ?xa ?xb ?xc ?xd ?xe ?xf ?xg ?xh ?xi ?xj ?xk ?xl ?xm ?xn
   (case za|zb|zc|zd|ze|zf|zg|zh|zj|zk|zl|zm|zn|zo|zp|zq|zr|zs|zt|zu|zv|zw|zx|zy|zz|zA|zB|zC|zD|zE|zF|zG|zH|zP|zQ|zR|zS|zT|zU|zV|zW|zX|zY|zZ|ya|yb|yc|yd|ye|yf|yg|yh|yi|yj|yk|yl|ym|yn|yo|yp|yq=>walk_at "f")
   (case yr|ys=>k_is)
   (case yt=>first | (repeat (first|exact .nil|refine .cons ⟨_,rfl⟩ ?_)))
   (case yu=>decide)
   (case yv=>k_is)
   (case yw=>exact⟨_,rfl⟩)
   (case yx=>k_is)
   (case yy=>exact⟨_,rfl⟩)
   (case yz=>k_is)
   (case yA=>exact⟨_,rfl⟩)
   (case yB|yC|yD|yE=>k_is)
   (case yF=>walk_at "c")
   (case yG|yH|yI|yJ|yK=>unfold L2.NoAttr;k_is)
   (case yL=>walk_at "c")
   (case yM|yN|yO|yP|yQ|yR=>unfold L2.NoAttr;k_is)
   (case yS=>walk_at "c")
   (case yT|yU|yV|yW|yX|yY=>unfold L2.NoAttr;k_is)
   (case yZ|xa|xb|xc|xd|xe|xf|xg|xh|xi|xj|xk|xl|xm|xn=>k_is)
   (case zi|zI|zJ|zK|zL|zM|zN|zO=>walk_at "m")
  obtain⟨t,T⟩:=T;have e0:=hmg.symm.trans T.q0X.m;cases e0;exact⟨t.q0P,T.q2c,λbase kb nb=>K66.ok_law T⟩
 case S=>exact λZ H a ns hl hb hO hS=>K66.start_law hl hb hS
 case C=>exact λ_ _ _ _ z=>z
