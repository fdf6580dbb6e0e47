import PyProof.Rows.All
import Wide.All
import OpenK.AllK
import PySem.Challenge.RW_goneday_k24_whatever_the_order
open PySem.Str renaming ofString->QU,ofString->QX
open PySem.W renaming Frag->QV,nsIn->R1,mg_none_of->R8,findIn->S8,keepIn->S9,emptyDict->Ta,fnOf->Te,instObj->TU,mg_of->T5,methodCall_KW->U2,callWith_K->Vj,codeIn->Vr,cellsFrom_some->Vw,plainGet->VC,isFn->VH,plainGet_of->VO,lookIn->VR,methodObj->Wb,hasDictIn->We,takerIn->WH,makesIn->WI,callWith_K0->W3,plainOver->Xn,handedIn->Xz,OpenLaw->XO,WalkO->X0
open List renaming length_map->QW,map_cons->Q0,mem_cons->Q4,getElem?_eq_some_iff->Q7,length_cons->Q8,getElem?_map->Q9,length_append->Ra,size_toArray->Rc,mem_map->Rf,getElem?_set_ne->Rg,replicate->Ri,mem_append->Rj,mem_singleton->Rk,map_map->Rm,map_append->Rq,not_mem_nil->Rt,mem_cons_of_mem->Ru,getElem?_set_self->Ry,take_of_length_le->Rz,mem_of_getElem?->RA,getElem?_eq_getElem->RF,lookup_cons->RG,length_take->RI,length_filter_le->RJ,mem_cons_self->RK,append_nil->RN,mem_filter->RP,filter_cons->RQ,length_nil->RR,take_succ->RT,map_nil->RW,foldl_cons->RX,getElem?_cons_succ->RY,map->RZ,mem_append_right->R0,getElem?_append_left->R4,nil_append->R7,find?_cons->Sa,cons_append->Sd,any_cons->Se,pairwise_map->Sm,getElem?_append_right->Ss,getElem?_cons_zero->Su,pairwise_cons->Sy,nodup_cons->Sz,filterMap_cons->SD,getElem?_eq_none->SF,range->SO,replicate_succ->SR,set_cons_zero->SW,set_cons_succ->SX,getElem?_nil->Tb,map_congr_left->Tc,length_singleton->Td,getElem_mem->Tg,length_drop->TH,take_append_drop->TQ,map_take->T4,all_cons->T8,getElem?_replicate->T9,any_eq_true->Ua,filter->Ue,sum_cons->Uo,flatten_cons->Ut,foldl_append->Uu,mem_of_mem_take->UA,ext_getElem->UD,all_nil->UG,any_nil->UH,flatMap_append->UI,mem_filterMap->UN,lookup->UR,drop_of_length_le->US,append_assoc->UX,length_range->UY,mem_append_left->U5,pairwise_append->U6,getD_eq_getElem?_getD->U7,perm_ext_iff_of_nodup->U8,filter_sublist->U9,drop_eq_getElem_cons->Vc,pairwise_iff_getElem->Vh,find?_eq_none->Vl,length_filterMap_le->Vq,pairwise_singleton->Vt,getElem_inj->VB,length_replicate->VE,filterMap_append->VG,any_map->VL,Nodup->VM,eq_nil_of_length_eq_zero->VN,getElem_of_mem->VP,tail_cons->VS,length->VU,contains_cons->VY,filter_append->VZ,length_eraseIdx_of_lt->V6,map_drop->V8,any_eq_false->Wc,nodup_append->Wh,flatMap_cons->Wi,mem_of_find?_eq_some->Wl,all_eq_true->Wt,getElem?_set_self'->WC,length_eq_zero_iff->WG,of_mem_zip->WJ,range_succ->WK,pairwise_lt_range->WN,mem_range->WQ,perm_append_comm->WW,mem_of_mem_drop->W0,getElem?_of_mem->W2,filterMap_map->Xd,toArray->Xh,filter_filter->Xj,append_of_mem->Xk,find?_append->Xv,not_lt->Xy,le_antisymm->XC,map_snd_zip->XF,take_length->XG,mem_flatMap->XH,foldl->XJ,forIn_cons->XM,forIn_nil->XW,take_zero->XX,lt_trans->X3
open Nat renaming le_refl->QY,le_trans->Rx,ne_of_lt->RH,zero_le->RL,lt_of_lt_of_le->R6,le_succ->Sr,lt_succ_of_lt->Sv,reduceAdd->SM,reduceSub->SN,lt_succ_self->S4,lt_irrefl->S5,lt_or_ge->Tf,le_of_not_lt->TJ,reduceLeDiff->TK,le_of_lt->TV,ne_of_gt->TX,sub_self->TZ,zero_add->T1,add_zero->Uh,reduceLT->Ui,le_succ_of_le->U0,lt_of_le_of_lt->Vp,add_le_add->VT,eq_zero_or_pos->VW,le_of_succ_le->Wg,min_le_right->Wr,succ_le_succ->Wy,mul_le_mul_left->W5,add_le_add_left->W6,le_of_eq->Xa,min_eq_left->XR,lt_trans->X9,mul_succ->Ya
open PySem.PyData renaming str->QZ,strOk->Q2,eqv->Rr,int->Rv,tuple->RB,canLay0->RS,canLayAll0->SH,list->SI,eqvAll->S7,bool->UT,none->UW,depth->U3,depthAll->Vd
open PySem.Heap renaming get?_push_of_some->Q1,lt_size->Rh,get?_push_size->Rl,get?_update_self->SV,SameBut->Tx,size_push->TM,get?_update_other->Ud,ExtBut->WM,get?_update_ne->W4,get?_push_ne->Xo
open PySem.ScopeKind renaming function->Q3
open Bool renaming false_ne_true->Q5,and_eq_true->R5,false_eq_true->Sg,not_eq_true'->Sw,true_and->SA,false_or->S6,true_eq_false->Tj,not_eq_true->Tp,or_false->Tq,not_false->Uc,not_true->Ur,and_true->Us,eq_iff_iff->UO,false_and->U1,or_eq_true->Vg,not_eq_false->Wj,and_false->XU,and_comm->X5
open PySem renaming Spec->Q6,Scope->RD,boot_len->R9,mem_of_lookup->Tw,Within->W9,Fin->Xi,call->XN
open PySem.NameKind renaming free->Rb,globalImplicit->RC,free->SJ,cell->Vz,cell->W7
open Array renaming length_toList->RE,getD_eq_getD_getElem?->SG,getD->Ux,getElem?_eq_getElem->Uy,getElem?_toList->VF,perm_iff_toList_perm->V7,toList_inj->Wv,getElem?_eq_none->WO,mem_toList_iff->WX,toList_push->Xq,toList_map->XD,toList_zip->XE,toList->X7
open PySem.Value renaming ref->RM,none->SS,int->TL,str->UK,bool->UL,type->UM,isInt_shape->Xm,isInt->Xx,isStrOf->XZ,bytes->Yb,float->Yc
open List.cons renaming injEq->RO,inj->V9
open PySem.PassesOwn renaming never->RU
open PySem.Heap.SameBut renaming update->RV
open Option.some renaming inj->R3,injEq->Sn
open PySem.PyData.int renaming injEq->Sb
open PySem.PyData.tuple renaming injEq->Si
open PySem.PyData.str renaming injEq->Sj
open Int renaming toNat_natCast->Sk,eq_ofNat_of_zero_le->SY,emod_lt_of_pos->To,emod_nonneg->T2,reduceNeg->T6,reducePow->T7,reduceLT->Uj,reduceLE->Uk,fdiv_eq_ediv_of_nonneg->V2,fmod_eq_emod_of_nonneg->V3,lt_trichotomy->Xt,le_antisymm->XS,le_refl->Yg
open PySem.Obj renaming mapSeq->So,data_mapFields->SQ,isFreed_of_fields->Ul,cls_mapFields->Vv,putSet->Wm,mapFields->X2
open PySem.SeqAt renaming canLay_of_shaped->Sq,shaped->Tz,EqAt->Yk
open Sum renaming inr->Sx,inl->Wq
open PySem.Builtin.Int renaming intBits->SE
open PySem.SetTable renaming below->SK,grown->Ub,orStandIn->Xf,sizeAbove->Xg,layClean->Xp,relaid->XQ,laid->X1,slot->X4
open PySem.PyData.list renaming injEq->SU
open False renaming elim->S0
open Option renaming join_some->Th,join_none->Ti,map_some->Tu,map_none->Tv,map_eq_some_iff->TC,isSome_iff_exists->UB,isSome_map->Vu,getD_none->Ws,isSome_some->Xe,mem_toList->Xw,bind->Yh
open PyProof.Rows renaming boot_sorted->Tn,callWith_type1->Tt,slot_tuple_getitem->TR,bubble->VQ,boot_sum->WV,entry_tuple_getitem->XB,args_tuple_getitem->XI,boot_min->Yi,boot_max->Yj
open True renaming intro->Tr
open PySem.PyData.bool renaming injEq->Ts
open PySem.F renaming slot_dict_get->TN,plainAttrs_list->UJ,entry_dict_get->UU,args_tuple_add_2->Vk,slot_list_extend->Vm,entry_tuple_add->Vs,slot_tuple_add->Vx,plain_extend_loop->Wn,type_list_extend->Wu,slot_list_insert->Wx,args_dict_get_2->Wz,args_dict_get_3->WA,plainAttrs_dict->WB,plain_list_iadd->WE,type_dict_get->WS,plain_set_new->WT,slot_set_iter->WU
open PySem.Builtin.List renaming listTooLong->TY,listFitsIndex->Um,listLengthHint->VV,listExtendWith->VX,listSameRef->Ww,listUpdate->WD
open Function renaming comp->T3
open PyProof.Rows.F renaming plain_set_update_loop->Ug,entry_set_update_loop->Vn
open PySem.Builtin.Slice renaming slicePlaces->Uv,sliceAdjust->Va,sliceApplied->V4,sliceFields->X6
open PySem.Around renaming under_plainId->Uw,under->Xb
open PySem.Builtin.SmallTypes renaming nextOf->Uz
open PySem.Builtin.Tuple renaming tupleExact->UC,tupleItemsOf->V5
open PySem.AutoSeq1 renaming wpAny_loadPart'->UE,list_extend_list_list_0->VD
open PySem.W.WData renaming int->UP,weightAll->Vb,list->Wk,layableAll->XA,weight->X8
open ForInStep renaming yield->UQ
open PySem.SetTable.below renaming go->UZ
open PySem.Expr renaming Subscript->U4,BinOp->Wo,List->Xl,Tuple->XT,Call->Yn
open PySem.Calls renaming call_function_entry->Ve,spliced_cons->Vi,callWith_builtin->Vy,evalArgs_plain->VI,Name_function_global->V1,spliced_nil->Wf
open PySem.W.KasT renaming kasWp_bind->Vf
open Nat.succ renaming inj->Vo
open Prod.mk renaming injEq->VA
open Or renaming inr->VJ,inl->WR
open PySem.Paired renaming length->V0,snoc->Yf
open PySem.Txt renaming mul->Wa
open PyProof renaming noPylong_small->WL
open PySem.SeqAt.RcAt renaming tuple_str->WY
open PySem.SeqAt.EqAt renaming str_tuple->WZ,str_int->W8
open PySem.Code renaming isFrame->Xc,frames->Ye
open PySem.PyData.dict renaming injEq->Xr
open PySem.SetTable.probe renaming go->Xs
open List.Sublist renaming refl->Xu
open PyProof.Rows.IsTup renaming new->XY
open PySem.CmpOp renaming NotIn->Yd
open PySem.Walks renaming list->Yl
open PySem.Heap.IsSliceOf renaming new->Ym
open PySem.Heap.DictOf renaming new->Yo
open PySem renaming PyData->Yw,Value->Yx,wpAny_bind->Yy,Addr->Yz,Shared->YA,wpAny_pure->YB,wpAny->YC,starEach->YD,model->YE,Expr->YF,FuncData->YG,sizeLine->YH,Program->YI,World->YJ,Heap->YK,Stmt->YL,mainGlobals->YM,Around->YN,foldedSetIterable->YO,backTo->YR,swapsWith->YS,wpAny_newObj_type->YT,compareOp->YU,wpAny_call_entry->YV,wpAny_callSpecial?_slot->YW,bootBuiltins->YX,wpAny_mono->YY,cLine->Y0,sizeLine_eq->Y1,wpAny_holding->Y2,behindInMarks->Y3,attributeBase->Y4,cellsFrom->Y5,keywordEach->Y6,wpAny_truthy_bool->Y7,binaryOp->Y8,NameKind->Y9,Scope->Za,wpAny_loadPart'->Zb,SetTable->Zc,wpAny_setField->Zd,sysModules->Ze,rawInt->Zf,wpAny_Call_Name_kw->Zg,tupleKind_room_in1->Zh,wpAny_passesOwn->Zi,Keyword->Zj,backToKw->Zk,wpAny_setState_of->Zl,call_meets->Zm,codeAny_mono->Zn,wpAny_askSetting->Zo,wpAny_setEntries_of->Zp,codeAny->Zq,pyNext->Zr,codeAny_builtin->Zs,scanBound->Zt,wpAny_field->Zu,firstArgMember->Zv,PassesOwn->Zw,wpAny_newList->Zy,wpAny_attempt->Zz,getItem->ZC,sliceBounds->ZD,wpAny_pyIter_tuple->ZF,intKind->ZG,holding->ZH,assignEach->ZI,setNext->ZJ,wpAny_pyIter_enum->ZK,wpAny_of_eq->ZL,plainId_quiet->ZM,relayAll->ZN,wpAny_isInstance->ZO,tupleKind->ZP,standAt->ZR,getMethod->ZS,wpAny_execs_nil->ZT,letOwnedTupleGo->ZU,wpAny_typeOf->ZV,typeIs_str->ZW,wpAny_rule->ZX,wpAny_ite_split->ZY,wpAny_fieldsOf->Z1,wpAny_seqItems->Z2,subscripted->Z3,DictEntry->Z4,pickOrder->Z5,wpAny_letOwnedTupleGo_enum->Z6,wpAny_pyIter_list->Z7,noFill_tuple_add->Z8,wpAny_comprehension_free->Z9,GenState->aaa
open PyProof.Rows renaming seqObj->YQ,IntsAre->YZ,envOfC->Zx,listUpdate_at->ZA,get?_update_seq->ZE,AllBare->ZQ,entry_list_sort->ZZ,slot_list_sort->Z0
theorem Yp{p:Prop}[Decidable p](h:decide p=true:=by decide+kernel):p:=of_decide_eq_true h
theorem Yq{p:Prop}(h:p:=by decide):p:=h
theorem Yr{p:Prop}(h:p:=by omega):p:=h
theorem Yv{p:Prop}(h:p:=by simp):p:=h
theorem Ys{c:Prop}{h:Decidable c}(k:¬c){α:Sort u}{t e:α}:ite c t e=e:=if_neg k
theorem Yt{c:Prop}{h:Decidable c}(k:c){α:Sort u}{t e:α}:ite c t e=t:=if_pos k
abbrev aab:=PySem.NameKind.local
set_option compiler.extract_closed false
def rzS:="↓mU ↓mW ↓mX ↓mY ↓mZ ↓mV ↓kH ↓mw ↓ny ↓nz ↓nA ↓nB ↓nE ↓nF ↓mx ↓my ↓mz ↓mB ↓mC ↓mD ↓mE ↓mF ↓mG ↓mH ↓mI ↓mJ ↓mK ↓mL ↓mM ↓mN ↓mO ↓mP ↓mQ ↓mR ↓mS ↓mT fg ji fD jS iE fU iF jT jX jk jM dC cC dI j3 j4 j5 j6 gM kq ko j8 j7 dL jj jN gF hV c7 gG jg jO jP jQ jR gH mj mq mr kg jo kc ke kh ki kj km kn kr ku h7 jY jZ j0 kB kF kA gN kE kD kG kJ kI kK kL kM kN jq kO kT kQ kR kP kU kZ iO kW kX kY k6 k7 k8 k9 lr lx lz lA lB lq lC lE lF lG gP ig mh mi ne_eq l8 l9 md me mf l6 l7 iI iJ jn iH jW jV jU gK eJ dh gC ja g9 Q0 RW Q8 RR Ri Sd R7 RN SM SN Uh T1 TZ Su RY Tb SW SX Sn exists_eq_left' exists_eq_left exists_and_left exists_and_right Th Ti Sl.v.injEq Sl.o.injEq Sl.k.injEq Sb Ts Sj Si SU RO and_true true_and Ui TK exists_const decide_eq_true_eq Uj Uk T6 T7 Sw decide_eq_false_iff_not and_assoc or_true true_or ↓reduceIte if_true if_false Sg Tj not_true_eq_false not_false_eq_true Ur Uc ite_true ite_false eq_self exists_eq reduceCtorEq false_and and_false or_false false_or exists_false Tu Tv T8 UG Se UH Us Tq SA S6 dH eM ib fE kx dQ lY beq_self_eq_true lV lW lX cy sizeLine_eq"
def rzT (n : String) : Lean.MacroM (Lean.TSyntax `tactic) := do
 let ts : Array (Lean.TSyntax `Lean.Parser.Tactic.simpLemma) <- ((n.splitOn " ").toArray).mapM λs =>do
  if s.startsWith "↓" then
   let i := Lean.mkIdent (s.drop 1).toString.toName
   `(Lean.Parser.Tactic.simpLemma| ↓ $i:ident)
  else
   let i := Lean.mkIdent s.toName
   `(Lean.Parser.Tactic.simpLemma| $i:ident)
 `(tactic| simp only [$ts,*])
local macro_rules|`(command|def $i:declId $s:optDeclSig $v:declVal)=>`(command|noncomputable def $i:declId $s:optDeclSig $v:declVal)|`(command|abbrev $i:declId $s:optDeclSig $v:declVal)=>`(command|noncomputable abbrev $i:declId $s:optDeclSig $v:declVal)
noncomputable section
set_option Elab.async false
set_option linter.all false
set_option maxRecDepth 100000
set_option maxHeartbeats 0
set_option genSizeOf false
namespace L2
open PySem PySem.Spec PyProof.Rows
abbrev aq:=Sum Int Str
def oP:aq->Yx->Bool
 | .inl k,v=>Xx k v
 | .inr x,v=>XZ x v
def G9(w:YJ):aq->Int
 | .inl k=>hashInt k
 | .inr x=>hashStr w x
theorem i6:∀{k:aq}{v:Yx},oP k v=true->(∃i t,k=Wq i/\v=TL i t)\/(∃x t,k=Sx x/\v=UK x t)
 | .inl i,v,h=>by
  obtain⟨t,e⟩:=Xm (k:=i) (v:=v) h;exact .inl ⟨i,t,rfl,e⟩
 | .inr x,v,h=>by
  obtain⟨t,e⟩:=Value.isStrOf_shape (x:=x) (v:=v) h;exact .inr ⟨x,t,rfl,e⟩
theorem Ha(i:Int)(t:Tok):oP (.inl i) (.int i t)=true:=by simp [oP,Xx]
theorem Hb(x:Str)(t:Tok):oP (.inr x) (.str x t)=true:=by simp [oP,XZ]
theorem Hc(a b:Int):decide ((Wq a:aq)=Wq b)=(a==b):=by
 by_cases e:a=b
 ·subst e;simp
 ·have h:¬(Wq a:aq)=Wq b:=λq=>e (Wq.inj q);rw [decide_eq_false h];exact(beq_eq_false_iff_ne.mpr e).symm
theorem He(a b:Str):decide ((Sx a:aq)=Sx b)=decide (a=b):=by
 by_cases e:a=b
 ·subst e;simp
 ·have h:¬(Sx a:aq)=Sx b:=λq=>e (Sx.inj q);rw [decide_eq_false h,decide_eq_false e]
theorem Hf(a:Int)(b:Str):decide ((Wq a:aq)=Sx b)=false:=decide_eq_false (λq=>nomatch q)
theorem Hg(a:Str)(b:Int):decide ((Sx a:aq)=Wq b)=false:=decide_eq_false (λq=>nomatch q)
def dF(prog:YI)(w:YJ):PySem.KeyKind prog w aq where
 is:=oP
 hash:=G9 w
 inj:=λv a b ha hb=>by
  rcases i6 ha with⟨i,t,rfl,rfl⟩ | ⟨x,t,rfl,rfl⟩
  ·rcases i6 hb with⟨j,u,rfl,e⟩ | ⟨y,u,rfl,e⟩
   ·injection e with e1 _;rw [e1]
   ·exact nomatch e
  ·rcases i6 hb with⟨j,u,rfl,e⟩ | ⟨y,u,rfl,e⟩
   ·exact nomatch e
   ·injection e with e1 _;rw [e1]
 byValue:=λk v h=>by
  rcases i6 h with⟨i,t,rfl,rfl⟩ | ⟨x,t,rfl,rfl⟩ <;> rfl
 pyHash:=λhv h=>by
  rcases i6 hv with⟨i,t,rfl,rfl⟩ | ⟨x,t,rfl,rfl⟩
  ·exact wpAny_pyHash_int h
  ·exact wpAny_pyHash_str h
 eqBool:=λhu hv h=>by
  rcases i6 hu with⟨i,t,rfl,rfl⟩ | ⟨x,t,rfl,rfl⟩
  ·rcases i6 hv with⟨j,u,rfl,rfl⟩ | ⟨y,u,rfl,rfl⟩
   ·rw [Hc] at h;exact wpAny_eqBool_int h
   ·rw [Hf] at h;exact Yk.int_str i t y u _ _ _ _ h
  ·rcases i6 hv with⟨j,u,rfl,rfl⟩ | ⟨y,u,rfl,rfl⟩
   ·rw [Hg] at h;exact W8 x t j u _ _ _ _ h
   ·rw [He] at h;exact wpAny_eqBool_str h
 «strs»:=λk x t v h=>by
  rcases i6 h with⟨i,u,rfl,e⟩ | ⟨y,u,rfl,e⟩
  ·exact nomatch e
  ·injection e with e1 _
   subst e1;cases v <;> rfl
theorem Hh(prog:YI)(w:YJ)(i:Int)(t:Tok):(dF prog w).is (.inl i) (.int i t)=true:=Ha i t
theorem Hi(prog:YI)(w:YJ)(x:Str)(t:Tok):(dF prog w).is (.inr x) (.str x t)=true:=Hb x t
inductive V where
 | non | bl (b:Bool) | int (i:Int) | str (x:Str) | byt (b:Array UInt8) | flt (b:UInt64) | ref (a:Yz) | ty (n:String)
 deriving DecidableEq
def aJ:V->Yx->Prop
 | .non,u=>u=SS
 | .bl b,u=>u=UL b
 | .int i,u=>∃t,u=TL i t
 | .str x,u=>∃t,u=UK x t
 | .byt b,u=>∃t,u=Yb b t
 | .flt b,u=>∃t,u=Yc b t
 | .ref a,u=>u=RM a
 | .ty n,u=>u=UM n
abbrev aI:List V->List Yx->Prop:=Paired aJ
theorem aI.length{xs:List V}{us:List Yx}(r:aI xs us):xs.length=us.length:=V0 r
theorem aI.get:∀{xs:List V}{us:List Yx}{i:Nat}{x:V},aI xs us->xs[i]?=some x->∃u,us[i]?=some u/\aJ x u
 | _,_,_,_,.nil,e=>by simp at e
 | _,_,0,_,.cons r _,e=>by simp at e;subst e;exact⟨_,rfl,r⟩
 | _,_,i+1,x,.cons _ t,e=>by
  obtain⟨u,h1,h2⟩:=aI.get (i:=i) (x:=x) t (by simpa using e);exact⟨u,by simpa using h1,h2⟩
theorem aI.append:∀{xs ys:List V}{us ws:List Yx},aI xs us->aI ys ws->aI (xs++ys) (us++ws)
 | _,_,_,_,.nil,s=>s
 | _,_,_,_,.cons r t,s=>.cons r (aI.append t s)
theorem aI.take:∀{xs:List V}{us:List Yx}(n:Nat),aI xs us->aI (xs.take n) (us.take n)
 | _,_,0,_=>.nil
 | _,_,_+1,.nil=>.nil
 | _,_,n+1,.cons r t=>.cons r (aI.take n t)
theorem aI.drop:∀{xs:List V}{us:List Yx}(n:Nat),aI xs us->aI (xs.drop n) (us.drop n)
 | _,_,0,r=>r
 | _,_,_+1,.nil=>.nil
 | _,_,n+1,.cons _ t=>aI.drop n t
def dN:Option V->Option Yx->Prop
 | some v,some u=>aJ v u
 | none,none=>True
 | _,_=>False
def KV{κ:Type}:List (κ×V)->List (κ×Yx)->Prop:=Paired λ(p:κ×V) (q:κ×Yx)=>p.1=q.1/\aJ p.2 q.2
def kV:aq->V
 | .inl i=>.int i
 | .inr x=>.str x
inductive HO where
 | lst (xs:List V)
 | tup (xs:List V)
 | dK (kvs:List (aq×V)) | dT (kvs:List (List aq×V))
 | set (S:Int->Bool) (n:Nat)
 | ins (C dx:Yz) (fs:List (Str×V))
 | own (x:Yz)
 | xd (fs:List (Str×V))
 | met (f x:Yz)
 | rng (lo hi:Int)
 | frz (o:Obj) (u:HO)
 | tbl (ps:Array Yx)
 | ext (φ:YK->Prop)
abbrev Hp:=Yz->Option HO
def ah(H:Hp)(a:Yz)(o:HO):Hp:=λb=>if b=a then some o else H b
theorem bq{H:Hp}{a:Yz}{o:HO}:ah H a o a=some o:=by unfold ah;rw [Yt rfl]
theorem az{H:Hp}{a b:Yz}{o:HO}(h:b≠a):ah H a o b=H b:=by unfold ah;rw [Ys h]
theorem Hj{H:Hp}{a:Yz}{o u:HO}:ah (ah H a o) a u=ah H a u:=by
 funext b;unfold ah;split <;> rfl
theorem Hk{H:Hp}{a b:Yz}{o u:HO}(h:H a=some o)(h':H b=some u)(d:o≠u):a≠b:=by
 intro e;subst e;rw [h] at h';exact d (R3 h')
theorem dZ{H:Hp}{a b:Yz}{o:HO}(h:H a=some o)(h':H b=none):a≠b:=by
 intro e;subst e;rw [h] at h';cases h'
section
variable (P:YI) (w:YJ)
def cj(H:Hp)(h:YK)(a:Yz):HO->Prop
 | .lst xs=>xs.length<=YH/\∃(its:List Yx)(n:Nat),aI xs its/\h.get? a=some {cls:= .type "list",data:= .seq its.toArray n}
 | .tup xs=>xs.length<=YH/\∃its:List Yx,aI xs its/\IsTup h a its.toArray
 | .dK kvs=>kvs.length<=YH/\(a==Ze)=false/\∃vs,KV kvs vs/\h.DictOf (dF P w) a vs
 | .dT kvs=>kvs.length<=YH/\(a==Ze)=false/\∃xs:List (List aq×Yz×Yx),
  Paired (λ(p:List aq×V) (q:List aq×Yz×Yx)=>p.1=q.1/\H q.2.1=some (.tup (p.1.map kV))/\aJ p.2 q.2.2) kvs xs/\
  ∃o es ep,h.get? a=some o/\o.ExactDict/\o.data= .dict es ep/\es.toList=xs.map (entryOfKey (ZP (dF P w)))/\(xs.map (·.1)).Nodup
 | .set S n=>h.SetOf (ZG P w) a S n
 | .ins C dx fs=>H dx=some (.own a)/\fs.length<=1000/\dx≠a/\h.get? a=some (TU C dx)/\
  ∃mA,h.Ns1 dx mA/\(∀f,dN (fs.lookup f) (mA f))/\W9 mA (fs.map (·.1))
 | .own _=>∃o,h.get? a=some o
 | .xd fs=>∃mA,h.Ns1 a mA/\∀f,dN (fs.lookup f) (mA f)
 | .rng lo hi=>∃t u v,h.get? a=some {cls:= .type "range",data:= .fields #[.int lo t,.int hi u,.int 1 v]}
 | .frz o u=>h.get? a=some o/\cj H h a u
 | .tbl ps=>h.get? a=some {cls:= .none,data:= .fields ps}
 | .met f x=>h.get? a=some (Wb (.ref f) (.ref x))
 | .ext φ=>φ h/\(∃o,h.get? a=some o)/\∀h1 h2:YK,φ h1->(∀o,h1.get? a=some o->h2.get? a=some o)->φ h2
def bK(H:Hp)(h:YK):Prop:=∀a o,H a=some o->cj P w H h a o
end
section
variable {P:YI} {w:YJ} {H H':Hp} {h h':YK} {a:Yz} {o:HO}
theorem cj.lt(x:cj P w H h a o):a < h.objs.size:=by
 cases o with
 | lst xs=>obtain⟨_,_,_,_,e⟩:=x;exact Rh e
 | tup xs=>obtain⟨_,_,_,p⟩:=x;exact p.lt
 | dK kvs=>obtain⟨_,_,_,_,o,_,_,e,_⟩:=x;exact Rh e
 | dT kvs=>obtain⟨_,_,_,_,o,_,_,e,_⟩:=x;exact Rh e
 | set S n=>obtain⟨o,_,_,_,e,_⟩:=x;exact Rh e
 | ins C dx fs=>obtain⟨_,_,_,e,_⟩:=x;exact Rh e
 | own y=>obtain⟨_,e⟩:=x;exact Rh e
 | xd fs=>obtain⟨_,⟨_,_,_,e,_⟩,_⟩:=x;exact Rh e
 | rng lo hi=>obtain⟨_,_,_,e⟩:=x;exact Rh e
 | frz ob u=>obtain⟨e,_⟩:=x;exact Rh e
 | tbl ps=>exact Rh (show h.get? a=some _ from x)
 | met f y=>exact Rh (show h.get? a=some _ from x)
 | ext φ=>obtain⟨_,⟨_,e⟩,_⟩:=x;exact Rh e
theorem Paired.mapP{α β:Type}{F G:α->β->Prop}:∀{l₁:List α}{l₂:List β},Paired F l₁ l₂->(∀a b,F a b->G a b)->Paired G l₁ l₂
 | _,_,.nil,_=>.nil
 | _,_,.cons r t,f=>.cons (f _ _ r) (Paired.mapP t f)
theorem cj.stay(x:cj P w H h a o)(k:∀b u,(b=a\/H b=some (.own a))->h.get? b=some u->h'.get? b=some u)
 (ho:∀b,H b=some (.own a)->H' b=some (.own a))(ht:∀b xs,H b=some (.tup xs)->H' b=some (.tup xs)):cj P w H' h' a o:=by
 induction o with
 | lst xs=>obtain⟨z,its,n,r,e⟩:=x;exact⟨z,its,n,r,k _ _ (.inl rfl) e⟩
 | tup xs=>obtain⟨z,its,r,ob,e,c⟩:=x;exact⟨z,its,r,ob,k _ _ (.inl rfl) e,c⟩
 | dK kvs=>obtain⟨z,y,vs,r,ob,es,ep,e,c⟩:=x;exact⟨z,y,vs,r,ob,es,ep,k _ _ (.inl rfl) e,c⟩
 | dT kvs=>
  obtain⟨z,y,xs,r,ob,es,ep,e,c⟩:=x;exact⟨z,y,xs,Paired.mapP r λp q z=>⟨z.1,ht _ _ z.2.1,z.2.2⟩,ob,es,ep,k _ _ (.inl rfl) e,c⟩
 | set S n=>obtain⟨ob,es,ep,t,e,c⟩:=x;exact⟨ob,es,ep,t,k _ _ (.inl rfl) e,c⟩
 | ins C dx fs=>
  obtain⟨d,z,ne,e,mA,⟨od,es,ep,e2,c⟩,r⟩:=x;exact⟨ho _ d,z,ne,k _ _ (.inl rfl) e,mA,⟨od,es,ep,k _ _ (.inr d) e2,c⟩,r⟩
 | own y=>obtain⟨ob,e⟩:=x;exact⟨ob,k _ _ (.inl rfl) e⟩
 | xd fs=>obtain⟨mA,⟨od,es,ep,e,c⟩,r⟩:=x;exact⟨mA,⟨od,es,ep,k _ _ (.inl rfl) e,c⟩,r⟩
 | rng lo hi=>obtain⟨t,u,v,e⟩:=x;exact⟨t,u,v,k _ _ (.inl rfl) e⟩
 | frz ob u ih=>obtain⟨e,q⟩:=x;exact⟨k _ _ (.inl rfl) e,ih q⟩
 | tbl ps=>
  have e:h.get? a=some {cls:= .none,data:= .fields ps}:=x;show h'.get? a=some {cls:= .none,data:= .fields ps};exact k a _ (.inl rfl) e
 | met f y=>
  have e:h.get? a=some (Wb (.ref f) (.ref y)):=x;show h'.get? a=some (Wb (.ref f) (.ref y));exact k a _ (.inl rfl) e
 | ext φ=>obtain⟨p,⟨o,e⟩,st⟩:=x;exact⟨st _ _ p λo q=>k _ _ (.inl rfl) q,⟨o,k _ _ (.inl rfl) e⟩,st⟩
theorem bK.lt(x:bK P w H h)(e:H a=some o):a < h.objs.size:=(x a o e).lt
theorem bK.fresh(x:bK P w H h)(e:h.objs.size<=a):H a=none:=by
 cases q:H a with
 | none=>rfl
 | some u=>exact absurd (R6 (x.lt q) e) (S5 _)
theorem bK.kept(x:bK P w H h)(k:∀b u,h.get? b=some u->h'.get? b=some u):bK P w H h':=λa o e=>
 (x a o e).stay (λb u _ q=>k b u q) (λ_ q=>q) λ_ _ q=>q
theorem bK.laid(x:bK P w H h)(k:∀b u,h.get? b=some u->h'.get? b=some u)(hp:h.objs.size<=a)(new:cj P w (ah H a o) h' a o):bK P w (ah H a o) h':=λb u e=>by
 have hn:=x.fresh hp;by_cases hb:b=a
 ·subst hb;rw [bq] at e;cases e;exact new
 ·rw [az hb] at e;exact(x b u e).stay (λc v _ q=>k c v q) (λc q=>by rw [az (dZ q hn)];exact q) λc xs q=>by rw [az (dZ q hn)];exact q
end
def Rd(H:Hp)(a:Yz)(u:HO):Prop:=H a=some u\/∃o,H a=some (.frz o u)
theorem Rd.ok{P:YI}{w:YJ}{H:Hp}{h:YK}{a:Yz}{u:HO}(r:Rd H a u)(x:bK P w H h):cj P w H h a u:=by
 rcases r with r | ⟨o,r⟩
 ·exact x a u r
 ·obtain⟨_,q⟩:=x a _ r;exact q
def qa:Option HO->Prop
 | some (.lst _)=>True
 | some (.dK _)=>True
 | some (.dT _)=>True
 | some (.set _ _)=>True
 | some (.ins _ _ _)=>True
 | some (.ext _)=>True
 | _=>False
section
variable {P:YI} {w:YJ} {H:Hp} {h h':YK} {x e:Yz} {o':HO}
theorem bK.write(ok:bK P w H h)(mu:qa (H x))(he:e=x\/H e=some (.own x))(k:∀b u,b≠e->h.get? b=some u->h'.get? b=some u)(heo:∃u,h'.get? e=some u)
 (new:cj P w (ah H x o') h' x o'):bK P w (ah H x o') h':=λb u q=>by
 have nown:∀c y,H c=some (.own y)->c≠x:=λc y r z=>by subst z;rw [r] at mu;exact mu
 have ntup:∀c xs,H c=some (.tup xs)->c≠x:=λc xs r z=>by subst z;rw [r] at mu;exact mu
 by_cases hb:b=x
 ·subst hb;rw [bq] at q;cases q;exact new
 ·rw [az hb] at q;by_cases hbe:b=e
  ·have q':H b=some (.own x):=by
    rcases he with z | z
    ·exact absurd (hbe.trans z) hb
    ·rw [hbe];exact z
   rw [q] at q';cases q';obtain⟨v,hv⟩:=heo;exact⟨v,by rw [hbe];exact hv⟩
  ·refine(ok b u q).stay (λc v hc r=>k c v ?_ r) (λc r=>by rw [az (nown c b r)];exact r) λc xs r=>by rw [az (ntup c xs r)];exact r
   rcases hc with rfl | hc
   ·exact hbe
   ·rintro rfl;rcases he with z | z
    ·exact nown c b hc z
    ·rw [hc] at z;cases z;exact hb rfl
end
structure Un (fs ex:List Yz) (H H':Hp) (h h':YK):Prop where
 keep:∀b o,h.get? b=some o->H b=none->b ∉ fs->b ∉ ex->h'.get? b=some o
 slot:∀b o,h.get? b=some o->H b=none->b∈fs->b ∉ ex->∃sl,h'.get? b=some {o with slots:=sl}
 free:∀b o,h.get? b=some o->H b=none->b ∉ ex->H' b=none
 there:∀b o,h.get? b=some o->b ∉ ex->∃o',h'.get? b=some o'
 tups:∀b xs,H b=some (.tup xs)->H' b=some (.tup xs)
 frzs:∀b o u,H b=some (.frz o u)->H' b=some (.frz o u)
 tbls:∀b ps,H b=some (.tbl ps)->∃more,H' b=some (.tbl (ps++more))
section
variable {fs fs' ex ex':List Yz} {H H1 H2:Hp} {h h1 h2 h':YK} {a x e:Yz} {o:HO}
theorem Un.any(u:Un fs ex H H1 h h1){b:Yz}{ob:Obj}(q:h.get? b=some ob)(n:H b=none)(hx:b ∉ ex):∃sl,h1.get? b=some {ob with slots:=sl}:=by
 by_cases hb:b∈fs
 ·exact u.slot b ob q n hb hx
 ·exact⟨ob.slots,u.keep b ob q n hb hx⟩
theorem Un.kept(k:∀b u,h.get? b=some u->h'.get? b=some u):Un fs ex H H h h':=
 ⟨λb ob q _ _ _=>k b ob q,λb ob q _ _ _=>⟨ob.slots,k b ob q⟩,λ_ _ _ n _=>n,λb ob q _=>⟨ob,k b ob q⟩,λ_ _ q=>q,λ_ _ _ q=>q,λ_ ps q=>⟨#[],by rw [q];simp⟩⟩
theorem Un.refl:Un fs ex H H h h:=Un.kept λ_ _ q=>q
theorem Un.laid(k:∀b u,h.get? b=some u->h'.get? b=some u)(hp:h.objs.size<=a)(hn:H a=none):Un fs ex H (ah H a o) h h' where
 keep:=λb u q _ _ _=>k b u q
 slot:=λb u q _ _ _=>⟨u.slots,k b u q⟩
 free:=λb u q n _=>by rw [az (RH (R6 (Rh q) hp))];exact n
 there:=λb u q _=>⟨u,k b u q⟩
 tups:=λb xs q=>by rw [az (dZ q hn)];exact q
 frzs:=λb u xs q=>by rw [az (dZ q hn)];exact q
 tbls:=λb ps q=>⟨#[],by rw [az (dZ q hn),q];simp⟩
theorem Un.write(mu:qa (H x))(he:e=x\/H e=some (.own x))(k:∀b u,b≠e->h.get? b=some u->h'.get? b=some u)(heo:∃u,h'.get? e=some u):Un fs ex H (ah H x o) h h':=by
 have hx:∀b,H b=none->b≠x:=λb n z=>by subst z;rw [n] at mu;exact mu
 have hb:∀b,H b=none->b≠e:=λb n z=>by
  subst z;rcases he with r | r
  ·exact hx b n r
  ·rw [n] at r;cases r
 have hm:∀b u,H b=some u->¬qa (some u)->b≠x:=λb u q nm z=>by subst z;rw [q] at mu;exact nm mu
 refine⟨λb u q n _ _=>k b u (hb b n) q,λb u q n _ _=>⟨u.slots,k b u (hb b n) q⟩,λb u q n _=>by rw [az (hx b n)];exact n,λb u q _=>?_,
  λb xs q=>by rw [az (hm b _ q λz=>z)];exact q,λb u xs q=>by rw [az (hm b _ q λz=>z)];exact q,λb ps q=>⟨#[],by rw [az (hm b _ q λz=>z),q];simp⟩⟩
 by_cases hbe:b=e
 ·subst hbe;exact heo
 ·exact⟨u,k b u hbe q⟩
end
def trk(h:YK)(H:Hp):List Yz:=(SO h.objs.size).filter λa=>(H a).isSome
def jI(h:YK)(H:Hp):YK:=PySem.W.hideAll h (trk h H)
theorem Hl(h:YK)(H:Hp):(jI h H).objs.size=h.objs.size:=PySem.W.hideAll_size _ _
theorem Hm{h:YK}{H:Hp}{b:Yz}{o:Obj}(e:h.get? b=some o)(n:H b=none):(jI h H).get? b=some o:=
 PySem.W.hideAll_get _ e λhm=>by
  have q:(H b).isSome=true:=(RP.mp hm).2;rw [n] at q;simp at q
theorem Hn{h:YK}{H:Hp}{b:Yz}{o:Obj}(e:(jI h H).get? b=some o):h.get? b=some o/\H b=none:=by
 have e':h.get? b=some o:=PySem.W.of_hideAll (trk h H) e;refine⟨e',?_⟩;cases q:H b with
 | none=>rfl
 | some x=>
  have hm:b∈trk h H:=RP.mpr ⟨WQ.mpr (Rh e'),by simp [q]⟩;have z:(jI h H).get? b=none:=PySem.W.hideAll_none (trk h H) hm;rw [z] at e;cases e
def Ho(g h:YK)(L:Yz):List (Yz×Obj):=(SO h.objs.size).filterMap λa=>if a=L\/(g.get? a).isSome=true then none else(h.get? a).map λo=>(a,o)
def rest(g h:YK)(L d:Yz):List (Yz×Obj):=(Ho g h L).filter λp=>decide (p.1≠d)
structure Mod (K:QV) (mg:Str->Option Yx) (base:YK):Prop where
 kin:K.In base
 glob:base.Ns YM mg
 blt:∃mb,base.Ns builtinsNs mb/\∀x:Str,x≠"__name__"->mb x=YX x
 nolimit:base.NoLimit
structure Cx where
 prog:YI
 w:YJ
 K:QV
 mg:Str->Option Yx
 base:YK
 A:YN
 N:List Str
 s₀:YA
 H₀:Hp
 env:Env
 outer:List Env
 stack:List Env
 ex:List Yz
 fn:Str->Bool
 calm:Bool
 pn:List (Yz×Obj)
 xe:Yx->YA->Prop
def gr(l:List Env):List Yz:=l.filterMap (·.frame)
abbrev Cx.fs(X:Cx):List Yz:=gr X.outer
def qc(sc:Za)(x:Str):Prop:=sc.names.lookup x=some .local\/sc.names.lookup x=some .cell\/sc.names.lookup x=some .free
def g8(sc:Za)(x:Str):Prop:=sc.names.lookup x=some .local\/sc.names.lookup x=some .cell
def Hq(env:Env)(h:YK)(m:Str->Option Yx)(x:Str)(u:Yx):Prop:=
 (env.kindOf x=some .local/\m x=some u)\/((env.kindOf x=some .cell\/env.kindOf x=some .free)/\∃c,env.cells.lookup x=some c/\h.IsCell c (some u))
structure Cx.Ok (X:Cx):Prop where
 mod:Mod X.K X.mg X.base
 kind:X.env.scope.kind= .function
 glob:X.env.globals=YM
 blt:X.env.builtins=builtinsNs
 above:X.s₀.heap.objs.size<=X.env.locals
 inj:∀x y c,X.env.cells.lookup x=some c->X.env.cells.lookup y=some c->x=y
 has:∀x,(X.env.kindOf x=some .cell\/X.env.kindOf x=some .free)->∃c,X.env.cells.lookup x=some c
 cab:∀x c,X.fn x=true->X.env.cells.lookup x=some c->X.s₀.heap.objs.size<=c
 hd:X.calm=true->X.A.handled=none
 frames:X.A.frames=some X.stack
 stk:X.stack=X.outer\/(X.stack=X.env::X.outer/\X.env.frame=some X.env.locals)
 exf:∀b∈X.ex,b≠X.env.locals/\∀x c,X.env.cells.lookup x=some c->c≠b
 bs:∀b o,X.base.get? b=some o->X.s₀.heap.get? b=some o/\X.H₀ b=none
 bsz:X.base.objs.size<=X.s₀.heap.objs.size
 noex:∀b o,X.base.get? b=some o->b ∉ X.ex
 exfs:∀b∈X.ex,b ∉ X.fs
 funs:X.s₀.heap.FunFrames X.base X.outer
 frf:∀b∈X.fs,X.H₀ b=none
structure ag (X:Cx) (aac:List (Yz×Obj)) (σ:List (Option V)) (H:Hp) (s:YA):Prop where
 ok:X.Ok
 os:s.os=X.s₀.os
 bare:ZQ s.gens
 base:Un X.fs X.ex X.H₀ H X.s₀.heap s.heap
 loc:∃m,s.heap.Ns X.env.locals m/\∀(i:Nat)(x:Str)(v:V),X.N[i]?=some x->σ[i]?=some (some v)->qc X.env.scope x->∃u,aJ v u/\Hq X.env s.heap m x u
 cell:∀x c,X.env.cells.lookup x=some c->∃v,s.heap.IsCell c v
 free:H X.env.locals=none
 freeC:∀x c,X.env.cells.lookup x=some c->H c=none
 pin:∀p∈X.pn++aac,s.heap.get? p.1=some p.2/\H p.1=none/\p.1≠X.env.locals/\p.1 ∉ X.fs/\∀v,p.2.data≠ .cell v
 hok:bK X.prog X.w H s.heap
 len:σ.length=X.N.length
section
variable {X:Cx} {aac:List (Yz×Obj)} {σ:List (Option V)} {H H':Hp} {s:YA} {h':YK}
theorem Cx.Ok.nofr(ok:X.Ok){b:Yz}{o:Obj}(e:X.base.get? b=some o):b ∉ X.fs:=λhb=>by
 have:=(ok.funs.mem hb).1;rw [e] at this;cases this
theorem ag.bs(I:ag X aac σ H s):∀b o,X.base.get? b=some o->s.heap.get? b=some o/\H b=none:=λb o e=>
 ⟨I.base.keep b o (I.ok.bs b o e).1 (I.ok.bs b o e).2 (I.ok.nofr e) (I.ok.noex b o e),I.base.free b o (I.ok.bs b o e).1 (I.ok.bs b o e).2 (I.ok.noex b o e)⟩
theorem ag.bk(I:ag X aac σ H s):∀b o,X.base.get? b=some o->s.heap.get? b=some o:=λb o e=>(I.bs b o e).1
theorem ag.mod(I:ag X aac σ H s):Mod X.K X.mg X.base:=I.ok.mod
theorem ag.kIn(I:ag X aac σ H s):X.K.In s.heap:=I.ok.mod.kin.keeps I.bk
theorem ag.fr(I:ag X aac σ H s):∃m,Fr X.base X.env.locals s.heap m:=
 let ⟨m,hn,_⟩:=I.loc
 ⟨m,hn,I.bk,Rx I.ok.bsz I.ok.above⟩
theorem ag.lt(I:ag X aac σ H s):X.env.locals < s.heap.objs.size:=let ⟨_,hn,_⟩:=I.loc;hn.lt
theorem ag.sz(I:ag X aac σ H s):X.s₀.heap.objs.size<=s.heap.objs.size:=Rx I.ok.above (TV I.lt)
theorem ag.nofs(I:ag X aac σ H s){a:Yz}(h:s.heap.objs.size<=a):a ∉ X.fs:=λhb=>by
 obtain⟨_,o,ho,_⟩:=I.ok.funs.mem hb;exact absurd (R6 (Rh ho) (Rx I.sz h)) (S5 _)
theorem ag.cne(I:ag X aac σ H s):∀x c,X.env.cells.lookup x=some c->c≠X.env.locals:=λx c e z=>by
 obtain⟨v,o,ho,hd⟩:=I.cell x c e;obtain⟨m,⟨o',es,ep,ho',hd',_⟩,_⟩:=I.loc;rw [z,ho'] at ho;cases ho;rw [hd'] at hd;cases hd
theorem ag.funs(I:ag X aac σ H s):s.heap.FunFrames X.base X.outer:=by
 have all:∀(l:List Env),(∀b∈gr l,b∈X.fs)->X.s₀.heap.FunFrames X.base l->s.heap.FunFrames X.base l:=by
  intro l
  induction l with
  | nil=>intro _ _;trivial
  | cons env r ih=>
   intro hs hl;obtain⟨hk,⟨L,o,hf,hn,ho,hd⟩,hr⟩:=hl;have hL:L∈X.fs:=hs L (by unfold gr;rw [SD,hf];exact RK);obtain⟨sl,e⟩:=I.base.slot L o ho (I.ok.frf L hL) hL λz=>I.ok.exfs L z hL;exact⟨hk,⟨L,_,hf,hn,e,hd⟩,ih (λb hb=>hs b (by unfold gr;rw [SD,hf];exact Ru _ hb)) hr⟩
 exact all X.outer (λ_ hb=>hb) I.ok.funs
theorem ag.stack(I:ag X aac σ H s):s.heap.FunFrames X.base X.stack:=by
 rcases I.ok.stk with e | ⟨e,hf⟩
 ·rw [e];exact I.funs
 ·rw [e];obtain⟨m,hn,_⟩:=I.loc;refine .cons (by rw [I.ok.kind];decide) hf hn ?_ I.funs;exact Heap.get?_none_of_le (Rx I.ok.bsz I.ok.above)
theorem ag.stkSub(I:ag X aac σ H s):∀b∈gr X.stack,b∈X.env.locals::X.fs:=λb hb=>by
 rcases I.ok.stk with e | ⟨e,hf⟩
 ·rw [e] at hb;exact Ru _ hb
 ·rw [e] at hb;unfold gr at hb;rw [SD,hf] at hb;exact hb
theorem ag.stkFree(I:ag X aac σ H s):∀b∈gr X.stack,H b=none:=λb hb=>by
 rcases Q4.mp (I.stkSub b hb) with e | hb
 ·rw [e];exact I.free
 ·obtain⟨_,o,ho,_⟩:=I.ok.funs.mem hb;exact I.base.free b o ho (I.ok.frf b hb) λz=>I.ok.exfs b z hb
theorem ag.step{g':Array aaa}{t':Nat}{d':Drawn}{ch:List Yz}(I:ag X aac σ H s)
 (hch:∀b∈ch,(b∈X.ex\/X.s₀.heap.objs.size<=b)/\b≠X.env.locals/\(∀x c,X.env.cells.lookup x=some c->c≠b)/\∀p∈X.pn++aac,p.1≠b)
 (keep:∀b o,b≠X.env.locals->b ∉ X.fs->b ∉ ch->s.heap.get? b=some o->H b=none->h'.get? b=some o)
 (slot:∀b o,b≠X.env.locals->b∈X.fs->b ∉ ch->s.heap.get? b=some o->H b=none->∃sl,h'.get? b=some {o with slots:=sl})(free:∀b o,b ∉ ch->s.heap.get? b=some o->H b=none->H' b=none)
 (there:∀b o,b ∉ ch->s.heap.get? b=some o->∃o',h'.get? b=some o')
 (tups:∀b xs,H b=some (.tup xs)->H' b=some (.tup xs))(frzs:∀b o u,H b=some (.frz o u)->H' b=some (.frz o u))(tbls:∀b ps,H b=some (.tbl ps)->∃more,H' b=some (.tbl (ps++more)))
 (ns:∀m,s.heap.Ns X.env.locals m->h'.Ns X.env.locals m)(hok:bK X.prog X.w H' h')(hg:ZQ g'):
 ag X aac σ H' {s with heap:=h',gens:=g',drawn:=d',toks:=t'}:=by
 have neL:∀b o,X.s₀.heap.get? b=some o->b≠X.env.locals:=λb o e=>RH (R6 (Rh e) I.ok.above);have neC:∀b o,X.s₀.heap.get? b=some o->b ∉ X.ex->b ∉ ch:=λb o e hx hb=>by
  rcases(hch b hb).1 with z | z
  ·exact hx z
  ·exact absurd (R6 (Rh e) z) (S5 _)
 have cellK:∀x c,X.env.cells.lookup x=some c->∀v,s.heap.IsCell c v->h'.IsCell c v:=λx c e v uu1=>by
  obtain⟨o,ho,hd⟩:=uu1;have nch:c ∉ ch:=λz=>(hch c z).2.2.1 x c e rfl;by_cases hc:c∈X.fs
  ·obtain⟨sl,q⟩:=slot c o (I.cne x c e) hc nch ho (I.freeC x c e);exact⟨_,q,hd⟩
  ·exact⟨o,keep c o (I.cne x c e) hc nch ho (I.freeC x c e),hd⟩
 refine⟨I.ok,I.os,hg,⟨λb o e n hb hx=>?_,λb o e n hb hx=>?_,λb o e n hx=>?_,λb o e hx=>?_,λb xs e=>tups b xs (I.base.tups b xs e),λb o xs e=>frzs b o xs (I.base.frzs b o xs e),λb ps e=>?_⟩,?_,λx c e=>?_,?_,λx c e=>?_,λp hp=>?_,hok,I.len⟩
 ·exact keep b o (neL b o e) hb (neC b o e hx) (I.base.keep b o e n hb hx) (I.base.free b o e n hx)
 ·obtain⟨sl,e1⟩:=I.base.slot b o e n hb hx;obtain⟨sl',e2⟩:=slot b _ (neL b o e) hb (neC b o e hx) e1 (I.base.free b o e n hx);exact⟨sl',e2⟩
 ·obtain⟨o',e1⟩:=I.base.there b o e hx;exact free b o' (neC b o e hx) e1 (I.base.free b o e n hx)
 ·obtain⟨o',e1⟩:=I.base.there b o e hx;exact there b o' (neC b o e hx) e1
 ·obtain⟨m1,e1⟩:=I.base.tbls b ps e;obtain⟨m2,e2⟩:=tbls b _ e1;exact⟨m1++m2,by rw [e2,Array.append_assoc]⟩
 ·obtain⟨m,hn,hl⟩:=I.loc;refine⟨m,ns m hn,λi x v e1 e2 e3=>?_⟩;obtain⟨u,r,l⟩:=hl i x v e1 e2 e3;refine⟨u,r,?_⟩;rcases l with l | ⟨k,c,e,z⟩
  ·exact .inl l
  ·exact .inr ⟨k,c,e,cellK x c e _ z⟩
 ·obtain⟨v,z⟩:=I.cell x c e;exact⟨v,cellK x c e v z⟩
 ·obtain⟨m,⟨o,_,_,ho,_⟩,_⟩:=I.loc;exact free _ o (λz=>(hch _ z).2.1 rfl) ho I.free
 ·obtain⟨v,o,ho,hd⟩:=I.cell x c e;exact free c o (λz=>(hch c z).2.2.1 x c e rfl) ho (I.freeC x c e)
 ·obtain⟨e,n,ne,nf,d⟩:=I.pin p hp;have nch:p.1 ∉ ch:=λz=>(hch p.1 z).2.2.2 p hp rfl;exact⟨keep p.1 p.2 ne nf nch e n,free p.1 p.2 nch e n,ne,nf,d⟩
theorem ag.un{t':Nat}(I:ag X aac σ H s)(u:Un X.fs [] H H' s.heap h')(hok:bK X.prog X.w H' h'):ag X aac σ H' {s with heap:=h',toks:=t'}:=by
 obtain⟨m,⟨o,es,ep,ho,r⟩,_⟩:=id I.loc;obtain⟨sl,hL⟩:=u.any ho I.free Yv;exact I.step (g':=s.gens) (d':=s.drawn) (ch:=[]) (λ_ z=>nomatch z) (λb o _ hb _ e n=>u.keep b o e n hb Yv) (λb o _ hb _ e n=>u.slot b o e n hb Yv) (λb o _ e n=>u.free b o e n Yv) (λb o _ e=>u.there b o e Yv) u.tups u.frzs u.tbls (λm' hm=>by
  obtain⟨o',es',ep',ho',r'⟩:=hm;rw [ho] at ho';cases ho';exact⟨_,es',ep',hL,r'⟩) hok I.bare
theorem ag.call{g':Array aaa}{t':Nat}{d':Drawn}{ch:List Yz}(I:ag X aac σ H s)(u:Un (gr X.stack) ch H H' s.heap h')(hok:bK X.prog X.w H' h')(hg:ZQ g')
 (hch:∀b∈ch,(b∈X.ex\/X.s₀.heap.objs.size<=b)/\b≠X.env.locals/\(∀x c,X.env.cells.lookup x=some c->c≠b)/\∀p∈X.pn++aac,p.1≠b):
 ag X aac σ H' {s with heap:=h',gens:=g',drawn:=d',toks:=t'}:=by
 obtain⟨m,⟨o,es,ep,ho,r⟩,_⟩:=id I.loc;obtain⟨sl,hL⟩:=u.any ho I.free λz=>(hch _ z).2.1 rfl;exact I.step (ch:=ch) hch (λb o hL hb hc e n=>u.keep b o e n (λz=>(Q4.mp (I.stkSub b z)).elim hL hb) hc) (λb o _ _ hc e n=>u.any e n hc) (λb o hc e n=>u.free b o e n hc) (λb o hc e=>u.there b o e hc) u.tups u.frzs u.tbls (λm' hm=>by
  obtain⟨o',es',ep',ho',r'⟩:=hm;rw [ho] at ho';cases ho';exact⟨_,es',ep',hL,r'⟩) hok hg
theorem ag.turned{t':Nat}{it:Yz}(I:ag X aac σ H s)(k:∀b o,b≠it->s.heap.get? b=some o->h'.get? b=some o)(hn:H it=none)(hL:it≠X.env.locals)
 (h1:it∈X.ex\/X.s₀.heap.objs.size<=it)(h2:∀x c,X.env.cells.lookup x=some c->c≠it)(h3:∀p∈X.pn++aac,p.1≠it):ag X aac σ H {s with heap:=h',toks:=t'}:=by
 have nit:∀b u,H b=some u->b≠it:=λb u e z=>by rw [z,hn] at e;cases e
 refine I.step (g':=s.gens) (d':=s.drawn) (ch:=[it]) (λb hb=>?_) (λb o _ _ hc e _=>k b o (λz=>hc (by simp [z])) e) (λb o _ _ hc e _=>⟨o.slots,k b o (λz=>hc (by simp [z])) e⟩) (λ_ _ _ _ n=>n)
  (λb o hc e=>⟨o,k b o (λz=>hc (by simp [z])) e⟩) (λ_ _ e=>e) (λ_ _ _ e=>e) (λb ps e=>⟨#[],by rw [e];simp⟩) (λm hm=>?_) (λb u e=>?_) I.bare
 ·have e:b=it:=by simpa using hb
  subst e;exact⟨h1,hL,h2,h3⟩
 ·obtain⟨o,es,ep,ho,r⟩:=hm;exact⟨o,es,ep,k _ o (Ne.symm hL) ho,r⟩
 ·refine(I.hok b u e).stay (λc v hc q=>k c v ?_ q) (λ_ q=>q) λ_ _ q=>q;rcases hc with z | z
  ·rw [z];exact nit b u e
  ·exact nit c _ z
theorem ag.tok(I:ag X aac σ H s)(t:Nat):ag X aac σ H {s with toks:=t}:=I.un (h':=s.heap) (t':=t) Un.refl I.hok
theorem ag.kept{t':Nat}(I:ag X aac σ H s)(k:∀b u,s.heap.get? b=some u->h'.get? b=some u):ag X aac σ H {s with heap:=h',toks:=t'}:=I.un (Un.kept k) (I.hok.kept k)
theorem ag.laid{a:Yz}{o:HO}{t':Nat}(I:ag X aac σ H s)(k:∀b u,s.heap.get? b=some u->h'.get? b=some u)(hp:s.heap.objs.size<=a)(new:cj X.prog X.w (ah H a o) h' a o):
 ag X aac σ (ah H a o) {s with heap:=h',toks:=t'}:=I.un (Un.laid k hp (I.hok.fresh hp)) (I.hok.laid k hp new)
theorem ag.write{x e:Yz}{o:HO}{t':Nat}(I:ag X aac σ H s)(mu:qa (H x))(he:e=x\/H e=some (.own x))(k:∀b u,b≠e->s.heap.get? b=some u->h'.get? b=some u)(heo:∃u,h'.get? e=some u)
 (new:cj X.prog X.w (ah H x o) h' x o):ag X aac σ (ah H x o) {s with heap:=h',toks:=t'}:=I.un (Un.write mu he k heo) (I.hok.write mu he k heo new)
theorem ag.weak{σ':List (Option V)}(I:ag X aac σ H s)(hl:σ'.length=σ.length)(w:∀(i:Nat) v,σ'[i]?=some (some v)->σ[i]?=some (some v)):ag X aac σ' H s:=
 ⟨I.ok,I.os,I.bare,I.base,let ⟨m,hn,hl'⟩:=I.loc;⟨m,hn,λi x v e1 e2 e3=>hl' i x v e1 (w i v e2) e3⟩,I.cell,I.free,I.freeC,I.pin,I.hok,hl.trans I.len⟩
theorem ag.pins_of{pins':List (Yz×Obj)}(I:ag X aac σ H s)(h:∀p∈pins',s.heap.get? p.1=some p.2/\H p.1=none/\p.1≠X.env.locals/\p.1 ∉ X.fs/\∀v,p.2.data≠ .cell v):ag X pins' σ H s:=
 ⟨I.ok,I.os,I.bare,I.base,I.loc,I.cell,I.free,I.freeC,λp hp=>(Rj.mp hp).elim (λz=>I.pin p (U5 _ z)) (h p),I.hok,I.len⟩
theorem AG{N:List Str}(hN:N.Nodup){i j:Nat}{x:Str}(a:N[i]?=some x)(b:N[j]?=some x):i=j:=by
 obtain⟨h1,e1⟩:=Q7.mp a;obtain⟨h2,e2⟩:=Q7.mp b;exact(VB hN).mp (e1.trans e2.symm)
theorem AH{M:Model}{A:YN}{E:Yx->YA->Prop}{i:Nat}{x:Str}{v:V}{u:Yx}{Q:Unit->YA->Prop}(I:ag X aac σ H s)(hN:X.N.Nodup)(hi:X.N[i]?=some x)(hx:g8 X.env.scope x)(r:aJ v u)
 (h:∀s',ag X aac (σ.set i (some v)) H s'->(∃a,Tx a s.heap s'.heap/\(a=X.env.locals\/X.env.cells.lookup x=some a))->Q () s')(hf:X.fn x=true\/X.env.scope.names.lookup x=some .local:=by first | exact .inl rfl | exact .inr rfl | assumption):YC M A (storeName X.env x u) Q E s:=by
 obtain⟨m,hn,hl⟩:=id I.loc;have hcls:(X.env.scope.kind== .class || (X.env.scope.kind== .module && X.env.locals !=X.env.globals))=false:=by rw [I.ok.kind];rfl
 have hiσ:i < σ.length:=by rw [I.len];exact(Q7.mp hi).1
 have cne:=I.cne;have tracked:∀{a:Yz}{h':YK},(∃o,s.heap.get? a=some o/\H a=none)->Tx a s.heap h'->bK X.prog X.w H h':=λ{a h'} ha hs b ob e=>by
  obtain⟨_,_,hfree⟩:=ha;refine(I.hok b ob e).stay (λc w' hc q=>(hs.2 c ?_).trans q) (λ_ q=>q) λ_ _ q=>q;rintro rfl;rcases hc with rfl | hc
  ·rw [hfree] at e;cases e
  ·rw [hfree] at hc;cases hc
 rcases hx with hk | hk
 ·refine wpAny_storeName_local hk hn (λh' hn' hs=>?_) hcls;obtain⟨oL,_,_,hoL,_⟩:=id hn;refine h _ ⟨I.ok,I.os,I.bare,⟨λb o e n hb hx=>?_,λb o e n hb hx=>?_,I.base.free,λb o e hx=>?_,I.base.tups,I.base.frzs,I.base.tbls⟩,⟨_,hn',λj y v' e1 e2 e3=>?_⟩,λy c e=>?_,I.free,I.freeC,λp hp=>?_,tracked ⟨oL,hoL,I.free⟩ hs,by simpa using I.len⟩ ⟨_,hs,.inl rfl⟩
  ·exact(hs.2 b (RH (R6 (Rh e) I.ok.above))).trans (I.base.keep b o e n hb hx)
  ·obtain⟨sl,e1⟩:=I.base.slot b o e n hb hx;exact⟨sl,(hs.2 b (RH (R6 (Rh e) I.ok.above))).trans e1⟩
  ·obtain⟨o',e1⟩:=I.base.there b o e hx;exact⟨o',(hs.2 b (RH (R6 (Rh e) I.ok.above))).trans e1⟩
  ·by_cases hj:j=i
   ·subst hj;rw [hi] at e1;cases e1;rw [Ry hiσ] at e2;cases e2;exact⟨u,r,.inl ⟨hk,Yv⟩⟩
   ·rw [Rg (Ne.symm hj)] at e2;obtain⟨u',r',q⟩:=hl j y v' e1 e2 e3;refine⟨u',r',?_⟩;rcases q with⟨k,e⟩ | ⟨k,c,e,z⟩
    ·refine .inl ⟨k,?_⟩;have:y≠x:=λe=>hj (AG hN e1 (e▸hi));simp [this,e]
    ·exact .inr ⟨k,c,e,z.sameBut hs (cne y c e)⟩
  ·obtain⟨w',z⟩:=I.cell y c e;exact⟨w',z.sameBut hs (cne y c e)⟩
  ·obtain⟨e,n,ne,nf,d⟩:=I.pin p hp;exact⟨(hs.2 p.1 ne).trans e,n,ne,nf,d⟩
 ·have hfn:X.fn x=true:=by
   rcases hf with z | z
   ·exact z
   ·rw [z] at hk;cases hk
  obtain⟨c,hc⟩:=I.ok.has x (.inl hk);obtain⟨w',z⟩:=I.cell x c hc;refine wpAny_storeName_cell I.ok.kind hk hc z (λh' hc' hs=>?_);obtain⟨oc,hoc,hocd⟩:=id z;refine h {s with heap:=h'} ⟨I.ok,I.os,I.bare,⟨λb o e n hb hx=>?_,λb o e n hb hx=>?_,I.base.free,λb o e hx=>?_,I.base.tups,I.base.frzs,I.base.tbls⟩,⟨m,hn.sameBut hs (Ne.symm (cne x c hc)),λj y v' e1 e2 e3=>?_⟩,λy c' e=>?_,I.free,I.freeC,λp hp=>?_,tracked ⟨oc,hoc,I.freeC x c hc⟩ hs,by simpa using I.len⟩ ⟨c,hs,.inr hc⟩
  ·exact(hs.2 b (RH (R6 (Rh e) (I.ok.cab x c hfn hc)))).trans (I.base.keep b o e n hb hx)
  ·obtain⟨sl,e1⟩:=I.base.slot b o e n hb hx;exact⟨sl,(hs.2 b (RH (R6 (Rh e) (I.ok.cab x c hfn hc)))).trans e1⟩
  ·obtain⟨o',e1⟩:=I.base.there b o e hx;exact⟨o',(hs.2 b (RH (R6 (Rh e) (I.ok.cab x c hfn hc)))).trans e1⟩
  ·by_cases hj:j=i
   ·subst hj;rw [hi] at e1;cases e1;rw [Ry hiσ] at e2;cases e2;exact⟨u,r,.inr ⟨.inl hk,c,hc,hc'⟩⟩
   ·rw [Rg (Ne.symm hj)] at e2;obtain⟨u',r',q⟩:=hl j y v' e1 e2 e3;refine⟨u',r',?_⟩;rcases q with q | ⟨k,c',e,z'⟩
    ·exact .inl q
    ·refine .inr ⟨k,c',e,z'.sameBut hs ?_⟩;rintro rfl;exact hj (AG hN e1 (I.ok.inj _ _ _ e hc▸hi))
  ·by_cases hcc:c'=c
   ·subst hcc;exact⟨_,hc'⟩
   ·obtain⟨w2,z2⟩:=I.cell y c' e;exact⟨w2,z2.sameBut hs hcc⟩
  ·obtain⟨e,n,ne,nf,d⟩:=I.pin p hp;refine⟨(hs.2 p.1 ?_).trans e,n,ne,nf,d⟩;intro q;rw [q,hoc] at e;have q':oc=p.2:=R3 e;exact d w' (by rw [<-q'];exact hocd)
theorem AI{M:Model}{A:YN}{E:Yx->YA->Prop}{i:Nat}{x:Str}{v:V}{u:Yx}{Q:Unit->YA->Prop}(I:ag X aac σ H s)(hN:X.N.Nodup)(hi:X.N[i]?=some x)(hx:g8 X.env.scope x)(r:aJ v u)
 (h:∀s',ag X aac (σ.set i (some v)) H s'->Q () s')(hf:X.fn x=true\/X.env.scope.names.lookup x=some .local:=by first | exact .inl rfl | exact .inr rfl | assumption):YC M A (storeName X.env x u) Q E s:=
 AH I hN hi hx r (λs' I' _=>h s' I') hf
theorem ag.call'{s':YA}{ch:List Yz}(I:ag X aac σ H s)(ho:s'.os=s.os)(u:Un (gr X.stack) ch H H' s.heap s'.heap)(hok:bK X.prog X.w H' s'.heap)(hg:ZQ s'.gens)
 (hch:∀b∈ch,(b∈X.ex\/X.s₀.heap.objs.size<=b)/\b≠X.env.locals/\(∀x c,X.env.cells.lookup x=some c->c≠b)/\∀p∈X.pn++aac,p.1≠b):ag X aac σ H' s':=by
 obtain⟨h',g',d',t',o'⟩:=s';have e:o'=s.os:=ho;subst e;exact I.call (g':=g') (t':=t') (d':=d') u hok hg hch
end
abbrev XK:=Yx->Option Yz->Hp->Prop
abbrev St:=List (Option V)
abbrev VK:=V->Hp->Prop
abbrev TE:=St->Hp->VK->Prop
abbrev TT:=St->Hp->(Bool->Hp->Prop)->Prop
abbrev TA:=St->Hp->(List V->Hp->Prop)->Prop
structure iy where
 nx:St->Hp->Prop
 rt:VK
 bk:St->Hp->Prop:=λ_ _=>False
 ct:St->Hp->Prop:=λ_ _=>False
abbrev TS:=iy->St->Hp->Prop
inductive EP (X:Cx) (aac:List (Yz×Obj)) (σ:St) (Q:VK) (u:Yx) (s':YA):Prop
 | mk (v:V) (H':Hp):ag X aac σ H' s'->aJ v u->Q v H'->EP X aac σ Q u s'
inductive TP (X:Cx) (aac:List (Yz×Obj)) (σ:St) (Q:Bool->Hp->Prop) (b:Bool) (s':YA):Prop
 | mk (H':Hp):ag X aac σ H' s'->Q b H'->TP X aac σ Q b s'
inductive AP (X:Cx) (aac:List (Yz×Obj)) (σ:St) (Q:List V->Hp->Prop) (us:List Yx) (s':YA):Prop
 | mk (vs:List V) (H':Hp):ag X aac σ H' s'->aI vs us->Q vs H'->AP X aac σ Q us s'
def SP(X:Cx)(aac:List (Yz×Obj))(D:iy)(f:Flow)(s':YA):Prop:=
 match f with
 | .next=>∃σ' H',ag X aac σ' H' s'/\D.nx σ' H'
 | .brk=>∃σ' H',ag X aac σ' H' s'/\D.bk σ' H'
 | .cont=>∃σ' H',ag X aac σ' H' s'/\D.ct σ' H'
 | .ret u=>∃v σ' H',ag X aac σ' H' s'/\aJ v u/\D.rt v H'
def PE(X:Cx)(e:YF)(t:TE):Prop:=
 ∀(aac:List (Yz×Obj))(s:YA)(σ:St)(H:Hp)(Q:VK),ag X aac σ H s->t σ H Q->YC (YE X.prog X.w) X.A (eval e X.env) (EP X aac σ Q) X.xe s
def PT(X:Cx)(e:YF)(t:TT):Prop:=
 ∀(aac:List (Yz×Obj))(s:YA)(σ:St)(H:Hp)(Q:Bool->Hp->Prop),ag X aac σ H s->t σ H Q->YC (YE X.prog X.w) X.A (isTrue e X.env (eval e X.env)) (TP X aac σ Q) X.xe s
def PW(X:Cx)(e:YF)(t:TT):Prop:=
 ∀(whole:Sem Yx)(aac:List (Yz×Obj))(s:YA)(σ:St)(H:Hp)(Q:Bool->Hp->Prop),ag X aac σ H s->t σ H Q->YC (YE X.prog X.w) X.A (isTrue e X.env whole) (TP X aac σ Q) X.xe s
theorem PW.pt{X:Cx}{e:YF}{t:TT}(h:PW X e t):PT X e t:=h _
def PA(X:Cx)(es:List YF)(t:TA):Prop:=
 ∀(pos:Pos)(aac:List (Yz×Obj))(s:YA)(σ:St)(H:Hp)(Q:List V->Hp->Prop),ag X aac σ H s->t σ H Q->YC (YE X.prog X.w) X.A (spliced (YR pos (YD es X.env))) (AP X aac σ Q) X.xe s
def PS(X:Cx)(st:YL)(t:TS):Prop:=
 ∀(aac:List (Yz×Obj))(s:YA)(σ:St)(H:Hp)(D:iy),ag X aac σ H s->t D σ H->YC (YE X.prog X.w) X.A (exec st X.env) (SP X aac D) X.xe s
def bP(X:Cx)(st:List YL)(t:TS):Prop:=
 ∀(aac:List (Yz×Obj))(s:YA)(σ:St)(H:Hp)(D:iy),ag X aac σ H s->t D σ H->YC (YE X.prog X.w) X.A (execs st X.env) (SP X aac D) X.xe s
theorem aB{α:Type}{t:Sem α}{Q Q':α->YA->Prop}{M:Model}{A:YN}{E:Yx->YA->Prop}{s:YA}(h:YC M A t Q E s)(hQ:∀a s,Q a s->Q' a s):YC M A t Q' E s:=YY h hQ λ_ _ x=>x
section
variable {X:Cx}
theorem QO{a b:YF}{ta tb:TE}(ha:PE X a ta)(hb:PE X b tb){aac:List (Yz×Obj)}{s:YA}{σ:St}{H:Hp}{R:V->V->Hp->Prop}(I:ag X aac σ H s)(h:ta σ H λx H1=>tb σ H1 λy H2=>R x y H2)
 {α:Type}{Q:α->YA->Prop}{f:Yx->Yx->Sem α}
 (hf:∀v u s2 x y H2,ag X aac σ H2 s2->aJ x v->aJ y u->R x y H2->YC (YE X.prog X.w) X.A (f v u) Q X.xe s2):
 YC (YE X.prog X.w) X.A (eval a X.env) (λv s₁=>YC (YE X.prog X.w) X.A (eval b X.env) (λu s₂=>YC (YE X.prog X.w) X.A (f v u) Q X.xe s₂) X.xe s₁) X.xe s:=by
 refine aB (ha aac s σ H _ I h) λv s1 ⟨x,H1,I1,r1,q1⟩=>?_;refine aB (hb aac s1 σ H1 _ I1 q1) λu s2 ⟨y,H2,I2,r2,q2⟩=>?_;exact hf v u s2 x y H2 I2 r1 r2 q2
def cK(i:Nat):TE:=λσ H Q=>∃v,σ[i]?=some (some v)/\Q v H
def tC(v:V):TE:=λ_ H Q=>Q v H
theorem uM{i:Nat}{x:Str}{pos:Pos}(hN:X.N[i]?=some x)(hv:qc X.env.scope x)(hd:(x==("__debug__":Str))=false:=by decide)(hcd:(x==("__classdict__":Str))=false:=by decide):PE X (.Name x pos) (cK i):=by
 intro aac s σ H Q I h;obtain⟨v,e,h⟩:=h;obtain⟨m,hn,hl⟩:=I.loc;obtain⟨u,r,l⟩:=hl i x v hN e hv;have fin:EP X aac σ Q u s:=⟨v,H,I,r,h⟩;rcases l with⟨hk,hm⟩ | ⟨hk,c,hc,hcell⟩
 ·exact wpAny_Name (wpAny_loadName_local I.ok.kind hk hn hm fin) hd
 ·rcases hk with hk | hk
  ·exact wpAny_Name (wpAny_loadName_cell I.ok.kind hk hc hcell fin) hd
  ·exact wpAny_Name (wpAny_loadName_free I.ok.kind hk hc hcell fin hcd) hd
theorem bL{i j pos}:PE X (.Constant (.int i) j pos) (tC (.int i)):=λ_ _ _ H _ I h=>wpAny_Constant_int ⟨.int i,H,I.tok _,⟨_,rfl⟩,h⟩
theorem AJ{b j pos}:PE X (.Constant (.bool b) j pos) (tC (.bl b)):=λ_ _ _ H _ I h=>Constant_bool ⟨.bl b,H,I,rfl,h⟩
theorem Hr{j pos}:PE X (.Constant .none j pos) (tC .non):=λ_ _ _ H _ I h=>Constant_none ⟨.non,H,I,rfl,h⟩
theorem uN{x j pos}:PE X (.Constant (.str x) j pos) (tC (.str x)):=λ_ _ _ H _ I h=>Calls.Constant_str ⟨.str x,H,I.tok _,⟨_,rfl⟩,h⟩
def Gl(X:Cx)(x:Str):Prop:=X.env.kindOf x=some .globalImplicit
theorem qg{E:Yx->YA->Prop}{aac:List (Yz×Obj)}{s:YA}{σ:St}{H:Hp}{x:Str}{u:Yx}{pos:Pos}{Q:Yx->YA->Prop}(I:ag X aac σ H s)(hg:Gl X x)(hm:X.mg x=some u)(h:Q u s)
 (hd:(x==("__debug__":Str))=false:=by decide):YC (YE X.prog X.w) X.A (eval (.Name x pos) X.env) Q E s:=
 V1 I.ok.kind hg (Calls.loadGlobal_global (by rw [I.ok.glob];exact I.mod.glob.keeps I.bk) hm h) hd
theorem nP{E:Yx->YA->Prop}{aac:List (Yz×Obj)}{s:YA}{σ:St}{H:Hp}{x:Str}{u:Yx}{pos:Pos}{Q:Yx->YA->Prop}(I:ag X aac σ H s)(hg:Gl X x)(hm:X.mg x=none)(hv:YX x=some u)(h:Q u s)
 (hn:x≠"__name__":=by decide)(hd:(x==("__debug__":Str))=false:=by decide):YC (YE X.prog X.w) X.A (eval (.Name x pos) X.env) Q E s:=by
 obtain⟨mb,h1,h2⟩:=I.mod.blt;exact V1 I.ok.kind hg (Calls.loadGlobal_builtin (by rw [I.ok.glob];exact I.mod.glob.keeps I.bk) hm (by rw [I.ok.blt];exact h1.keeps I.bk) ((h2 x hn).trans hv) h) hd
theorem oQ{x:Str}{v:V}{u:Yx}{pos:Pos}(hg:Gl X x)(hm:X.mg x=some u)(r:aJ v u)(hd:(x==("__debug__":Str))=false:=by decide):PE X (.Name x pos) (tC v):=
 λ_ _ _ H _ I h=>qg I hg hm ⟨v,H,I,r,h⟩ hd
variable {a b:YF} {ta tb:TE} {pos:Pos}
def PC(X:Cx)(op:CmpOp)(a b:YF)(t:TE):Prop:=
 ∀(aac:List (Yz×Obj))(s:YA)(σ:St)(H:Hp)(Q:VK),ag X aac σ H s->t σ H Q->
  YC (YE X.prog X.w) X.A (eval a X.env) (λv s₁=>YC (YE X.prog X.w) X.A (eval b X.env) (λu s₂=>YC (YE X.prog X.w) X.A (YU op v u) (EP X aac σ Q) X.xe s₂) X.xe s₁) X.xe s
theorem Hs(b:YF){op:CmpOp}(h:op≠ .In)(h2:op≠ .NotIn):Y3 op b=false:=by
 have e1:(op==CmpOp.In)=false:=by cases op <;> first | rfl | exact absurd rfl h
 have e2:(op==Yd)=false:=by cases op <;> first | rfl | exact absurd rfl h2
 cases b <;> simp [Y3,e1,e2]
def AK(ta:TE):TE:=λσ H Q=>ta σ H λx H1=>Q (.bl (!decide (x= .non))) H1
theorem aJ.none_iff{x:V}{v:Yx}(r:aJ x v):(v==SS)=decide (x= .non):=by
 cases x with
 | non=>cases r;rfl
 | bl _=>cases r;rfl
 | int _=>obtain⟨t,rfl⟩:=r;rfl
 | str _=>obtain⟨t,rfl⟩:=r;rfl
 | byt _=>obtain⟨t,rfl⟩:=r;rfl
 | flt _=>obtain⟨t,rfl⟩:=r;rfl
 | ref _=>cases r;rfl
 | ty _=>cases r;rfl
theorem Ht{j pos'}(ha:PE X a ta):PC X .IsNot a (.Constant .none j pos') (AK ta):=by
 intro aac s σ H Q I h;refine aB (ha aac s σ H _ I h) λv s1 ⟨x,H1,I1,r1,q1⟩=>?_;exact Constant_none (isnot_none_gen ⟨.bl _,H1,I1,by rw [r1.none_iff];rfl,q1⟩)
def tB(t:TE):TT:=λσ H Q=>t σ H λx H1=>∃c,x= .bl c/\Q c H1
theorem rJ{op:CmpOp}{t:TE}(h:PC X op a b t)(h1:Y3 op b=false:=by first | exact Hs _ Yq Yq | rfl):PT X (.Compare a [op] [b] pos) (tB t):=by
 intro aac s σ H Q I hw;refine wpAny_isTrue_Compare1 (aB (h aac s σ H _ I hw) λv s1 h1=>aB h1 λu s2 h2=>aB h2 λc s3 ⟨x,H1,I1,r1,q1⟩=>?_) h1;obtain⟨d,rfl,q⟩:=q1;cases r1;exact Y7 ⟨H1,I1,q⟩
theorem AL{e:YF}{t:TE}(h:PE X e t)(he:∀whole,isTrue e X.env whole=(do let v<-whole;ZR e.pos;ZH [v] (truthy v)):=by intro _;rfl):PT X e (tB t):=by
 intro aac s σ H Q I hw;refine isTrue_plain (aB (h aac s σ H _ I hw) λv s1 ⟨x,H1,I1,r1,q1⟩=>?_) (he _);obtain⟨d,rfl,q⟩:=q1;cases r1;exact Y7 ⟨H1,I1,q⟩
variable {tA tB':TT} {rest:List YF}
def AM(t u:TT):TT:=λσ H Q=>t σ H λc H1=>if c=true then u σ H1 Q else Q false H1
def AN(t u:TT):TT:=λσ H Q=>t σ H λc H1=>if c=true then Q true H1 else u σ H1 Q
def AO(t:TT):TT:=λσ H Q=>t σ H λc H1=>Q (!c) H1
theorem AQ(ha:PT X a tA):PW X (.BoolOp .And [a] pos) tA:=by
 intro wh aac s σ H Q I h;refine isTrue_and (aB (ha aac s σ H Q I h) λc s1 e=>?_);cases c with
 | true=>exact isTrue_and_nil e
 | false=>exact e
theorem Hu(ha:PT X a tA):PW X (.BoolOp .Or [a] pos) tA:=by
 intro wh aac s σ H Q I h;refine isTrue_or (aB (ha aac s σ H Q I h) λc s1 e=>?_);cases c with
 | false=>exact isTrue_or_nil e
 | true=>exact e
theorem AR(ha:PT X a tA)(hb:PW X (.BoolOp .And (b::rest) pos) tB'):PW X (.BoolOp .And (a::b::rest) pos) (AM tA tB'):=by
 intro wh aac s σ H Q I h;refine isTrue_and (aB (ha aac s σ H _ I h) λc s1 ⟨H1,I1,q1⟩=>?_);cases c with
 | true=>exact hb wh aac s1 σ H1 Q I1 q1
 | false=>exact⟨H1,I1,q1⟩
theorem Hv(ha:PT X a tA)(hb:PW X (.BoolOp .Or (b::rest) pos) tB'):PW X (.BoolOp .Or (a::b::rest) pos) (AN tA tB'):=by
 intro wh aac s σ H Q I h;refine isTrue_or (aB (ha aac s σ H _ I h) λc s1 ⟨H1,I1,q1⟩=>?_);cases c with
 | true=>exact⟨H1,I1,q1⟩
 | false=>exact hb wh aac s1 σ H1 Q I1 q1
theorem Hw(ha:PT X a tA):PT X (.UnaryOp .Not a pos) (AO tA):=by
 intro aac s σ H Q I h;exact isTrue_not (aB (ha aac s σ H (λc H1=>Q (!c) H1) I h) λc s1 uu9=>by obtain⟨H1,I1,q⟩:=uu9;exact⟨H1,I1,q⟩)
def AS(ta tb:TE):TE:=λσ H Q=>ta σ H λx H1=>∃c,x= .bl c/\if c=true then tb σ H1 Q else Q (.bl false) H1
def AU(ta tb:TE):TE:=λσ H Q=>ta σ H λx H1=>∃c,x= .bl c/\if c=true then Q (.bl true) H1 else tb σ H1 Q
theorem uO{op}{t:TE}(h:PE X a t):PE X (.BoolOp op [a] pos) t:=λaac s σ H Q I hw=>BoolOp_one (h aac s σ H Q I hw)
theorem AV(ha:PE X a ta)(hb:PE X (.BoolOp .And (b::rest) pos) tb):PE X (.BoolOp .And (a::b::rest) pos) (AS ta tb):=by
 intro aac s σ H Q I h;refine BoolOp_and (aB (ha aac s σ H _ I h) λv s1 ⟨x,H1,I1,r1,q1⟩=>?_);obtain⟨c,rfl,q1⟩:=q1;cases r1;refine Y7 ?_;cases c with
 | true=>exact hb aac s1 σ H1 Q I1 q1
 | false=>exact⟨.bl false,H1,I1,rfl,q1⟩
theorem AW(ha:PE X a ta)(hb:PE X (.BoolOp .Or (b::rest) pos) tb):PE X (.BoolOp .Or (a::b::rest) pos) (AU ta tb):=by
 intro aac s σ H Q I h;refine BoolOp_or (aB (ha aac s σ H _ I h) λv s1 ⟨x,H1,I1,r1,q1⟩=>?_);obtain⟨c,rfl,q1⟩:=q1;cases r1;refine Y7 ?_;cases c with
 | false=>exact hb aac s1 σ H1 Q I1 q1
 | true=>exact⟨.bl true,H1,I1,rfl,q1⟩
def AX(t:TT)(ta tb:TE):TE:=λσ H Q=>t σ H λc H1=>if c=true then ta σ H1 Q else tb σ H1 Q
theorem AY{c:YF}(hc:PT X c tA)(ha:PE X a ta)(hb:PE X b tb):PE X (.IfExp c a b pos) (AX tA ta tb):=by
 intro aac s σ H Q I h;refine wpAny_IfExp (aB (hc aac s σ H _ I h) λd s1 ⟨H1,I1,q1⟩=>?_);cases d with
 | true=>exact ha aac s1 σ H1 Q I1 q1
 | false=>exact hb aac s1 σ H1 Q I1 q1
end
def bo(K:QV)(H:Hp)(a:Yz)(xs:List V):Prop:=
 Rd H a (.lst xs)\/
  ∃(o:Obj)(its:Array Yx)(n:Nat),K.lookup a=some o/\o.cls= .type "list"/\o.dict=none/\o.data= .seq its n/\its.size<=YH/\aI xs its.toList
def aZ(K:QV)(H:Hp)(a:Yz)(xs:List V):Prop:=
 Rd H a (.tup xs)\/
  ∃(o:Obj)(its:Array Yx)(n:Nat),K.lookup a=some o/\o.cls= .type "tuple"/\o.data= .seq its n/\its.size<=YH/\aI xs its.toList
def Hx:Yx->Option V
 | .none=>some .non
 | .bool b=>some (.bl b)
 | .int i _=>some (.int i)
 | .str x _=>some (.str x)
 | .bytes b _=>some (.byt b)
 | .float b _=>some (.flt b)
 | .ref a=>some (.ref a)
 | .type n=>some (.ty n)
 | _=>none
theorem aJ.abs{x:V}{u:Yx}(r:aJ x u):Hx u=some x:=by
 cases x with
 | non=>cases r;rfl
 | bl _=>cases r;rfl
 | int _=>obtain⟨t,rfl⟩:=r;rfl
 | str _=>obtain⟨t,rfl⟩:=r;rfl
 | byt _=>obtain⟨t,rfl⟩:=r;rfl
 | flt _=>obtain⟨t,rfl⟩:=r;rfl
 | ref _=>cases r;rfl
 | ty _=>cases r;rfl
theorem aJ.inj{x y:V}{u:Yx}(r:aJ x u)(q:aJ y u):x=y:=R3 (r.abs.symm.trans q.abs)
theorem aI.inj:∀{xs ys:List V}{us:List Yx},aI xs us->aI ys us->xs=ys
 | _,_,_,.nil,.nil=>rfl
 | _,_,_,.cons r t,.cons r' t'=>by rw [r.inj r',aI.inj t t']
section
variable {X:Cx} {aac:List (Yz×Obj)} {σ:St} {H:Hp} {s:YA} {a:Yz} {xs ys:List V}
theorem bo.of{K:QV}(h:H a=some (.lst xs)):bo K H a xs:= .inl (.inl h)
theorem aZ.of{K:QV}(h:H a=some (.tup xs)):aZ K H a xs:= .inl (.inl h)
theorem ag.list(I:ag X aac σ H s)(h:bo X.K H a xs):∃its:List Yx,aI xs its/\PlainL s.heap a its.toArray/\xs.length<=YH:=by
 rcases h with h | ⟨o,its,n,hk,hc,hd,hs,hz,r⟩
 ·obtain⟨z,its,n,r,e⟩:=h.ok I.hok;exact⟨its,r,⟨_,n,e,rfl,rfl,rfl⟩,z⟩
 ·refine⟨its.toList,r,⟨o,n,I.kIn a o hk,hc,hd,by simpa using hs⟩,?_⟩;have e:=r.length;simp only [RE] at e;omega
theorem ag.tuple(I:ag X aac σ H s)(h:aZ X.K H a xs):∃its:List Yx,aI xs its/\IsTup s.heap a its.toArray/\xs.length<=YH:=by
 rcases h with h | ⟨o,its,n,hk,hc,hs,hz,r⟩
 ·obtain⟨z,its,r,p⟩:=h.ok I.hok;exact⟨its,r,p,z⟩
 ·refine⟨its.toList,r,⟨o,I.kIn a o hk,hc,n,by simpa using hs⟩,?_⟩;have e:=r.length;simp only [RE] at e;omega
theorem ag.list_inj(I:ag X aac σ H s)(h:bo X.K H a xs)(h':bo X.K H a ys):xs=ys:=by
 obtain⟨its,r,⟨o,n,e,_,_,d⟩,_⟩:=I.list h;obtain⟨its',r',⟨o',n',e',_,_,d'⟩,_⟩:=I.list h';rw [e] at e';cases e';rw [d] at d';injection d' with d1 _
 have:its=its':=by simpa using congrArg X7 d1
 subst this;exact r.inj r'
theorem ag.tuple_inj(I:ag X aac σ H s)(h:aZ X.K H a xs)(h':aZ X.K H a ys):xs=ys:=by
 obtain⟨its,r,⟨o,e,_,n,d⟩,_⟩:=I.tuple h;obtain⟨its',r',⟨o',e',_,n',d'⟩,_⟩:=I.tuple h';rw [e] at e';cases e';rw [d] at d';injection d' with d1 _
 have:its=its':=by simpa using congrArg X7 d1
 subst this;exact r.inj r'
end
abbrev Cx.wish(X:Cx)(E:Yx->YA->Prop):Cx:={X with xe:=E}
abbrev Cx.nox(X:Cx):Cx:=X.wish λ_ _=>False
theorem Cx.Ok.wish{X:Cx}(ok:X.Ok)(E:Yx->YA->Prop):(X.wish E).Ok:=
 ⟨ok.mod,ok.kind,ok.glob,ok.blt,ok.above,ok.inj,ok.has,ok.cab,ok.hd,ok.frames,ok.stk,ok.exf,ok.bs,ok.bsz,ok.noex,ok.exfs,ok.funs,ok.frf⟩
theorem Cx.Ok.unwish{X:Cx}{E:Yx->YA->Prop}(ok:(X.wish E).Ok):X.Ok:=
 ⟨ok.mod,ok.kind,ok.glob,ok.blt,ok.above,ok.inj,ok.has,ok.cab,ok.hd,ok.frames,ok.stk,ok.exf,ok.bs,ok.bsz,ok.noex,ok.exfs,ok.funs,ok.frf⟩
section
variable {X:Cx} {aac:List (Yz×Obj)} {σ:St} {H:Hp} {s:YA} {E:Yx->YA->Prop}
theorem ag.wish(I:ag X aac σ H s)(E:Yx->YA->Prop):ag (X.wish E) aac σ H s:=⟨I.ok.wish E,I.os,I.bare,I.base,I.loc,I.cell,I.free,I.freeC,I.pin,I.hok,I.len⟩
theorem ag.unwish(I:ag (X.wish E) aac σ H s):ag X aac σ H s:=⟨I.ok.unwish,I.os,I.bare,I.base,I.loc,I.cell,I.free,I.freeC,I.pin,I.hok,I.len⟩
theorem SP.unwish{D:iy}{f:Flow}{s':YA}(h:SP (X.wish E) aac D f s'):SP X aac D f s':=by
 cases f with
 | next=>obtain⟨σ',H',I,q⟩:=h;exact⟨σ',H',I.unwish,q⟩
 | brk=>obtain⟨σ',H',I,q⟩:=h;exact⟨σ',H',I.unwish,q⟩
 | cont=>obtain⟨σ',H',I,q⟩:=h;exact⟨σ',H',I.unwish,q⟩
 | ret u=>obtain⟨v,σ',H',I,r,q⟩:=h;exact⟨v,σ',H',I.unwish,r,q⟩
theorem bP.nox{st:List YL}{t:TS}(h:bP X.nox st t):bP X st t:=λaac s σ H D I hw=>
 YY (h aac s σ H D (I.wish _) hw) (λ_ _ q=>q.unwish) λ_ _ z=>S0 z
end
section
variable {X:Cx} {st:YL} {rest:List YL} {t u:TS} {e:YF} {te:TE} {pos:Pos}
def AZ:TS:=λD σ H=>D.nx σ H
def uP(t u:TS):TS:=λD σ H=>t {D with nx:=u D} σ H
theorem oR:bP X [] AZ:=λ_ _ σ H _ I h=>ZT ⟨σ,H,I,h⟩
theorem cO(h1:PS X st t)(h2:bP X rest u):bP X (st::rest) (uP t u):=by
 intro aac s σ H D I h;refine wpAny_execs_cons (aB (h1 aac s σ H {D with nx:=u D} I h) λf s1 q=>?_);cases f with
 | next=>
  obtain⟨σ',H',I',q⟩:=q;exact h2 aac s1 σ' H' D I' q
 | ret v=>exact q
 | brk=>exact q
 | cont=>exact q
theorem eY(h1:PS X st t):bP X [st] t:=by
 intro aac s σ H D I h;refine wpAny_execs_cons (aB (h1 aac s σ H D I h) λf s1 q=>?_);cases f with
 | next=>exact ZT q
 | ret v=>exact q
 | brk=>exact q
 | cont=>exact q
theorem ag.quiet{aac:List (Yz×Obj)}{σ:St}{H:Hp}{s:YA}(I:ag X aac σ H s):interactive X.env=false:=by simp [interactive,I.ok.kind]
def A1(te:TE):TS:=λD σ H=>te σ H λ_ H1=>D.nx σ H1
theorem qh(he:PE X e te)(hs:YS e none pos.line X.env=pure false:=by rfl):PS X (.Expr e pos) (A1 te):=by
 intro aac s σ H D I h;exact wpAny_Expr_any (aB (he aac s σ H _ I h) λv s1 uu13=>by obtain⟨x,H1,I1,r1,q1⟩:=uu13;exact⟨σ,H1,I1,q1⟩) I.quiet hs
def A2(te:TE):TS:=λD σ H=>te σ H D.rt
theorem fN(he:PE X e te):PS X (.Return (some e) pos) (A2 te):=by
 intro aac s σ H D I h;exact wpAny_Return_some (aB (he aac s σ H _ I h) λv s1 uu14=>by obtain⟨x,H1,I1,r1,q1⟩:=uu14;exact⟨x,σ,H1,I1,r1,q1⟩)
def A3(c:TT)(t u:TS):TS:=λD σ H=>c σ H λb H1=>if b=true then t D σ H1 else u D σ H1
theorem oT{c:YF}{a b:List YL}{tc:TT}(hc:PT X c tc)(ha:bP X a t)(hb:bP X b u):PS X (.If c a b pos) (A3 tc t u):=by
 intro aac s σ H D I h;refine wpAny_If (aB (hc aac s σ H _ I h) λd s1 ⟨H1,I1,q1⟩=>?_);cases d with
 | true=>exact ha aac s1 σ H1 D I1 q1
 | false=>exact hb aac s1 σ H1 D I1 q1
def Hy:TS:=λ_ _ _=>False
theorem Hz:PS X st Hy:=λ_ _ _ _ _ _ h=>h.elim
end
abbrev TG:=V->St->Hp->(St->Hp->Prop)->Prop
abbrev i7:=List V->St->Hp->(St->Hp->Prop)->Prop
def PG(X:Cx)(target:YF)(t:TG):Prop:=
 ∀(aac:List (Yz×Obj))(s:YA)(σ:St)(H:Hp)(v:V)(u:Yx)(Q:St->Hp->Prop),ag X aac σ H s->aJ v u->t v σ H Q->
  YC (YE X.prog X.w) X.A (assign target X.env u) (λ_ s'=>∃σ' H',ag X aac σ' H' s'/\Q σ' H') X.xe s
def rK(X:Cx)(ts:List YF)(t:i7):Prop:=
 ∀(aac:List (Yz×Obj))(s:YA)(σ:St)(H:Hp)(vs:List V)(us:List Yx)(Q:St->Hp->Prop),ag X aac σ H s->aI vs us->t vs σ H Q->
  YC (YE X.prog X.w) X.A (assignInOrder ((ZI ts X.env).map (·.2)) us) (λ_ s'=>∃σ' H',ag X aac σ' H' s'/\Q σ' H') X.xe s
section
variable {X:Cx} {pos:Pos}
def i8(i:Nat):TG:=λv σ H Q=>Q (σ.set i (some v)) H
theorem aK{i:Nat}{x:Str}(hN:X.N.Nodup)(hi:X.N[i]?=some x)(hx:g8 X.env.scope x)(hf:X.fn x=true\/X.env.scope.names.lookup x=some .local:=by first | exact .inl rfl | exact .inr rfl | assumption):PG X (.Name x pos) (i8 i):=by
 intro aac s σ H v u Q I r h;exact wpAny_assign_Name (AI I hN hi hx r (λs' I'=>⟨_,H,I',h⟩) hf)
def rL:i7:=λvs σ H Q=>vs=[]/\Q σ H
def qi(t:TG)(u:i7):i7:=λvs σ H Q=>∃v r,vs=v::r/\t v σ H λσ' H'=>u r σ' H' Q
theorem gA:rK X [] rL:=by
 intro aac s σ H vs us Q I r h;obtain⟨e,h⟩:=h;subst e;cases r;exact assignInOrder_nil ⟨σ,H,I,h⟩
theorem bY{e:YF}{es:List YF}{t:TG}{u:i7}(h1:PG X e t)(h2:rK X es u)
 (hs:(ZI (e::es) X.env).map (·.2)=assign e X.env::(ZI es X.env).map (·.2):=by rfl):rK X (e::es) (qi t u):=by
 intro aac s σ H vs us Q I r h;obtain⟨v,vr,e1,h⟩:=h;subst e1;cases r with
 | cons r rr=>
  rw [hs];refine assignInOrder_cons (aB (h1 aac s σ H _ _ _ I r h) λ_ s1 ⟨σ1,H1,I1,q1⟩=>?_);exact h2 aac s1 σ1 H1 _ _ Q I1 rr q1
def rM(K:QV)(n:Nat)(t:i7):TG:=λv σ H Q=>∃a xs,v= .ref a/\aZ K H a xs/\xs.length=n/\t xs σ H Q
theorem gB{es:List YF}{k:Nat}{t:i7}{n:Nat}(hc:X.calm=true)(h:rK X es t)
 (hn:(ZI es X.env).length=n:=by rfl)(hst:(ZI es X.env).findIdx? (·.1)=none:=by rfl):PG X (.Tuple es k pos) (rM X.K n t):=by
 intro aac s σ H v u Q I r hw;obtain⟨a,xs,e1,hq,hl,hw⟩:=hw;subst e1;cases r;obtain⟨its,rv,ht,hz⟩:=I.tuple hq;refine assign_Tuple_tuple (I.ok.hd hc) ht (by simp [hn,<-hl,rv.length]) hst λh' hx=>?_;have I1:ag X aac σ H {s with heap:=h'}:=I.kept (t':=s.toks) λb o e=>hx b o (RH (Rh e)) e;exact h aac _ σ H xs _ Q I1 (by simpa using rv) hw
def qj(te:TE)(g:TG):TS:=λD σ H=>te σ H λx H1=>g x σ H1 D.nx
theorem HA{tg e:YF}{te:TE}{g:TG}(he:PE X e te)(hg:PG X tg g)(hs:swapsWithSole [tg] e pos.line X.env=pure false:=by rfl)(hw:swappedStores [tg] e X.env=pure none:=by rfl)
 (h1:(ZI [tg] X.env).map (·.2)=[assign tg X.env]:=by rfl):PS X (.Assign [tg] e pos) (qj te g):=by
 intro aac s σ H D I h;refine wpAny_Assign_stores (aB (he aac s σ H _ I h) λv s1 ⟨x,H1,I1,r1,q1⟩=>?_) hs hw;rw [h1];exact aB (hg aac s1 σ H1 x v _ I1 r1 q1) λ_ s2 q=>q
theorem d7{i:Nat}{x:Str}{e:YF}{te:TE}{pos':Pos}(hN:X.N.Nodup)(hi:X.N[i]?=some x)(hx:g8 X.env.scope x)(he:PE X e te)(hs:YS e (some (.Name x pos')) pos.line X.env=pure false:=by rfl)(hf:X.fn x=true\/X.env.scope.names.lookup x=some .local:=by first | exact .inl rfl | exact .inr rfl | assumption):
 PS X (.Assign [.Name x pos'] e pos) (qj te (i8 i)):=by
 intro aac s σ H D I h;refine wpAny_Assign_Name (aB (he aac s σ H _ I h) λv s1 ⟨y,H1,I1,r1,q1⟩=>?_) hs;exact AI I1 hN hi hx r1 (λs2 I2=>⟨_,H1,I2,q1⟩) hf
def HB(c:TT)(tb:TS):TS:=λD σ H=>∃W:Nat->St->Hp->Prop,(∃m,W m σ H)/\∀m σ H,W m σ H->
 c σ H λb H1=>if b=true then ∃N:St->Hp->Prop,(∀σ' H',N σ' H'->∃m',m' < m/\W m' σ' H')/\tb {D with nx:=N,ct:=N,bk:=D.nx} σ H1 else D.nx σ H1
theorem A4{c:YF}{body:List YL}{tc:TT}{tb:TS}(hp:Zw (YE X.prog X.w) X.A X.env X.xe)(hc:PT X c tc)(hb:bP X body tb):PS X (.While c body [] pos) (HB tc tb):=by
 intro aac s σ H D I h;obtain⟨W,⟨m0,w0⟩,turn⟩:=h;refine wpAny_While (codeAny_whileLoop (λn s'=>∃σ' H',ag X aac σ' H' s'/\W n σ' H') ?_ m0 ⟨σ,H,I,w0⟩);rintro n s1 ⟨σ1,H1,I1,w1⟩;refine Zi hp (aB (hc aac s1 σ1 H1 _ I1 (turn n σ1 H1 w1)) λb s2 ⟨H2,I2,q2⟩=>?_);cases b with
 | true=>
  obtain⟨N,hN,q2⟩:=q2;rw [Yt rfl];refine Zi hp (aB (hb aac s2 σ1 H2 _ I2 q2) λf s3 q3=>?_);cases f with
  | next=>
   obtain⟨σ3,H3,I3,n3⟩:=q3;obtain⟨m',hm,w3⟩:=hN σ3 H3 n3;exact⟨m',hm,σ3,H3,I3,w3⟩
  | cont=>
   obtain⟨σ3,H3,I3,n3⟩:=q3;obtain⟨m',hm,w3⟩:=hN σ3 H3 n3;exact⟨m',hm,σ3,H3,I3,w3⟩
  | brk=>exact q3
  | ret v=>exact q3
 | false=>
  rw [Ys Q5];exact ZT ⟨σ1,H2,I2,q2⟩
end
structure It where
 go:Nat->Hp->Prop
 yld:Nat->Hp->V->Hp->Prop
 stop:Nat->Hp->Prop
def iz(X:Cx)(aac:List (Yz×Obj))(H:Hp)(b:Yz):Prop:=
 H b=none/\b≠X.env.locals/\b ∉ X.fs/\(b∈X.ex\/X.s₀.heap.objs.size<=b)/\(∀x c,X.env.cells.lookup x=some c->c≠b)/\∀p∈X.pn++aac,p.1≠b
theorem ag.fpOk{X:Cx}{aac:List (Yz×Obj)}{σ:St}{H H':Hp}{s:YA}{b:Yz}(I:ag X aac σ H s)(hb:s.heap.objs.size<=b)(hn:H' b=none):iz X aac H' b:=by
 refine⟨hn,TX (R6 I.lt hb),I.nofs hb,.inr (Rx I.sz hb),λx c e z=>?_,λp hp z=>?_⟩
 ·obtain⟨v,q⟩:=I.cell x c e;exact absurd (R6 q.lt (by rw [z];exact hb)) (S5 _)
 ·exact absurd (R6 (Rh (I.pin p hp).1) (by rw [z];exact hb)) (S5 _)
structure oU (P:YI) (w:YJ) (K:QV) (tg:YF) (J:It) (fp:List Yz) (it:Yz) (tn:Nat->YK->Prop):Prop where
 mem:it∈fp
 obj:∀i h,tn i h->∀b∈fp,∃o,h.get? b=some o/\∀v,o.data≠ .cell v
 keep:∀i h h',tn i h->(∀b∈fp,∀o,h.get? b=some o->h'.get? b=some o)->tn i h'
 item:∀(X:Cx),X.prog=P->X.w=w->X.K=K->X.calm=true->∀(i:Nat)(aac:List (Yz×Obj))(s:YA)(σ:St)(H:Hp)(E:Yx->YA->Prop),ag X aac σ H s->(∀b∈fp,iz X aac H b)->tn i s.heap->J.go i H->
  YC (YE P w) X.A (Zr (.ref it)) (λr s1=>∃u,r=some u/\
   YC (YE P w) X.A (ZU tg (.ref it) u) (λ_ s2=>∃x H',ag X aac σ H' s2/\aJ x u/\J.yld i H x H'/\tn (i+1) s2.heap/\∀b∈fp,H' b=none) E s1) E s
 done:∀(X:Cx),X.prog=P->X.w=w->X.K=K->X.calm=true->∀(i:Nat)(aac:List (Yz×Obj))(s:YA)(σ:St)(H:Hp)(E:Yx->YA->Prop),ag X aac σ H s->(∀b∈fp,iz X aac H b)->tn i s.heap->J.stop i H->
  YC (YE P w) X.A (Zr (.ref it)) (λr s1=>r=none/\ag X aac σ H s1) E s
 self:∀(A:YN)(i:Nat)(s:YA)(Q:Yx->YA->Prop)(E:Yx->YA->Prop),tn i s.heap->Q (.ref it) s->YC (YE P w) A (pyIter (.ref it)) Q E s
abbrev TI:=St->Hp->(It->Hp->Prop)->Prop
def A5(X:Cx)(aac:List (Yz×Obj))(σ:St)(tg:YF)(R:It->Hp->Prop)(itv:Yx)(s2:YA):Prop:=
 ∃(it:Yz)(fp:List Yz)(tn:Nat->YK->Prop)(J:It)(H':Hp),itv= .ref it/\ag X aac σ H' s2/\oU X.prog X.w X.K tg J fp it tn/\tn 0 s2.heap/\(∀b∈fp,iz X aac H' b)/\R J H'
def PI(X:Cx)(tg iter:YF)(wi:TI):Prop:=
 ∀(aac:List (Yz×Obj))(s:YA)(σ:St)(H:Hp)(R:It->Hp->Prop),ag X aac σ H s->wi σ H R->
  YC (YE X.prog X.w) X.A (eval iter X.env) (λv s1=>YC (YE X.prog X.w) X.A (pyIter v) (A5 X aac σ tg R) X.xe s1) X.xe s
theorem uQ{M:Model}{A:YN}{E:Yx->YA->Prop}{s:YA}{tg:YF}{it:Yz}{u:Yx}{o:Obj}{n:String}{vs:Array Yx}{Q:Unit->YA->Prop}(ho:s.heap.get? it=some o)(hc:o.cls= .type n)(hd:o.data= .fields vs)
 (hn:["enumerate","zip","dict_itemiterator","dict_reverseitemiterator","odict_iterator","itertools.zip_longest","itertools.pairwise"].contains n=false)(hQ:Q () s):YC M A (ZU tg (.ref it) u) Q E s:=by
 unfold ZU;cases tg <;> first
  | exact YB hQ
  | (cases u <;> first
      | exact YB hQ
      | (refine Yy (wpAny_load ho ?_)
         rw [hc,hd];show YC M A (if (["enumerate","zip","dict_itemiterator","dict_reverseitemiterator","odict_iterator","itertools.zip_longest","itertools.pairwise"].contains n && vs[0]?==some (Zf _))=true then _ else _) Q E s;rw [Ys (by intro h;rw [hn,U1] at h;cases h)];exact YB hQ))
def oV(K:QV)(a:Yz):It:=
 ⟨λi H=>∃xs x,bo K H a xs/\xs[i]?=some x,λi H x H'=>H'=H/\∀xs,bo K H a xs->xs[i]?=some x,λi H=>∃xs,bo K H a xs/\xs.length<=i⟩
def qm(K:QV)(a:Yz):It:=
 ⟨λi H=>∃xs x,aZ K H a xs/\xs[i]?=some x,λi H x H'=>H'=H/\∀xs,aZ K H a xs->xs[i]?=some x,λi H=>∃xs,aZ K H a xs/\xs.length<=i⟩
def i9(lo:Int)(n:Nat):It:=⟨λi _=>i < n,λi H x H'=>H'=H/\x= .int (lo+i),λi _=>n<=i⟩
theorem HC{P:YI}{w:YJ}{K:QV}{tg:YF}(a it:Yz):oU P w K tg (oV K a) [it] it (λi h=>h.IsListIter it a i) where
 mem:=Yv
 obj:=λi h st b hb=>by
  have e:b=it:=by simpa using hb
  subst e;obtain⟨o,e,c,d⟩:=st;exact⟨o,e,λv z=>by rw [d] at z;cases z⟩
 keep:=λi h h' st k=>st.at λo e=>k it Yv o e
 item:=by
  intro X hP hw hK hc i aac s σ H E I hf st hg;subst hP hw hK;obtain⟨xs,x,hq,hx⟩:=hg;obtain⟨its,rv,p,hz⟩:=I.list hq;obtain⟨u,hu,ru⟩:=rv.get hx;obtain⟨f0,f1,f2,f3,f4,f5⟩:=hf it Yv;refine wpAny_pyNext_list_item st p.isList (x:=u) (by simpa using hu) λh' st' sb=>?_;have I1:ag X aac σ H {s with heap:=h'}:=I.turned (t':=s.toks) (λb o hb e=>(sb.2 b hb).trans e) f0 f1 f3 f4 f5;obtain⟨o,e,c,d⟩:=id st';exact⟨u,rfl,uQ (s:={s with heap:=h'}) e c d Yq ⟨x,H,I1,ru,⟨rfl,λys hy=>by rw [I.list_inj hy hq];exact hx⟩,st',λb hb=>(hf b hb).1⟩⟩
 done:=by
  intro X hP hw hK hc i aac s σ H E I hf st hg;subst hP hw hK;obtain⟨xs,hq,hx⟩:=hg;obtain⟨its,rv,p,hz⟩:=I.list hq;obtain⟨f0,f1,f2,f3,f4,f5⟩:=hf it Yv;have hl:=rv.length;exact wpAny_pyNext_list_end (I.ok.hd hc) st p.isList (by simp;omega) λh' eb=>⟨rfl,I.turned (t':=s.toks) (λb o hb e=>eb b o hb e) f0 f1 f3 f4 f5⟩
 self:=λ_ _ _ _ _ st h=>wpAny_pyIter_listiter st h
theorem HD{P:YI}{w:YJ}{K:QV}{tg:YF}(a it:Yz):oU P w K tg (qm K a) [it] it (λi h=>h.IsTupleIter it a i) where
 mem:=Yv
 obj:=λi h st b hb=>by
  have e:b=it:=by simpa using hb
  subst e;obtain⟨o,e,c,d⟩:=st;exact⟨o,e,λv z=>by rw [d] at z;cases z⟩
 keep:=λi h h' st k=>st.at λo e=>k it Yv o e
 item:=by
  intro X hP hw hK hc i aac s σ H E I hf st hg;subst hP hw hK;obtain⟨xs,x,hq,hx⟩:=hg;obtain⟨its,rv,p,hz⟩:=I.tuple hq;obtain⟨u,hu,ru⟩:=rv.get hx;obtain⟨f0,f1,f2,f3,f4,f5⟩:=hf it Yv;refine wpAny_pyNext_tuple_item st (show s.heap.IsTuple a its.toArray from p) (x:=u) (by simpa using hu) λh' st' sb=>?_;have I1:ag X aac σ H {s with heap:=h'}:=I.turned (t':=s.toks) (λb o hb e=>(sb.2 b hb).trans e) f0 f1 f3 f4 f5;obtain⟨o,e,c,d⟩:=id st';exact⟨u,rfl,uQ (s:={s with heap:=h'}) e c d Yq ⟨x,H,I1,ru,⟨rfl,λys hy=>by rw [I.tuple_inj hy hq];exact hx⟩,st',λb hb=>(hf b hb).1⟩⟩
 done:=by
  intro X hP hw hK hc i aac s σ H E I hf st hg;subst hP hw hK;obtain⟨xs,hq,hx⟩:=hg;obtain⟨its,rv,p,hz⟩:=I.tuple hq;obtain⟨f0,f1,f2,f3,f4,f5⟩:=hf it Yv;have hl:=rv.length;exact wpAny_pyNext_tuple_end (I.ok.hd hc) st (show s.heap.IsTuple a its.toArray from p) (by simp;omega) λh' eb=>⟨rfl,I.turned (t':=s.toks) (λb o hb e=>eb b o hb e) f0 f1 f3 f4 f5⟩
 self:=λ_ _ _ _ _ st h=>wpAny_pyIter_tupleiter st h
theorem HE{P:YI}{w:YJ}{K:QV}{tg:YF}(it:Yz)(lo:Int)(n:Nat):oU P w K tg (i9 lo n) [it] it (λi h=>IsRangeIter h it (lo+(i:Nat)*1) ((n:Int) - (i:Nat)) 1) where
 mem:=Yv
 obj:=λi h st b hb=>by
  have e:b=it:=by simpa using hb
  subst e;exact⟨_,st,λv z=>by
   have z':Data.fields _=Data.cell v:=z;cases z'⟩
 keep:=λi h h' st k=>k it Yv _ st
 item:=by
  intro X hP hw hK hc i aac s σ H E I hf st hg;subst hP hw hK;obtain⟨f0,f1,f2,f3,f4,f5⟩:=hf it Yv;have W:=Walks.range (prog:=X.prog) (w:=X.w) (I.ok.hd hc) it lo 1 n;refine W.item i s _ _ hg st λv h' tk hv st' kk=>?_;obtain⟨t,rfl⟩:=hv;have I1:ag X aac σ H {s with heap:=h',toks:=tk}:=I.turned (λb o hb e=>kk b o (by simpa using hb) e) f0 f1 f3 f4 f5;refine⟨_,rfl,uQ (s:={s with heap:=h',toks:=tk}) (n:="range_iterator") st' rfl rfl Yq ⟨.int (lo+i),H,I1,⟨t,?_⟩,⟨rfl,rfl⟩,st',λb hb=>(hf b hb).1⟩⟩;rw [Int.mul_one]
 done:=by
  intro X hP hw hK hc i aac s σ H E I hf st hg;subst hP hw hK;obtain⟨f0,f1,f2,f3,f4,f5⟩:=hf it Yv;exact wpAny_pyNext_range_end (I.ok.hd hc) st (by have:n<=i:=hg;omega) λh' eb=>⟨rfl,I.turned (t':=s.toks) (λb o hb e=>eb b o hb e) f0 f1 f3 f4 f5⟩
 self:=λ_ _ _ _ _ st h=>wpAny_pyIter_rangeiter st h
section
variable {X:Cx} {tg:YF}
def uR(K:QV)(tl:TE):TI:=λσ H R=>tl σ H λx H1=>∃a,x= .ref a/\(∃xs,bo K H1 a xs)/\R (oV K a) H1
def uS(K:QV)(tl:TE):TI:=λσ H R=>tl σ H λx H1=>∃a,x= .ref a/\(∃xs,aZ K H1 a xs)/\R (qm K a) H1
theorem rN{l:YF}{tl:TE}(hl:PE X l tl):PI X tg l (uR X.K tl):=by
 intro aac s σ H R I h;refine aB (hl aac s σ H _ I h) λv s1 ⟨x,H1,I1,r1,q1⟩=>?_;obtain⟨a,e,⟨xs,hq⟩,q⟩:=q1;subst e;cases r1;obtain⟨its,rv,p,hz⟩:=I1.list hq;refine Z7 p.isList ?_;refine⟨s1.heap.objs.size,[s1.heap.objs.size],_,_,H1,rfl,I1.kept (t':=s1.toks) λb o e=>Q1 _ e,HC a _,⟨_,Rl _ rfl,rfl,rfl⟩,λb hb=>?_,q⟩;have e:b=s1.heap.objs.size:=by simpa using hb
 subst e;exact I1.fpOk (QY _) (I1.hok.fresh (QY _))
theorem uT{l:YF}{tl:TE}(hl:PE X l tl):PI X tg l (uS X.K tl):=by
 intro aac s σ H R I h;refine aB (hl aac s σ H _ I h) λv s1 ⟨x,H1,I1,r1,q1⟩=>?_;obtain⟨a,e,⟨xs,hq⟩,q⟩:=q1;subst e;cases r1;obtain⟨its,rv,p,hz⟩:=I1.tuple hq;refine ZF (show s1.heap.IsTuple a its.toArray from p) ?_;refine⟨s1.heap.objs.size,[s1.heap.objs.size],_,_,H1,rfl,I1.kept (t':=s1.toks) λb o e=>Q1 _ e,HD a _,⟨_,Rl _ rfl,rfl,rfl⟩,λb hb=>?_,q⟩;have e:b=s1.heap.objs.size:=by simpa using hb
 subst e;exact I1.fpOk (QY _) (I1.hok.fresh (QY _))
theorem A6{aac:List (Yz×Obj)}{σ:St}{H:Hp}{s:YA}{R:It->Hp->Prop}{E:Yx->YA->Prop}{lo hi:Int}{t u v:Tok}{tk:Nat}(I:ag X aac σ H s)(h1:-(2 ^ 62)<=lo)(h2:lo < 2 ^ 62)(h3:-(2 ^ 62)<=hi)(h4:hi < 2 ^ 62)
 (q:R (i9 lo (hi - lo).toNat) H):YC (YE X.prog X.w) X.A (pyIter (.ref s.heap.objs.size)) (A5 X aac σ tg R) E {s with heap:=s.heap.push {cls:= .type "range",data:= .fields #[.int lo t,.int hi u,.int 1 v]},toks:=tk}:=by
 refine wpAny_pyIter_range (IsRange.new ..) (small_one h1 h2 h3 h4) ?_;have I1:ag X aac σ H {s with heap:=s.heap.push {cls:= .type "range",data:= .fields #[.int lo t,.int hi u,.int 1 v]},toks:=tk}:=I.kept λb o e=>Q1 _ e;refine⟨(s.heap.push {cls:= .type "range",data:= .fields #[.int lo t,.int hi u,.int 1 v]}).objs.size,[(s.heap.push {cls:= .type "range",data:= .fields #[.int lo t,.int hi u,.int 1 v]}).objs.size],_,_,H,rfl,
  I1.kept (t':=tk) λb o e=>Q1 _ e,HE _ lo (hi - lo).toNat,?_,λb hb=>?_,q⟩
 ·have e1:lo+((0:Nat):Int)*1=lo:=Yv
  have e2:(((hi - lo).toNat:Nat):Int) - ((0:Nat):Int)=Builtin.Range.rangeSize lo hi 1:=by rw [rangeSize_one];split <;> omega
  show IsRangeIter _ _ (lo+((0:Nat):Int)*1) ((((hi - lo).toNat:Nat):Int) - ((0:Nat):Int)) 1;rw [e1,e2];exact Rl _ rfl
 ·have e:b=(s.heap.push {cls:= .type "range",data:= .fields #[.int lo t,.int hi u,.int 1 v]}).objs.size:=by simpa using hb
  subst e;exact I1.fpOk (QY _) (I1.hok.fresh (QY _))
def uU(ta:TA):TI:=λσ H R=>ta σ H λvs H1=>∃j:Int,vs=[.int j]/\-(2 ^ 62)<=j/\j < 2 ^ 62/\R (i9 0 j.toNat) H1
def uV(ta:TA):TI:=λσ H R=>ta σ H λvs H1=>∃i j:Int,vs=[.int i,.int j]/\(-(2 ^ 62)<=i/\i < 2 ^ 62/\-(2 ^ 62)<=j/\j < 2 ^ 62)/\R (i9 i (j - i).toNat) H1
theorem uW{a:YF}{ta:TA}{p pos:Pos}(hg:Gl X "range")(hm:X.mg "range"=none)(ha:PA X [a] ta)(hs:YD [a] X.env=[(false,eval a X.env)]:=by rfl):PI X tg (.Call (.Name "range" p) [a] [] pos) (uU ta):=by
 intro aac s σ H R I h;refine Call_ (nP I hg hm boot_range (Tt (aB (ha pos aac s σ H _ I h) λus s1 ⟨vs,H1,I1,r1,q1⟩=>?_) hs rfl));obtain⟨j,e,q1,q2,q⟩:=q1;subst e;cases r1 with
 | cons r rr=>
  cases rr;obtain⟨t,rfl⟩:=r;exact call_range_1 (A6 I1 Yr Yr q1 q2 (by simpa using q))
theorem HF{a b:YF}{ta:TA}{p pos:Pos}(hg:Gl X "range")(hm:X.mg "range"=none)(ha:PA X [a,b] ta)(hs:YD [a,b] X.env=[(false,eval a X.env),(false,eval b X.env)]:=by rfl)(hs2:YD [b] X.env=[(false,eval b X.env)]:=by rfl):
 PI X tg (.Call (.Name "range" p) [a,b] [] pos) (uV ta):=by
 intro aac s σ H R I h;refine Call_ (nP I hg hm boot_range (Tt (aB (ha pos aac s σ H _ I h) λus s1 ⟨vs,H1,I1,r1,q1⟩=>?_) (by rw [hs,hs2]) (by rw [hs2];rfl)));obtain⟨i,j,e,⟨q1,q2,q3,q4⟩,q⟩:=q1;subst e;cases r1 with
 | cons r rr=>
  cases rr with
  | cons r' rr=>
   cases rr;obtain⟨t,rfl⟩:=r;obtain⟨t',rfl⟩:=r';exact call_range_2 (A6 I1 q1 q2 q3 q4 q)
def qo(wi:TI)(g:TG)(tb:TS):TS:=λD σ H=>wi σ H λJ H1=>∃W:Nat->Nat->St->Hp->Prop,(∃m,W 0 m σ H1)/\∀i m σ H,W i m σ H->
 (J.stop i H/\D.nx σ H)\/(J.go i H/\∃N:St->Hp->Prop,(∀σ' H',N σ' H'->∃m',m' < m/\W (i+1) m' σ' H')/\∀x H',J.yld i H x H'->g x σ H' λσ2 H2=>tb {D with nx:=N,ct:=N,bk:=D.nx} σ2 H2)
def qp(fp:List Yz)(h:YK):List (Yz×Obj):=fp.filterMap λb=>(h.get? b).map λo=>(b,o)
theorem rO{fp:List Yz}{h:YK}{b:Yz}{o:Obj}(hb:b∈fp)(e:h.get? b=some o):(b,o)∈qp fp h:=UN.mpr ⟨b,hb,by rw [e];rfl⟩
theorem HG{fp:List Yz}{h:YK}{p:Yz×Obj}(hp:p∈qp fp h):p.1∈fp/\h.get? p.1=some p.2:=by
 obtain⟨b,hb,e⟩:=UN.mp hp;cases q:h.get? b with
 | none=>rw [q] at e;cases e
 | some o=>
  rw [q] at e;have e':(b,o)=p:=R3 e;subst e';exact⟨hb,q⟩
theorem ag.pinned{aac:List (Yz×Obj)}{σ:St}{H:Hp}{s:YA}{fp:List Yz}(I:ag X aac σ H s)(hf:∀b∈fp,iz X aac H b)(ho:∀b∈fp,∃o,s.heap.get? b=some o/\∀v,o.data≠ .cell v):ag X (aac++qp fp s.heap) σ H s:=
 I.pins_of λp hp=>(Rj.mp hp).elim (λz=>I.pin p (R0 _ z)) λz=>by
  obtain⟨hb,e⟩:=HG z;obtain⟨f0,f1,f2,_⟩:=hf p.1 hb;obtain⟨o,e',d⟩:=ho p.1 hb;rw [e] at e';cases e';exact⟨e,f0,f1,f2,d⟩
theorem ag.unpinned{aac pl:List (Yz×Obj)}{σ:St}{H:Hp}{s:YA}(I:ag X (aac++pl) σ H s):ag X aac σ H s:=I.pins_of λp hp=>I.pin p (R0 _ (U5 _ hp))
theorem oW{iter:YF}{body:List YL}{wi:TI}{g:TG}{tb:TS}{pos:Pos}(hp:Zw (YE X.prog X.w) X.A X.env X.xe)(hc:X.calm=true)(hi:PI X tg iter wi)(hg:PG X tg g)(hb:bP X body tb)
 (hs:∀x,YO iter X.env x=pure x:=by intro _;rfl):PS X (.For tg iter body [] pos) (qo wi g tb):=by
 intro aac s σ H D I h;refine wpAny_For (aB (hi aac s σ H _ I h) λv s1 h1=>aB h1 λitv s2 h2=>?_) hs;obtain⟨it,fp,tn,J,H2,e,I2,T,st2,f2,W,⟨m0,w0⟩,turn⟩:=h2;subst e;have stat:∀{H':Hp},(∀b∈fp,H' b=none)->∀b∈fp,iz X aac H' b:=λhn b hb=>⟨hn b hb,(f2 b hb).2⟩;refine codeAny_forLoop_any (λn s'=>∃i σ' H',ag X aac σ' H' s'/\tn i s'.heap/\(∀b∈fp,H' b=none)/\W i n σ' H') ?_ m0 ⟨0,σ,H2,I2,st2,λb hb=>(f2 b hb).1,w0⟩;rintro n s3 ⟨i,σ3,H3,I3,st3,fr3,w3⟩;rcases turn i n σ3 H3 w3 with⟨stop,qn⟩ | ⟨go,N,hN,step⟩
 ·refine Zi hp (aB (T.done X rfl rfl rfl hc i aac s3 σ3 H3 X.xe I3 (stat fr3) st3 stop) λr s4 ⟨hr,I4⟩=>?_);subst hr;exact ZT ⟨σ3,H3,I4,qn⟩
 ·refine Zi hp (aB (T.item X rfl rfl rfl hc i aac s3 σ3 H3 X.xe I3 (stat fr3) st3 go) λr s4 ⟨u,hr,h4⟩=>?_);subst hr;refine Zi hp (aB h4 λ_ s5 ⟨x,H5,I5,r5,y5,st5,fr5⟩=>?_);have I5':=I5.pinned (stat fr5) (T.obj _ _ st5);refine Zi hp (aB (hg _ s5 σ3 H5 x u _ I5' r5 (step x H5 y5)) λ_ s6 ⟨σ6,H6,I6,q6⟩=>?_);refine Zi hp (aB (hb _ s6 σ6 H6 _ I6 q6) λf s7 q7=>?_);have again:∀{σ7:St}{H7:Hp},ag X (aac++qp fp s5.heap) σ7 H7 s7->N σ7 H7->∃m,m < n/\∃i σ' H',ag X aac σ' H' s7/\tn i s7.heap/\(∀b∈fp,H' b=none)/\W i m σ' H':=λ{σ7 H7} I7 n7=>by
   obtain⟨m',hm,w7⟩:=hN σ7 H7 n7;refine⟨m',hm,i+1,σ7,H7,I7.unpinned,T.keep _ _ _ st5 λb hb o e=>(I7.pin (b,o) (R0 _ (R0 _ (rO hb e)))).1,λb hb=>?_,w7⟩;obtain⟨o,e,d⟩:=T.obj _ _ st5 b hb;exact(I7.pin (b,o) (R0 _ (R0 _ (rO hb e)))).2.1
  cases f with
  | next=>obtain⟨σ7,H7,I7,n7⟩:=q7;exact again I7 n7
  | cont=>obtain⟨σ7,H7,I7,n7⟩:=q7;exact again I7 n7
  | brk=>obtain⟨σ7,H7,I7,q7⟩:=q7;exact⟨σ7,H7,I7.unpinned,q7⟩
  | ret v=>obtain⟨x7,σ7,H7,I7,r7,q7⟩:=q7;exact⟨x7,σ7,H7,I7.unpinned,r7,q7⟩
end
abbrev R2:=V->V->Hp->VK->Prop
def bG(X:Cx)(f:Yx->Yx->Sem Yx)(r:R2):Prop:=
 ∀(aac:List (Yz×Obj))(s:YA)(σ:St)(H:Hp)(x y:V)(v u:Yx)(Q:VK),ag X aac σ H s->aJ x v->aJ y u->r x y H Q->
  YC (YE X.prog X.w) X.A (f v u) (EP X aac σ Q) X.xe s
def uX(X:Cx)(f:Yx->Sem Yx)(r:V->Hp->VK->Prop):Prop:=
 ∀(aac:List (Yz×Obj))(s:YA)(σ:St)(H:Hp)(x:V)(v:Yx)(Q:VK),ag X aac σ H s->aJ x v->r x H Q->
  YC (YE X.prog X.w) X.A (f v) (EP X aac σ Q) X.xe s
def d8(X:Cx)(f:Yx)(r:List V->Hp->VK->Prop):Prop:=
 ∀(aac:List (Yz×Obj))(s:YA)(σ:St)(H:Hp)(xs:List V)(us:List Yx)(Q:VK),ag X aac σ H s->aI xs us->r xs H Q->
  YC (YE X.prog X.w) X.A (call f us) (EP X aac σ Q) X.xe s
def HH(X:Cx)(r:V->Hp->(Bool->Hp->Prop)->Prop):Prop:=
 ∀(aac:List (Yz×Obj))(s:YA)(σ:St)(H:Hp)(x:V)(v:Yx)(Q:Bool->Hp->Prop),ag X aac σ H s->aJ x v->r x H Q->
  YC (YE X.prog X.w) X.A (truthy v) (TP X aac σ Q) X.xe s
def oX(r:R2)(ta tb:TE):TE:=λσ H Q=>ta σ H λx H1=>tb σ H1 λy H2=>r x y H2 Q
def A7(r:V->Hp->VK->Prop)(ta:TE):TE:=λσ H Q=>ta σ H λx H1=>r x H1 Q
def rI(C:Int->Int->Prop)(g:Int->Int->V):R2:=λx y H Q=>∃i j,x= .int i/\y= .int j/\C i j/\Q (g i j) H
def iA(g:Int->Int->V):R2:=λx y H Q=>∃i j,x= .int i/\y= .int j/\Q (g i j) H
def rU(g:Int->V):V->Hp->VK->Prop:=λx H Q=>∃i,x= .int i/\Q (g i) H
section
variable {X:Cx} {a b c:YF} {ta tb tc:TE} {pos:Pos}
theorem uY(ha:PE X a ta)(hb:PE X b tb){aac:List (Yz×Obj)}{s:YA}{σ:St}{H:Hp}{R:V->V->Hp->Prop}(I:ag X aac σ H s)
 (h:ta σ H λx H1=>tb σ H1 λy H2=>R x y H2){Q:Yx->YA->Prop}{f:Yx->Yx->Sem Yx}
 (hf:∀v u s2 x y H2,ag X aac σ H2 s2->aJ x v->aJ y u->R x y H2->YC (YE X.prog X.w) X.A (f v u) Q X.xe s2):
 YC (YE X.prog X.w) X.A (eval a X.env) (λv s₁=>YC (YE X.prog X.w) X.A (eval b X.env) (λu s₂=>YC (YE X.prog X.w) X.A (f v u) Q X.xe s₂) X.xe s₁) X.xe s:=by
 refine aB (ha aac s σ H _ I h) λv s1 ⟨x,H1,I1,r1,q1⟩=>?_;refine aB (hb aac s1 σ H1 _ I1 q1) λu s2 ⟨y,H2,I2,r2,q2⟩=>?_;exact hf v u s2 x y H2 I2 r1 r2 q2
theorem bE{op:Operator}{r:R2}(ho:bG X (Y8 op) r)(ha:PE X a ta)(hb:PE X b tb):PE X (.BinOp a op b pos) (oX r ta tb):=by
 intro aac s σ H Q I h;exact wpAny_BinOp (uY ha hb I h λv u s2 x y H2 I2 rx ry q=>ho aac s2 σ H2 x y v u Q I2 rx ry q)
theorem HI{op:UnaryOp}{r:V->Hp->VK->Prop}(ho:uX X (unaryOp op) r)(ha:PE X a ta):PE X (.UnaryOp op a pos) (A7 r ta):=by
 intro aac s σ H Q I h;exact UnaryOp_ (aB (ha aac s σ H _ I h) λv s1 uu30=>by obtain⟨x,H1,I1,r1,q1⟩:=uu30;exact ho aac s1 σ H1 x v Q I1 r1 q1)
theorem rP{f:Yx->Yx->Sem Yx}{C:Int->Int->Prop}{g:Int->Int->Int}
 (rule:∀(i j:Int) (t u:Tok) (s:YA) (Q:Yx->YA->Prop) (E:Yx->YA->Prop),C i j->Q (.int (g i j) s.toks) {s with toks:=s.toks+1}->YC (YE X.prog X.w) X.A (f (.int i t) (.int j u)) Q E s):
 bG X f (rI C λi j=>.int (g i j)):=by
 intro aac s σ H x y v u Q I rx ry h;obtain⟨i,j,rfl,rfl,hc,q⟩:=h;obtain⟨t,rfl⟩:=rx;obtain⟨t',rfl⟩:=ry;exact rule i j t t' s _ _ hc ⟨.int (g i j),H,I.tok _,⟨_,rfl⟩,q⟩
theorem A8{f:Yx->Yx->Sem Yx}{g:Int->Int->Int}
 (rule:∀(i j:Int) (t u:Tok) (s:YA) (Q:Yx->YA->Prop) (E:Yx->YA->Prop),Q (.int (g i j) s.toks) {s with toks:=s.toks+1}->YC (YE X.prog X.w) X.A (f (.int i t) (.int j u)) Q E s):
 bG X f (iA λi j=>.int (g i j)):=by
 intro aac s σ H x y v u Q I rx ry h;obtain⟨i,j,rfl,rfl,q⟩:=h;obtain⟨t,rfl⟩:=rx;obtain⟨t',rfl⟩:=ry;exact rule i j t t' s _ _ ⟨.int (g i j),H,I.tok _,⟨_,rfl⟩,q⟩
theorem rQ{f:Yx->Yx->Sem Yx}{g:Int->Int->Bool}
 (rule:∀(i j:Int) (t u:Tok) (s:YA) (Q:Yx->YA->Prop) (E:Yx->YA->Prop),Q (.bool (g i j)) s->YC (YE X.prog X.w) X.A (f (.int i t) (.int j u)) Q E s):
 bG X f (iA λi j=>.bl (g i j)):=by
 intro aac s σ H x y v u Q I rx ry h;obtain⟨i,j,rfl,rfl,q⟩:=h;obtain⟨t,rfl⟩:=rx;obtain⟨t',rfl⟩:=ry;exact rule i j t t' s _ _ ⟨.bl (g i j),H,I,rfl,q⟩
def gC(i j:Int):Prop:=0 < j/\j < 1073741824
def ja(i j:Int):Prop:=0<=j/\j<=1000000/\i.natAbs < 2 ^ 64
def g9(i j:Int):Prop:=(-(2 ^ 64) < i/\i < 2 ^ 64)\/(-(2 ^ 64) < j/\j < 2 ^ 64)
theorem g9.ok{i j:Int}(h:g9 i j):IntMulOk i j:=by
 rcases h with⟨h1,h2⟩ | ⟨h1,h2⟩
 ·exact .of_left (intBits_le_64 h1 h2)
 ·exact .of_right (intBits_le_64 h1 h2)
theorem bA:bG X (Y8 .Add) (iA λi j=>.int (i+j)):=A8 λ_ _ _ _ _ _ _ q=>add_int q
theorem eZ:bG X (Y8 .Sub) (iA λi j=>.int (i - j)):=A8 λ_ _ _ _ _ _ _ q=>sub_int q
theorem d9:bG X (Y8 .Mult) (rI g9 λi j=>.int (i*j)):=rP λ_ _ _ _ _ _ _ hc q=>mul_int q hc.ok
theorem cQ:bG X (Y8 .FloorDiv) (rI gC λi j=>.int (i / j)):=rP λi j _ _ _ _ _ hc q=>by
 have h1:(0:Int) < j:=hc.1;have h2:j < 1073741824:=hc.2;exact floordiv_int Yr (by rw [V2 i Yr];exact q) (.inl (WL Yr))
theorem aW:bG X (Y8 .Mod) (rI (λ_ j=>0 < j) λi j=>.int (i % j)):=rP λi j _ _ _ _ _ hc q=>by
 have h1:(0:Int) < j:=hc;exact mod_int' Yr (by rw [V3 i Yr];exact q)
theorem A9:bG X (Y8 .Pow) (rI ja λi j=>.int (i ^ j.toNat)):=rP λ_ _ _ _ _ _ _ hc q=>pow_int_small hc.1 hc.2.1 hc.2.2 q
theorem HJ{f:Yx->Sem Yx}{g:Int->Int}
 (rule:∀(i:Int) (t:Tok) (s:YA) (Q:Yx->YA->Prop) (E:Yx->YA->Prop),Q (.int (g i) s.toks) {s with toks:=s.toks+1}->YC (YE X.prog X.w) X.A (f (.int i t)) Q E s):
 uX X f (rU λi=>.int (g i)):=by
 intro aac s σ H x v Q I rx h;obtain⟨i,rfl,q⟩:=h;obtain⟨t,rfl⟩:=rx;exact rule i t s _ _ ⟨.int (g i),H,I.tok _,⟨_,rfl⟩,q⟩
theorem HK:uX X (unaryOp .USub) (rU λi=>.int (-i)):=HJ λ_ _ _ _ _ q=>neg_int q
end
def nQ:V->V->Bool
 | .non,.non=>true | .non,.int _=>true | .int _,.non=>true | .non,.bl _=>true | .bl _,.non=>true | .non,.str _=>true | .str _,.non=>true
 | .int _,.int _=>true | .bl _,.bl _=>true | .str _,.str _=>true | .byt _,.byt _=>true
 | .int _,.str _=>true | .str _,.int _=>true | .bl _,.str _=>true | .str _,.bl _=>true
 | _,_=>false
def Ba:R2:=λx y H Q=>nQ x y=true/\Q (.bl (decide (x=y))) H
def Bb:R2:=λx y H Q=>nQ x y=true/\Q (.bl (!decide (x=y))) H
theorem Bc{i j:Int}:decide (V.int i=V.int j)=(i==j):=by
 rw [UO];simp
theorem Bd{i j:Bool}:decide (V.bl i=V.bl j)=(i==j):=by
 rw [UO];simp
theorem Be{i j:Str}:decide (V.str i=V.str j)=(i==j):=by
 rw [UO];simp
theorem Bf{i j:Array UInt8}:decide (V.byt i=V.byt j)=(i.toList==j.toList):=by
 rw [UO];cases i;cases j;simp
section
variable {X:Cx} {a b c:YF} {ta tb tc:TE} {pos:Pos}
theorem bD{aac:List (Yz×Obj)}{σ:St}{H:Hp}{s:YA}{Q:VK}{k k':Bool}(I:ag X aac σ H s)(q:Q (.bl k) H)(e:k=k'):EP X aac σ Q (.bool k') s:=by
 subst e;exact⟨.bl k,H,I,rfl,q⟩
theorem qq:bG X (YU .Eq) Ba:=by
 intro aac s σ H x y v u Q I rx ry h;obtain⟨hs,q⟩:=h;cases x with
 | non=>
  cases rx;cases y with
  | non=>cases ry;exact PySem.EqNone.eq_none_none (bD I q Yv)
  | bl j=>cases ry;exact PySem.EqNone.eq_none_bool (bD I q Yv)
  | int j=>obtain⟨t',rfl⟩:=ry;exact PySem.EqNone.eq_none_int (bD I q Yv)
  | str j=>obtain⟨t',rfl⟩:=ry;exact PySem.EqNone.eq_none_str (bD I q Yv)
  | _=>exact absurd (show false=true from hs) Q5
 | bl i=>
  cases rx;cases y with
  | non=>cases ry;exact PySem.EqNone.eq_bool_none (bD I q Yv)
  | bl j=>cases ry;exact eq_bool (bD I q Bd)
  | str j=>obtain⟨t',rfl⟩:=ry;exact PySem.EqMixed.eq_bool_str (bD I q Yv)
  | _=>exact absurd (show false=true from hs) Q5
 | int i=>
  obtain⟨t,rfl⟩:=rx;cases y with
  | non=>cases ry;exact PySem.EqNone.eq_int_none (bD I q Yv)
  | int j=>obtain⟨t',rfl⟩:=ry;exact eq_int (bD I q Bc)
  | str j=>obtain⟨t',rfl⟩:=ry;exact PySem.EqMixed.eq_int_str (bD I q Yv)
  | _=>exact absurd (show false=true from hs) Q5
 | str i=>
  obtain⟨t,rfl⟩:=rx;cases y with
  | non=>cases ry;exact PySem.EqNone.eq_str_none (bD I q Yv)
  | bl j=>cases ry;exact PySem.EqMixed.eq_str_bool (bD I q Yv)
  | int j=>obtain⟨t',rfl⟩:=ry;exact PySem.EqMixed.eq_str_int (bD I q Yv)
  | str j=>obtain⟨t',rfl⟩:=ry;exact eq_str (bD I q Be)
  | _=>exact absurd (show false=true from hs) Q5
 | byt i=>
  obtain⟨t,rfl⟩:=rx;cases y with
  | byt j=>obtain⟨t',rfl⟩:=ry;exact PySem.W.eq_bytes (bD I q Bf)
  | _=>exact absurd (show false=true from hs) Q5
 | _=>cases y <;> exact absurd (show false=true from hs) Q5
theorem HL:bG X (YU .NotEq) Bb:=by
 intro aac s σ H x y v u Q I rx ry h;obtain⟨hs,q⟩:=h;cases x with
 | non=>
  cases rx;cases y with
  | non=>cases ry;exact PySem.EqNone.ne_none_none (bD I q Yv)
  | bl j=>cases ry;exact PySem.EqNone.ne_none_bool (bD I q Yv)
  | int j=>obtain⟨t',rfl⟩:=ry;exact PySem.EqNone.ne_none_int (bD I q Yv)
  | str j=>obtain⟨t',rfl⟩:=ry;exact PySem.EqNone.ne_none_str (bD I q Yv)
  | _=>exact absurd (show false=true from hs) Q5
 | bl i=>
  cases rx;cases y with
  | non=>cases ry;exact PySem.EqNone.ne_bool_none (bD I q Yv)
  | bl j=>cases ry;exact ne_bool (bD I q (congrArg not Bd))
  | str j=>obtain⟨t',rfl⟩:=ry;exact PySem.EqMixed.ne_bool_str (bD I q Yv)
  | _=>exact absurd (show false=true from hs) Q5
 | int i=>
  obtain⟨t,rfl⟩:=rx;cases y with
  | non=>cases ry;exact PySem.EqNone.ne_int_none (bD I q Yv)
  | int j=>obtain⟨t',rfl⟩:=ry;exact ne_int (bD I q (congrArg not Bc))
  | str j=>obtain⟨t',rfl⟩:=ry;exact PySem.EqMixed.ne_int_str (bD I q Yv)
  | _=>exact absurd (show false=true from hs) Q5
 | str i=>
  obtain⟨t,rfl⟩:=rx;cases y with
  | non=>cases ry;exact PySem.EqNone.ne_str_none (bD I q Yv)
  | bl j=>cases ry;exact PySem.EqMixed.ne_str_bool (bD I q Yv)
  | int j=>obtain⟨t',rfl⟩:=ry;exact PySem.EqMixed.ne_str_int (bD I q Yv)
  | str j=>obtain⟨t',rfl⟩:=ry;exact ne_str (bD I q (congrArg not Be))
  | _=>exact absurd (show false=true from hs) Q5
 | byt i=>
  obtain⟨t,rfl⟩:=rx;cases y with
  | byt j=>obtain⟨t',rfl⟩:=ry;exact PySem.W.ne_bytes (bD I q (congrArg not Bf))
  | _=>exact absurd (show false=true from hs) Q5
 | _=>cases y <;> exact absurd (show false=true from hs) Q5
theorem rR:bG X (YU .Lt) (iA λi j=>.bl (decide (i < j))):=rQ λ_ _ _ _ _ _ _ q=>lt_int q
theorem lR:bG X (YU .LtE) (iA λi j=>.bl (decide (i<=j))):=rQ λ_ _ _ _ _ _ _ q=>le_int q
theorem jJ:bG X (YU .Gt) (iA λi j=>.bl (decide (j < i))):=rQ λ_ _ _ _ _ _ _ q=>gt_int q
theorem Bg:bG X (YU .GtE) (iA λi j=>.bl (decide (j<=i))):=rQ λ_ _ _ _ _ _ _ q=>ge_int q
theorem qr:bG X (YU .Is) (λx y H Q=>y= .non/\Q (.bl (decide (x= .non))) H):=by
 intro aac s σ H x y v u Q I rx ry h;obtain⟨rfl,q⟩:=h;cases ry;refine is_none_gen (bD I q ?_);cases x <;> first
  | (cases rx;rfl)
  | (obtain⟨t,rfl⟩:=rx;rfl)
theorem Bh:bG X (YU .IsNot) (λx y H Q=>y= .non/\Q (.bl (!decide (x= .non))) H):=by
 intro aac s σ H x y v u Q I rx ry h;obtain⟨rfl,q⟩:=h;cases ry;refine isnot_none_gen (bD I q ?_);cases x <;> first
  | (cases rx;rfl)
  | (obtain⟨t,rfl⟩:=rx;rfl)
theorem aF(b:YF){op:CmpOp}(h:op≠ .In:=by decide)(h2:op≠ .NotIn:=by decide):Y3 op b=false:=by
 have e1:(op==CmpOp.In)=false:=by cases op <;> first | rfl | exact absurd rfl h
 have e2:(op==Yd)=false:=by cases op <;> first | rfl | exact absurd rfl h2
 cases b <;> simp [Y3,e1,e2]
theorem rS{op:CmpOp}{r:R2}(ho:bG X (YU op) r)(ha:PE X a ta)(hb:PE X b tb)(hm:Y3 op b=false):PE X (.Compare a [op] [b] pos) (oX r ta tb):=by
 intro aac s σ H Q I h;exact wpAny_Compare1 (uY ha hb I h λv u s2 x y H2 I2 rx ry q=>ho aac s2 σ H2 x y v u Q I2 rx ry q) hm
def Bi(t:TE):TT:=λσ H Q=>t σ H λx H'=>∃k,x= .bl k/\Q k H'
theorem nR{op:CmpOp}{r:R2}(ho:bG X (YU op) r)(ha:PE X a ta)(hb:PE X b tb)(hm:Y3 op b=false):PT X (.Compare a [op] [b] pos) (Bi (oX r ta tb)):=by
 intro aac s σ H Q I h;refine wpAny_isTrue_Compare1 (aB (ha aac s σ H _ I h) λv s1 ⟨x,H1,I1,r1,q1⟩=>aB (hb aac s1 σ H1 _ I1 q1) λu s2 ⟨y,H2,I2,r2,q2⟩=>
  aB (ho aac s2 σ H2 x y v u _ I2 r1 r2 q2) λc s3 ⟨z,H3,I3,r3,k,e,q3⟩=>?_) hm
 subst e;cases r3;exact Y7 ⟨H3,I3,q3⟩
def Bj(K:QV)(x:V)(H:Hp)(k:Bool):Prop:=
 match x with
 | .non=>k=false
 | .bl b=>k=b
 | .int i=>k=(i !=0)
 | .str y=>y.length<=YH/\k=((y.length:Int) !=0)
 | .byt y=>y.size<=YH/\k=((y.size:Int) !=0)
 | .ref p=>(∃xs,bo K H p xs/\k=!xs.isEmpty)\/(∃xs,aZ K H p xs/\k=!xs.isEmpty)\/∃kvs,H p=some (.dK kvs)/\k=!kvs.isEmpty
 | _=>False
theorem HM{κ:Type}{kvs:List (κ×V)}{vs:List (κ×Yx)}(r:KV kvs vs):(!vs.isEmpty)=!kvs.isEmpty:=by
 cases r <;> rfl
theorem Bk{xs:List V}{its:List Yx}(r:aI xs its):(!its.toArray.isEmpty)=!xs.isEmpty:=by
 cases r <;> simp
theorem qt:(YH:Nat) < 2 ^ 63:=by rw [Y1];decide
theorem HN:HH X (λx H Q=>∃k,Bj X.K x H k/\Q k H):=by
 intro aac s σ H x v Q I rx h;obtain⟨k,e,q⟩:=h;have hl:=qt;have hs:YH=16777216:=Y1;cases x with
 | non=>
  cases rx;have e':k=false:=e;subst e';exact truthy_none ⟨H,I,q⟩
 | bl b=>
  cases rx;have e':k=b:=e;subst e';exact Y7 ⟨H,I,q⟩
 | int i=>
  obtain⟨t,rfl⟩:=rx;have e':k=(i !=0):=e;subst e';exact PySem.P.truthy_int ⟨H,I,q⟩
 | str y=>
  obtain⟨t,rfl⟩:=rx;obtain⟨hy,e'⟩:y.length<=YH/\k=((y.length:Int) !=0):=e;subst e';exact PySem.P.truthy_str Yr ⟨H,I.tok _,q⟩
 | byt y=>
  obtain⟨t,rfl⟩:=rx;obtain⟨hy,e'⟩:y.size<=YH/\k=((y.size:Int) !=0):=e;subst e';exact PySem.W.truthy_bytes Yr ⟨H,I.tok _,q⟩
 | ref p=>
  cases rx;have e':(∃xs,bo X.K H p xs/\k=!xs.isEmpty)\/(∃xs,aZ X.K H p xs/\k=!xs.isEmpty)\/∃kvs,H p=some (.dK kvs)/\k=!kvs.isEmpty:=e;rcases e' with⟨xs,hx,e'⟩ | ⟨xs,hx,e'⟩ | ⟨kvs,hx,e'⟩
  ·subst e';obtain⟨its,r,pl,hz⟩:=I.list hx;have hlen:=r.length;exact wpAny_truthy_list pl.isList (by simp only [Rc];omega) ⟨H,I.tok _,by rw [Bk r];exact q⟩
  ·subst e';obtain⟨its,r,pl,hz⟩:=I.tuple hx;have hlen:=r.length;exact truthy_tuple pl (by simp only [Rc];omega) ⟨H,I.tok _,by rw [Bk r];exact q⟩
  ·subst e';obtain⟨hz,hS,vs,r,m⟩:kvs.length<=YH/\(p==Ze)=false/\∃vs,KV kvs vs/\s.heap.DictOf (dF X.prog X.w) p vs:=I.hok p _ hx;have hlen:kvs.length=vs.length:=V0 r;exact wpAny_truthy_dict hS m Yr ⟨H,I.tok _,by rw [HM r];exact q⟩
 | _=>exact(show False from e).elim
theorem HP(ha:PE X a ta)(he:∀whole,isTrue a X.env whole=(do let v<-whole;ZR a.pos;ZH [v] (truthy v))):
 PT X a (λσ H Q=>ta σ H λx H'=>∃k,Bj X.K x H' k/\Q k H'):=by
 intro aac s σ H Q I h;exact isTrue_plain (aB (ha aac s σ H _ I h) λv s1 uu34=>by obtain⟨x,H1,I1,r1,q1⟩:=uu34;exact HN aac s1 σ H1 x v Q I1 r1 q1) (he _)
theorem Bl:bG X (Y8 .Add) (λx y H Q=>∃i j,x= .str i/\y= .str j/\i.length+j.length<=YH/\Q (.str (i++j)) H):=by
 intro aac s σ H x y v u Q I rx ry h;obtain⟨i,j,rfl,rfl,hz,q⟩:=h;obtain⟨t,rfl⟩:=rx;obtain⟨t',rfl⟩:=ry;exact add_str (λt' tk=>⟨.str (i++j),H,I.tok _,⟨_,rfl⟩,q⟩) hz
theorem ft{x:V}{us:List Yx}(r:aI [x] us):∃u,us=[u]/\aJ x u:=by
 cases r with
 | cons r1 r2=>cases r2;exact⟨_,rfl,r1⟩
theorem uZ{x y:V}{us:List Yx}(r:aI [x,y] us):∃u w',us=[u,w']/\aJ x u/\aJ y w':=by
 cases r with
 | cons r1 r2=>
  cases r2 with
  | cons r3 r4=>cases r4;exact⟨_,_,rfl,r1,r3⟩
theorem HQ:d8 X (.builtin "abs") (λxs H Q=>∃i,xs=[.int i]/\Q (.int (if i < 0 then -i else i)) H):=by
 intro aac s σ H xs us Q I r h;obtain⟨i,rfl,q⟩:=h;obtain⟨u,rfl,t,rfl⟩:=ft r;exact call_abs_int λu tk=>⟨.int (if i < 0 then -i else i),H,I.tok _,⟨_,rfl⟩,q⟩
theorem HR(hc:X.calm=true):d8 X (.builtin "max") (λxs H Q=>∃i j,xs=[.int i,.int j]/\Q (.int (if j > i then j else i)) H):=by
 intro aac s σ H xs us Q I r h;obtain⟨i,j,rfl,q⟩:=h;obtain⟨u,w',rfl,⟨t,rfl⟩,⟨t',rfl⟩⟩:=uZ r;refine max_two_ints (I.ok.hd hc) λh' tk k=>⟨_,H,I.kept k,?_,q⟩;by_cases hj:j > i
 ·rw [Yt hj,Yt hj];exact⟨_,rfl⟩
 ·rw [Ys hj,Ys hj];exact⟨_,rfl⟩
theorem HS(hc:X.calm=true):d8 X (.builtin "min") (λxs H Q=>∃i j,xs=[.int i,.int j]/\Q (.int (if j < i then j else i)) H):=by
 intro aac s σ H xs us Q I r h;obtain⟨i,j,rfl,q⟩:=h;obtain⟨u,w',rfl,⟨t,rfl⟩,⟨t',rfl⟩⟩:=uZ r;refine min_two_ints (I.ok.hd hc) λh' tk k=>⟨_,H,I.kept k,?_,q⟩;by_cases hj:j < i
 ·rw [Yt hj,Yt hj];exact⟨_,rfl⟩
 ·rw [Ys hj,Ys hj];exact⟨_,rfl⟩
theorem qu:d8 X (.type "int") (λxs H Q=>(∃i,xs=[.int i]/\Q (.int i) H)\/∃k,xs=[.bl k]/\Q (.int (if k then 1 else 0)) H):=by
 intro aac s σ H xs us Q I r h;rcases h with⟨i,rfl,q⟩ | ⟨k,rfl,q⟩
 ·obtain⟨u,rfl,t,rfl⟩:=ft r;exact call_int_int ⟨.int i,H,I,⟨_,rfl⟩,q⟩
 ·obtain⟨u,rfl,r1⟩:=ft r;cases r1;exact call_int_bool ⟨.int (if k then 1 else 0),H,I.tok _,⟨_,rfl⟩,q⟩
theorem HU:d8 X (.builtin "divmod") (λxs H Q=>∃i j,xs=[.int i,.int j]/\gC i j/\∀p,H p=none->Q (.ref p) (ah H p (.tup [.int (i / j),.int (i % j)]))):=by
 intro aac s σ H xs us Q I r h;obtain⟨i,j,rfl,⟨h1,h2⟩,q⟩:=h;obtain⟨u,w',rfl,⟨t,rfl⟩,⟨t',rfl⟩⟩:=uZ r;refine divmod_int Yr ?_ (.inl (WL Yr));rw [V2 i Yr,V3 i Yr];have hn:H s.heap.objs.size=none:=I.hok.fresh (QY _);refine⟨.ref s.heap.objs.size,_,?_,rfl,q _ hn⟩;refine I.laid (λb o e=>Q1 _ e) (QY _) ⟨by simp only [Q8,RR];rw [Y1];decide,[.int (i / j) s.toks,.int (i % j) (s.toks+1)],.cons ⟨_,rfl⟩ (.cons ⟨_,rfl⟩ .nil),?_⟩;exact⟨_,Rl s.heap rfl,rfl,0,rfl⟩
end
structure nS (h:YK) (x dx C:Yz) (mA:Str->Option Yx):Prop where
 obj:h.get? x=some (TU C dx)
 ns:h.Ns1 dx mA
 ne:dx≠x
theorem HV{h:YK}{dx:Yz}{mA:Str->Option Yx}(n:h.Ns1 dx mA):∃od,h.get? dx=some od/\∀name,VR name od=some (mA name):=by
 obtain⟨o,es,ep,ho,hd,hk,_,hm⟩:=n;refine⟨o,ho,λname=>?_⟩;have e:=hm name;unfold nsFind findBy at e;rw [<-Array.find?_toList] at e;unfold VR;rw [hd];dsimp only;split
 ·rename_i y q;rw [q] at e;exact congrArg some e
 ·rename_i q;rw [q] at e;have a:es.toList.any (·.refKey)=false:=by
   rw [Wc];intro y hy;obtain⟨z,t,hkey⟩:=hk y (WX.mp hy);simp [DictEntry.refKey,hkey]
  have a':¬es.toList.any (·.refKey)=true:=by rw [a];exact Q5
  rw [Ys a'];exact congrArg some e
theorem nS.look{h:YK}{x dx C:Yz}{mA:Str->Option Yx}(I:nS h x dx C mA):∃od,PySem.W.InstAt h x (TU C dx) C (some od)/\∀name,VR name od=some (mA name):=
 let ⟨od,ho,hl⟩:=HV I.ns
 ⟨od,⟨I.obj,rfl,rfl,ho⟩,hl⟩
section
variable {prog:YI} {w:YJ} {A:YN} {E:Yx->YA->Prop} {s:YA} {K:QV} {x dx C f:Yz} {mA:Str->Option Yx} {name:Str} {v:Yx}
theorem HW{expr:Bool}{Q:Yx->YA->Prop}(X:K.In s.heap)(I:nS s.heap x dx C mA)(hg:VC K C name=true)(hh:We K C=true)
 (ha:S8 K (.ref C) name=some none)(hv:mA name=some v)(hv':Xz v=true)(h:Q v {s with toks:=s.toks+1}):
 YC (YE prog w) A (getAttr (.ref x) name expr) Q E s:=by
 obtain⟨od,J,hl⟩:=I.look;exact PySem.W.get_value X J (VO hg).1 (PySem.W.findObj_own hh ha rfl (by rw [hl,hv])) hv' h
theorem HX{pl:Sem Bool}{Q:Yx×List Yx->YA->Prop}(X:K.In s.heap)(I:nS s.heap x dx C mA)(hg:VC K C name=true)
 (hf:S8 K (.ref C) name=some (some (.ref f)))(ht:VH K (.ref f)=true)(hv:mA name=none)(h:Q (.ref f,[.ref x]) s):
 YC (YE prog w) A (ZS (.ref x) name pl) Q E s:=by
 obtain⟨od,J,hl⟩:=I.look;exact PySem.W.method_fn X J (VO hg).1 (VO hg).2 hf (beq_iff_eq.mp ht) (by show(VR name od).map (·.isSome)=some false;rw [hl,hv];rfl) h
theorem HY{ns:List Str}{Q:Unit->YA->Prop}(X:K.In s.heap)(I:nS s.heap x dx C mA)
 (hs:S8 K (.ref C) "__setattr__"=some (some (.builtin "object.__setattr__")))(hp:Xn K C=true)(ht:WH K C name=some none)(hh:We K C=true)
 (hw:W9 mA ns)(hsz:ns.length<=YH)
 (h:∀h',nS h' x dx C (λy=>if y=name then some v else mA y)->Tx dx s.heap h'->Q () {s with heap:=h',toks:=s.toks+2}):
 YC (YE prog w) A (setAttr (.ref x) name v) Q E s:=by
 obtain⟨od,J,hl⟩:=I.look;refine PySem.W.set_plain X J hs (PySem.W.osa_open (s:={s with toks:=s.toks+1}) (r:=none) X J hp ht λb=>?_);obtain⟨cd,hc,hd'⟩:=PySem.W.any_some hh;have hx:s.heap.get? x=some ⟨.ref C,some dx,.plain,#[]⟩:=I.obj;refine Yy (YB (Yy (Yy (wpAny_loadPart hx (Yy (PySem.W.Looks.here (s:={s with toks:=s.toks+1}) (PySem.W.looks_clsIn X hc) ?_))))));rw [hd'];refine YB (a:=some dx) (Yy (YB (Yy ?_)));refine wpAny_nsSet1 (s:={s with toks:=s.toks+1}) I.ns λh' hn2 hs2=>?_;obtain⟨oD,esD,epD,hoD,hdD,hcD⟩:=hn2.count (W9.cons name v hw);refine Yy (wpAny_lookBehind hoD (by rw [hdD];exact pastItsLine_dict (Rx hcD (by rw [Q8];omega))) ?_);exact YB (h _ ⟨(hs2.2 _ (Ne.symm I.ne)).trans I.obj,hn2,I.ne⟩ hs2)
theorem HZ{R:Result->YA->Prop}{vs:List Yx}{kw:List (Str×Yx)}(X:K.In s.heap)(hm:WI K C=true)
 (hi:S8 K (.ref C) "__init__"=some (some (.ref f)))(hf:PySem.W.typeIn K (.ref f)=some (.type "function"))
 (h:Zq (YE prog w) (A.under (.builtin "type.__call__" ⟨.ref C::vs,kw⟩)) (.call (.ref f) ⟨.ref (s.heap.objs.size+1)::vs,kw⟩) (PySem.W.InitBack (s.heap.objs.size+1) R)
   {s with heap:=(s.heap.push Ta).push (TU C s.heap.objs.size)}):
 Zq (YE prog w) A (.call (.ref C) ⟨vs,kw⟩) R s:=by
 obtain⟨hh,g,d,t,os⟩:=s;exact PySem.W.make_core (PySem.W.makes_of X hm) (PySem.W.looks_findIn X hi) (λself=>PySem.W.bind_fn X self hf) (.inl rfl) h
end
def cY(f:Str)(v:V):List (Str×V)->List (Str×V)
 | []=>[(f,v)]
 | (g,x)::r=>if g=f then(g,v)::r else(g,x)::cY f v r
theorem Bm(f g:Str)(v:V):∀fs:List (Str×V),(cY f v fs).lookup g=if g=f then some v else fs.lookup g
 | []=>by
  show UR g [(f,v)]=_;by_cases h:g=f
  ·have hb:(g==f)=true:=beq_iff_eq.mpr h;simp only [UR,hb,Yt h]
  ·have hb:(g==f)=false:=beq_eq_false_iff_ne.mpr h;simp only [UR,hb,Ys h]
 | (k,x)::r=>by
  have ih:=Bm f g v r;rw [show cY f v ((k,x)::r)=(if k=f then(k,v)::r else(k,x)::cY f v r) from rfl];by_cases hk:k=f
  ·rw [Yt hk];by_cases h:g=k
   ·have hb:(g==k)=true:=beq_iff_eq.mpr h;simp only [UR,hb,Yt (h.trans hk)]
   ·have hb:(g==k)=false:=beq_eq_false_iff_ne.mpr h;simp only [UR,hb,Ys (λe:g=f=>h (e.trans hk.symm))]
  ·rw [Ys hk];by_cases h:g=k
   ·have hb:(g==k)=true:=beq_iff_eq.mpr h;simp only [UR,hb,Ys (λe:g=f=>hk (h.symm.trans e))]
   ·have hb:(g==k)=false:=beq_eq_false_iff_ne.mpr h;simp only [UR,hb];exact ih
theorem u5(f:Str)(v:V):∀fs:List (Str×V),f∈(cY f v fs).map (·.1)/\∀g,g∈fs.map (·.1)->g∈(cY f v fs).map (·.1)
 | []=>⟨by simp [cY],λg h=>by simp at h⟩
 | (k,x)::r=>by
  obtain⟨i1,i2⟩:=u5 f v r;rw [show cY f v ((k,x)::r)=(if k=f then(k,v)::r else(k,x)::cY f v r) from rfl];by_cases hk:k=f
  ·rw [Yt hk];subst hk;exact⟨Yv,λg h=>by simpa using h⟩
  ·rw [Ys hk];refine⟨?_,λg h=>?_⟩
   ·rw [Q0];exact Ru _ i1
   ·rw [Q0] at h⊢;rcases Q4.mp h with e | e
    ·exact Q4.mpr (.inl e)
    ·exact Ru _ (i2 g e)
theorem Bn(f:Str)(v:V):∀fs:List (Str×V),(cY f v fs).length<=fs.length+1
 | []=>by simp [cY]
 | (k,x)::r=>by
  have ih:=Bn f v r;rw [show cY f v ((k,x)::r)=(if k=f then(k,v)::r else(k,x)::cY f v r) from rfl];by_cases hk:k=f
  ·rw [Yt hk,Q8,Q8];omega
  ·rw [Ys hk,Q8,Q8];omega
theorem dN.some_of{v:V}{o:Option Yx}(r:dN (some v) o):∃u,o=some u/\aJ v u:=by
 cases o with
 | none=>exact(show False from r).elim
 | some u=>exact⟨u,rfl,r⟩
theorem dN.none_of{o:Option Yx}(r:dN none o):o=none:=by
 cases o with
 | none=>rfl
 | some u=>exact(show False from r).elim
theorem Ia{v:V}{u:Yx}(r:aJ v u):Xz u=true:=by
 cases v with
 | non=>cases (show u=SS from r);rfl
 | bl b=>cases (show u=UL b from r);rfl
 | int i=>obtain⟨t,e⟩:=(show ∃t,u=TL i t from r);cases e;rfl
 | str x=>obtain⟨t,e⟩:=(show ∃t,u=UK x t from r);cases e;rfl
 | byt b=>obtain⟨t,e⟩:=(show ∃t,u=Yb b t from r);cases e;rfl
 | flt b=>obtain⟨t,e⟩:=(show ∃t,u=Yc b t from r);cases e;rfl
 | ref a=>cases (show u=RM a from r);rfl
 | ty n=>cases (show u=UM n from r);rfl
section
variable {P:YI} {w:YJ} {H H':Hp} {h h':YK} {a C dx:Yz} {fs fs':List (Str×V)}
theorem va(hok:bK P w H h)(e:H a=some (.ins C dx fs)):∃mA,nS h a dx C mA/\(∀f,dN (fs.lookup f) (mA f))/\W9 mA (fs.map (·.1))/\fs.length<=1000/\H dx=some (.own a):=by
 obtain⟨d,z,ne,ob,mA,n,r,q⟩:=(show cj P w H h a (.ins C dx fs) from hok a _ e);exact⟨mA,⟨ob,n,ne⟩,r,q,z,d⟩
end
structure cS (K:QV) (C:Yz):Prop where
 pg:VC K C Str.empty=true
 hd:We K C=true
 po:Xn K C=true
 sa:S8 K (.ref C) "__setattr__"=some (some (.builtin "object.__setattr__"))
theorem cS.get{K:QV}{C:Yz}(c:cS K C)(f:Str):VC K C f=true:=c.pg
def NoAttr(K:QV)(C:Yz)(f:Str):Prop:=S8 K (.ref C) f=some none
theorem NoAttr.taker{K:QV}{C:Yz}{f:Str}(n:NoAttr K C f):WH K C f=some none:=by
 unfold WH;rw [show S8 K (.ref C) f=some none from n];rfl
structure hG (K:QV) (C:Yz) (m:Str) (f:Yz):Prop where
 at_:S8 K (.ref C) m=some (some (.ref f))
 fn:VH K (.ref f)=true
 kp:S9 K (.ref f)=true
section
variable {X:Cx} {aac:List (Yz×Obj)} {σ:St} {H:Hp} {s:YA} {a C dx:Yz} {fs:List (Str×V)} {f:Str} {v:V} {A:YN} {E:Yx->YA->Prop}
theorem Ib{b:Bool}{Q:Yx->YA->Prop}(I:ag X aac σ H s)(e:H a=some (.ins C dx fs))(c:cS X.K C)(n:NoAttr X.K C f)(l:fs.lookup f=some v)
 (h:∀u s',ag X aac σ H s'->aJ v u->Q u s'):YC (YE X.prog X.w) A (getAttr (.ref a) f b) Q E s:=by
 obtain⟨mA,O,r,_,_,_⟩:=va I.hok e;obtain⟨u,hu,ru⟩:=dN.some_of (v:=v) (o:=mA f) (by rw [<-l];exact r f);exact HW I.kIn O (c.get f) c.hd n hu (Ia ru) (h u _ (I.tok _) ru)
theorem rT{m:Str}{g:Yz}{pl:Sem Bool}{Q:Yx×List Yx->YA->Prop}(I:ag X aac σ H s)(e:H a=some (.ins C dx fs))(c:cS X.K C)(k:hG X.K C m g)(l:fs.lookup m=none)
 (h:Q (.ref g,[.ref a]) s):YC (YE X.prog X.w) A (ZS (.ref a) m pl) Q E s:=by
 obtain⟨mA,O,r,_,_,_⟩:=va I.hok e;have hn:mA m=none:=dN.none_of (by rw [<-l];exact r m);exact HX I.kIn O (c.get m) k.at_ k.fn hn h
theorem Ic{y:V}{u:Yx}{Q:Unit->YA->Prop}(I:ag X aac σ H s)(e:H a=some (.ins C dx fs))(c:cS X.K C)(n:NoAttr X.K C f)(hl:fs.length < 1000)(ry:aJ y u)
 (h:∀s',ag X aac σ (ah H a (.ins C dx (cY f y fs))) s'->Q () s'):YC (YE X.prog X.w) A (setAttr (.ref a) f u) Q E s:=by
 obtain⟨mA,O,r,wi,_,ho⟩:=va I.hok e;have hz:(fs.map (·.1)).length<=YH:=by rw [QW,Y1];omega
 refine HY I.kIn O c.sa c.po n.taker c.hd wi hz λh' O' sb=>h _ ?_;have hd:∃o,h'.get? dx=some o:=let ⟨o,_,_,e',_⟩:=O'.ns;⟨o,e'⟩
 refine I.write (x:=a) (e:=dx) (by rw [e];exact Tr) (.inr ho) (λb q hb z=>(sb.2 b hb).trans z) hd ?_;refine⟨by rw [az O.ne];exact ho,?_,O.ne,O'.obj,_,O'.ns,λg=>?_,λg hg=>?_⟩
 ·have:=Bn f y fs;omega
 ·show dN ((cY f y fs).lookup g) (if g=f then some u else mA g);rw [Bm];by_cases q:g=f
  ·rw [Yt q,Yt q];exact ry
  ·rw [Ys q,Ys q];exact r g
 ·by_cases q:g=f
  ·rw [q];exact(u5 f y fs).1
  ·refine(u5 f y fs).2 g (wi g λz=>hg ?_);show(if g=f then some u else mA g)=none;rw [Ys q];exact z
theorem ag.made(I:ag X aac σ H s):ag X aac σ (ah (ah H s.heap.objs.size (.own (s.heap.objs.size+1))) (s.heap.objs.size+1) (.ins C s.heap.objs.size []))
 {s with heap:=(s.heap.push Ta).push (TU C s.heap.objs.size)}:=by
 have e1:(s.heap.push Ta).get? s.heap.objs.size=some Ta:=Rl s.heap rfl;have e2:((s.heap.push Ta).push (TU C s.heap.objs.size)).get? (s.heap.objs.size+1)=some (TU C s.heap.objs.size):=by
  have:=Rl (s.heap.push Ta) (o:=TU C s.heap.objs.size) rfl
  rwa [TM] at this
 have e3:(s.heap.push Ta).Ns s.heap.objs.size (λ_=>none):=⟨Ta,#[],_,e1,rfl,(λe he=>absurd he Yv),λ_=>rfl⟩;have I1:=I.laid (a:=s.heap.objs.size) (o:= .own (s.heap.objs.size+1)) (h':=s.heap.push Ta) (t':=s.toks) (λb u q=>Q1 _ q) (QY _) ⟨_,e1⟩;refine I1.laid (a:=s.heap.objs.size+1) (o:= .ins C s.heap.objs.size []) (t':=s.toks) (λb u q=>Q1 _ q) (Xa (TM _ _)) ?_;have ne:s.heap.objs.size≠s.heap.objs.size+1:=RH (S4 _);refine⟨by rw [az ne,bq],RL _,ne,e2,λ_=>none,(Heap.Ns1.of_empty e3).at λo q=>Q1 _ q,λ_=>Tr,λy hy=>absurd rfl hy⟩
theorem Ie{prog:YI}{w:YJ}{env:Env}{e:YF}{f:Str}{pos:Pos}{s:YA}{Q:Yx->YA->Prop}(hb:Y4 e f env (eval e env)=eval e env)
 (h:YC (YE prog w) A (eval e env) (λo s₁=>YC (YE prog w) A (getAttr o f true) Q E s₁) E s):YC (YE prog w) A (eval (.Attribute e f pos) env) Q E s:=
 Attribute_any_ h (by rw [arm_eval_Attribute,hb])
end
def Ig(K:QV)(ta:TE)(f:Str):TE:=λσ H Q=>ta σ H λx H1=>∃a C dx fs v,x= .ref a/\H1 a=some (.ins C dx fs)/\cS K C/\NoAttr K C f/\fs.lookup f=some v/\Q v H1
def Ih(K:QV)(ta tv:TE)(f:Str):TS:=λD σ H=>tv σ H λy H1=>ta σ H1 λx H2=>∃a C dx fs,x= .ref a/\H2 a=some (.ins C dx fs)/\cS K C/\NoAttr K C f/\fs.length < 1000/\
 D.nx σ (ah H2 a (.ins C dx (cY f y fs)))
section
variable {X:Cx} {o e value:YF} {f:Str} {pos pos' tpos:Pos} {ta tv:TE}
theorem rV(he:PE X e ta)(hb:Y4 e f X.env (eval e X.env)=eval e X.env):PE X (.Attribute e f pos) (Ig X.K ta f):=by
 intro aac s σ H Q I h;refine Ie hb (aB (he aac s σ H _ I h) λu s1 ⟨x,H1,I1,rx,a,C,dx,fs,v,ex,ea,c,n,l,q⟩=>?_);subst ex;obtain rfl:u=RM a:=rx;exact Ib I1 ea c n l λu' s2 I2 ru=>⟨v,H1,I2,ru,q⟩
theorem vb(ha:PE X o ta)(hv:PE X value tv)(hs:YS value (some (.Attribute o f pos')) pos.line X.env=pure false):PS X (.Assign [.Attribute o f pos'] value pos) (Ih X.K ta tv f):=by
 intro aac s σ H D I h;refine plainObj_wpAny_Assign_Attribute (aB (hv aac s σ H _ I h) λu s1 ⟨y,H1,I1,ry,q⟩=>aB (ha aac s1 σ H1 _ I1 q) λov s2 ⟨x,H2,I2,rx,a,C,dx,fs,ex,ea,c,n,l,q2⟩=>?_) hs;subst ex;obtain rfl:ov=RM a:=rx;exact Ic I2 ea c n l ry λs3 I3=>⟨σ,_,I3,q2⟩
theorem QP{pl:Sem Bool}{m:Str}{apos:Pos}{args:List YF}{aac:List (Yz×Obj)}{s:YA}{σ:St}{H:Hp}{Q:Yx->YA->Prop}{te:TE}(he:PE X e te)(I:ag X aac σ H s)
 (h:te σ H λx H1=>∃a C dx fs g,x= .ref a/\H1 a=some (.ins C dx fs)/\cS X.K C/\hG X.K C m g/\fs.lookup m=none/\
   ∀s1,ag X aac σ H1 s1->YC (YE X.prog X.w) X.A (callWith pos (.ref g) [.ref a] (YR pos (YD args X.env)) (Zk pos (Y6 [] X.env))) Q X.xe s1)
 (ht:eval (.Call (.Attribute e m apos) args [] pos) X.env=(do
   let ov<-eval e X.env
   ZR apos.atName
   let (f,first)<-ZH [ov] (ZS ov m pl)
   callWith pos f first (YR pos (YD args X.env)) (Zk pos (Y6 [] X.env)))):
 YC (YE X.prog X.w) X.A (eval (.Call (.Attribute e m apos) args [] pos) X.env) Q X.xe s:=by
 refine U2 (pl:=pl) (aB (he aac s σ H _ I h) λu s1 ⟨x,H1,I1,rx,a,C,dx,fs,g,ex,ea,c,k,l,q⟩=>?_) ht;subst ex;obtain rfl:u=RM a:=rx;exact rT I1 ea c k l (q s1 I1)
end
structure bp (k:Nat) (A:YN):Prop where
 hd:A.handled=none
 dp:A.depth+3*k+5 < recursionLimit
 un:A.units+16*k+200 < Y0
theorem bp.mono{j k:Nat}{A:YN}(r:bp k A)(h:j<=k):bp j A:=⟨r.hd,by have:=r.dp;omega,by have:=r.un;omega⟩
theorem bp.deeper{k:Nat}{A:YN}(r:bp (k+1) A)(env:Env):bp k (A.deeper env):=
 ⟨r.hd,by have:=r.dp;show A.depth+1+3*k+5 < _;omega,by have:=r.un;show A.units+3+16*k+200 < _;omega⟩
theorem bp.in1{k:Nat}{A:YN}(r:bp (k+1) A):bp k A.in1:=
 ⟨r.hd,by have:=r.dp;show A.depth+3*k+5 < _;omega,by have:=r.un;show A.units+1+16*k+200 < _;omega⟩
theorem Ii{A:YN}{C:Yz}{us:List Yx}{kw:List (Str×Yx)}:(A.under (.builtin "type.__call__" ⟨.ref C::us,kw⟩)).depth=A.depth+1:=by
 first | rfl | simp [Xb,Code.weight,Code.isCreation,Code.isGuard,Code.isCaller,Ye,Xc,guardIds]
theorem Ij{A:YN}{C:Yz}{us:List Yx}{kw:List (Str×Yx)}:(A.under (.builtin "type.__call__" ⟨.ref C::us,kw⟩)).units=A.units+1:=by
 first | rfl | simp [Xb,Code.cUnits,Ye,Xc]
theorem bp.make{k:Nat}{A:YN}(r:bp (k+1) A)(C:Yz)(us:List Yx)(kw:List (Str×Yx)):bp k (A.under (.builtin "type.__call__" ⟨.ref C::us,kw⟩)):=
 ⟨r.hd,by have:=r.dp;rw [Ii];omega,by have:=r.un;rw [Ij];omega⟩
theorem bp.depth{k:Nat}{A:YN}(r:bp k A):A.depth < recursionLimit:=by have:=r.dp;omega
theorem bp.units{k:Nat}{A:YN}(r:bp k A):A.units+64 < Y0:=by have:=r.un;omega
theorem bp.units0{k:Nat}{A:YN}(r:bp k A):A.units < Y0:=by have:=r.un;omega
def oY:TA:=λ_ H Q=>Q [] H
def Bo(ta:TE)(tr:TA):TA:=λσ H Q=>ta σ H λx H1=>tr σ H1 λxs H2=>Q (x::xs) H2
section
variable {X:Cx} {e:YF} {es:List YF} {te:TE} {t:TA} {pos:Pos}
theorem b5:PA X [] oY:=λ_ _ _ _ H Q I h=>Wf ⟨[],H,I,.nil,h⟩
theorem bw(ha:PE X e te)(hr:PA X es t)(hs:YD (e::es) X.env=(false,eval e X.env)::YD es X.env:=by rfl):PA X (e::es) (Bo te t):=by
 intro pos aac s σ H Q I h;rw [hs];show YC _ _ (spliced ((false,eval e X.env)::YR pos (YD es X.env))) _ _ s;refine Vi (aB (ha aac s σ H _ I h) λu s1 ⟨x,H1,I1,r1,q1⟩=>?_);exact aB (hr pos aac s1 σ H1 _ I1 q1) λus s2 uu40=>by obtain⟨xs,H2,I2,r2,q2⟩:=uu40;exact⟨x::xs,H2,I2,.cons r1 r2,q2⟩
def Bp(t:TA):TE:=λσ H Q=>t σ H λxs H1=>xs.length<=YH/\∀p,H1 p=none->Q (.ref p) (ah H1 p (.tup xs))
def Bq(t:TA):TE:=λσ H Q=>t σ H λxs H1=>xs.length<=YH/\∀p,H1 p=none->Q (.ref p) (ah H1 p (.lst xs))
theorem Br{x1}(h:PA X es t):PE X (.Tuple es x1 pos) (Bp t):=by
 intro aac s σ H Q I hq;refine wpAny_Tuple_spliced (aB (h pos aac s σ H _ I hq) λus s1 ⟨xs,H1,I1,r,z,q⟩=>⟨by rw [<-r.length];exact z,?_⟩);have hf:H1 s1.heap.objs.size=none:=I1.hok.fresh (QY _);refine⟨.ref s1.heap.objs.size,ah H1 s1.heap.objs.size (.tup xs),I1.laid (t':=s1.toks) (λb u e=>Q1 _ e) (QY _) ?_,rfl,q _ hf⟩;exact⟨z,us,r,⟨_,Rl _ rfl,rfl,_,rfl⟩⟩
theorem Ik(h:PA X es t):PE X (.List es pos) (Bq t):=by
 intro aac s σ H Q I hq;refine wpAny_List_spliced (aB (h pos aac s σ H _ I hq) λus s1 ⟨xs,H1,I1,r,z,q⟩=>⟨by rw [<-r.length];exact z,?_⟩);have hf:H1 s1.heap.objs.size=none:=I1.hok.fresh (QY _);refine⟨.ref s1.heap.objs.size,ah H1 s1.heap.objs.size (.lst xs),I1.laid (t':=s1.toks) (λb u e=>Q1 _ e) (QY _) ?_,rfl,q _ hf⟩;exact⟨z,us,0,r,Rl _ rfl⟩
end
abbrev Sp:=List V->Hp->VK->XK->Prop
abbrev fc:=List Env->Hp->YA->XK->Yx->YA->Prop
structure jb (P:YI) (w:YJ) (K:QV) (mg:Str->Option Yx) (base:YK) (A:YN) (outer:List Env) (s:YA) (H:Hp):Prop where
 frames:A.frames=some outer
 mod:Mod K mg base
 bs:∀b o,base.get? b=some o->s.heap.get? b=some o/\H b=none
 bsz:base.objs.size<=s.heap.objs.size
 funs:s.heap.FunFrames base outer
 frf:∀b∈gr outer,H b=none
 hok:bK P w H s.heap
 bare:ZQ s.gens
def CE(outer:List Env)(P:YI)(w:YJ)(H:Hp)(s:YA)(Q:VK)(u:Yx)(s':YA):Prop:=
 ∃v H',s'.os=s.os/\ZQ s'.gens/\Un (gr outer) [] H H' s.heap s'.heap/\bK P w H' s'.heap/\aJ v u/\Q v H'
def CR(CX:fc)(outer:List Env)(P:YI)(w:YJ)(H:Hp)(s:YA)(Q:VK)(E:XK)(r:Result)(s':YA):Prop:=
 match r with
 | .ok (.ret u)=>CE outer P w H s Q u s'
 | .ok _=>False
 | .error e=>CX outer H s E e s'
structure aA (P:YI) (w:YJ) (K:QV) (mg:Str->Option Yx) (base:YK) (CX:fc) (k:Nat) (f:Yz) (fd:YG) (ps:List Str) (sp:Sp):Prop where
 len:∀vs H Q E,sp vs H Q E->vs.length=ps.length
 run:∀(A:YN)(outer:List Env)(s:YA)(H:Hp)(args:Args)(us:List Yx)(vs:List V)(Q:VK)(E:XK),bp k A->jb P w K mg base A outer s H->BindsTo s fd args (ps.zip us)->aI vs us->sp vs H Q E->
  Zq (YE P w) A (.call (.ref f) args) (CR CX outer P w H s Q E) s
theorem aA.imp{P:YI}{w:YJ}{K:QV}{mg:Str->Option Yx}{base:YK}{CX:fc}{k:Nat}{f:Yz}{fd:YG}{ps:List Str}{sp sp':Sp}(F:aA P w K mg base CX k f fd ps sp)
 (h:∀vs H Q E,sp' vs H Q E->sp vs H Q E):aA P w K mg base CX k f fd ps sp':=
 ⟨λvs H Q E q=>F.len vs H Q E (h _ _ _ _ q),λA outer s H args us vs Q E hr he hb hv hs=>F.run A outer s H args us vs Q E hr he hb hv (h _ _ _ _ hs)⟩
theorem jb.make{P:YI}{w:YJ}{K:QV}{mg:Str->Option Yx}{base:YK}{A:YN}{outer:List Env}{s:YA}{H:Hp}(e:jb P w K mg base A outer s H)(C:Yz)(us:List Yx)(kw:List (Str×Yx)):
 jb P w K mg base (A.under (.builtin "type.__call__" ⟨.ref C::us,kw⟩)) outer s H:=⟨by first | exact e.frames | (simpa [Xb,Code.envs,Xc,pushEnvs] using e.frames),e.mod,e.bs,e.bsz,e.funs,e.frf,e.hok,e.bare⟩
theorem jb.in1{P:YI}{w:YJ}{K:QV}{mg:Str->Option Yx}{base:YK}{A:YN}{outer:List Env}{s:YA}{H:Hp}(e:jb P w K mg base A outer s H):
 jb P w K mg base A.in1 outer s H:=⟨e.frames,e.mod,e.bs,e.bsz,e.funs,e.frf,e.hok,e.bare⟩
section
variable {X:Cx} {aac:List (Yz×Obj)} {σ:St} {H:Hp} {s s':YA}
theorem ag.env0(I:ag X aac σ H s):jb X.prog X.w X.K X.mg X.base X.A X.stack s H:=
 ⟨I.ok.frames,I.ok.mod,I.bs,Rx I.ok.bsz I.sz,I.stack,I.stkFree,I.hok,I.bare⟩
theorem ag.after{Q:VK}{u:Yx}(I:ag X aac σ H s)(h:CE X.stack X.prog X.w H s Q u s'):EP X aac σ Q u s':=by
 obtain⟨v,H',os,bare,un,hok,r,q⟩:=h;obtain⟨hh,g,d,t,os'⟩:=s';obtain rfl:os'=s.os:=os;exact⟨v,H',I.call (h':=hh) (g':=g) (d':=d) (t':=t) (ch:=[]) un hok bare (λb z=>absurd z Yv),r,q⟩
end
def oZ(sp:Sp)(dvs:List V)(E:XK)(t:TA):TE:=λσ H Q=>t σ H λvs H1=>sp (vs++dvs) H1 Q E
def qv(C:Yz)(m:Str)(sp:Sp)(dvs:List V)(E:XK)(ta:TE)(t:TA):TE:=λσ H Q=>ta σ H λx H1=>∃a dx fs,x= .ref a/\H1 a=some (.ins C dx fs)/\fs.lookup m=none/\
 t σ H1 λvs H2=>sp (x::(vs++dvs)) H2 Q E
def Bs(C:Yz)(sp:Sp)(dvs:List V)(E:XK)(t:TA):TE:=λσ H Q=>t σ H λvs H1=>∀x dx,H1 x=none->H1 dx=none->dx≠x->
 sp (.ref x::(vs++dvs)) (ah (ah H1 dx (.own x)) x (.ins C dx [])) (λv H2=>v= .non/\Q (.ref x) H2) E
def cT(K:QV)(fd:YG)(ps:List Str)(ds:List Yx):Prop:=
 ∀(s:YA)(us:List Yx),K.In s.heap->(us++ds).length=ps.length->BindsTo s fd ⟨us,[]⟩ (ps.zip (us++ds))
theorem cT.all{K:QV}{fd:YG}{ps:List Str}(h:∀us:List Yx,us.length=ps.length->bindArgs fd ⟨us,[]⟩=pure (ps.zip us)):cT K fd ps []:=λs us _ hl=>by
 rw [RN] at hl⊢;exact .of_eq (h us hl)
def hJ(CX:fc)(X:Cx)(E:XK):Prop:=∀(aac:List (Yz×Obj))(σ:St)(H:Hp)(s:YA)(e:Yx)(s':YA),ag X aac σ H s->CX X.stack H s E e s'->X.xe e s'
section
variable {X:Cx} {CX:fc} {k:Nat} {f C:Yz} {fd:YG} {ps:List Str} {sp:Sp} {dvs:List V} {ds:List Yx} {E:XK} {x m:Str} {p pos apos:Pos} {e o:YF} {es:List YF} {ta:TE} {t:TA}
theorem qw{aac:List (Yz×Obj)}{σ:St}{H:Hp}{s:YA}{Q:VK}{us:List Yx}{vs:List V}(F:aA X.prog X.w X.K X.mg X.base CX k f fd ps sp)(hr:bp k X.A)(hb:cT X.K fd ps ds)(hd:aI dvs ds)(hx:hJ CX X E)
 (I:ag X aac σ H s)(r:aI vs us)(h:sp (vs++dvs) H Q E):YC (YE X.prog X.w) X.A (call (.ref f) us) (EP X aac σ Q) X.xe s:=by
 have r2:aI (vs++dvs) (us++ds):=r.append hd;have hl:(us++ds).length=ps.length:=by rw [<-r2.length];exact F.len _ _ _ _ h
 refine wpAny_call (Zn (F.run X.A X.stack s H ⟨us,[]⟩ (us++ds) (vs++dvs) Q E hr I.env0 (hb s us I.kIn hl) r2 h) λr s' hq=>?_);cases r with
 | error e=>exact hx aac σ H s e s' I hq
 | ok fl=>
  cases fl with
  | ret u=>exact I.after hq
  | next=>exact S0 hq
  | brk=>exact S0 hq
  | cont=>exact S0 hq
theorem Bt(F:aA X.prog X.w X.K X.mg X.base CX k f fd ps sp)(hr:bp k X.A)(hg:Gl X x)(hm:X.mg x=some (.ref f))(hk:S9 X.K (.ref f)=true)(hb:cT X.K fd ps ds)(hd:aI dvs ds)(hx:hJ CX X E)
 (ha:PA X (e::es) t)(hdb:(x==("__debug__":Str))=false:=by decide)(he:YD (e::es) X.env=(false,eval e X.env)::YD es X.env:=by rfl)(hpl:(YR pos (YD es X.env)).any (·.1)=false:=by rfl):
 PE X (.Call (.Name x p) (e::es) [] pos) (oZ sp dvs E t):=by
 intro aac s σ H Q I h;refine Zg (qg I hg hm ?_ hdb);refine Vj (h₀:=X.base) I.ok.mod.kin hk (aB (ha pos aac s σ H _ I h) λus s1 ⟨vs,H1,I1,r,q⟩=>⟨I1.kIn,?_⟩) he hpl;exact qw F hr hb hd hx I1 r q
theorem Il(F:aA X.prog X.w X.K X.mg X.base CX k f fd ps sp)(hr:bp k X.A)(hg:Gl X x)(hm:X.mg x=some (.ref f))(hk:S9 X.K (.ref f)=true)(hb:cT X.K fd ps ds)(hd:aI dvs ds)(hx:hJ CX X E)
 (hdb:(x==("__debug__":Str))=false:=by decide):PE X (.Call (.Name x p) [] [] pos) (oZ sp dvs E oY):=by
 intro aac s σ H Q I h;refine Zg (qg I hg hm ?_ hdb);exact W3 I.kIn hk (qw (us:=[]) F hr hb hd hx I .nil h)
theorem Bu{pl:Sem Bool}(he:PE X o ta)(c:cS X.K C)(hm:hG X.K C m f)(F:aA X.prog X.w X.K X.mg X.base CX k f fd ps sp)(hr:bp k X.A)(hb:cT X.K fd ps ds)(hd:aI dvs ds)(hx:hJ CX X E)(ha:PA X (e::es) t)
 (hst:YD (e::es) X.env=(false,eval e X.env)::YD es X.env:=by rfl)(hpl:(YR pos (YD es X.env)).any (·.1)=false:=by rfl)
 (ht:eval (.Call (.Attribute o m apos) (e::es) [] pos) X.env=(do
   let ov<-eval o X.env
   ZR apos.atName
   let (f,first)<-ZH [ov] (ZS ov m pl)
   callWith pos f first (YR pos (YD (e::es) X.env)) (Zk pos (Y6 [] X.env))):=by rfl):
 PE X (.Call (.Attribute o m apos) (e::es) [] pos) (qv C m sp dvs E ta t):=by
 intro aac s σ H Q I h;refine U2 (pl:=pl) (aB (he aac s σ H _ I h) λu s1 ⟨x,H1,I1,rx,a,dx,fs,ex,ea,l,q⟩=>?_) ht;subst ex;obtain rfl:u=RM a:=rx;refine rT I1 ea c hm l ?_;refine Vj (first:=[.ref a]) (h₀:=X.base) I.ok.mod.kin hm.kp (aB (ha pos aac s1 σ H1 _ I1 q) λus s2 ⟨vs,H2,I2,r,q2⟩=>⟨I2.kIn,?_⟩) hst hpl;exact qw (us:= .ref a::us) (vs:= .ref a::vs) F hr hb hd hx I2 (.cons rfl r) q2
theorem rW{pl:Sem Bool}(he:PE X o ta)(c:cS X.K C)(hm:hG X.K C m f)(F:aA X.prog X.w X.K X.mg X.base CX k f fd ps sp)(hr:bp k X.A)(hb:cT X.K fd ps ds)(hd:aI dvs ds)(hx:hJ CX X E)
 (ht:eval (.Call (.Attribute o m apos) [] [] pos) X.env=(do
   let ov<-eval o X.env
   ZR apos.atName
   let (f,first)<-ZH [ov] (ZS ov m pl)
   callWith pos f first (YR pos (YD [] X.env)) (Zk pos (Y6 [] X.env))):=by rfl):
 PE X (.Call (.Attribute o m apos) [] [] pos) (qv C m sp dvs E ta oY):=by
 intro aac s σ H Q I h;refine U2 (pl:=pl) (aB (he aac s σ H _ I h) λu s1 ⟨x,H1,I1,rx,a,dx,fs,ex,ea,l,q⟩=>?_) ht;subst ex;obtain rfl:u=RM a:=rx;refine rT I1 ea c hm l ?_;exact W3 (first:=[.ref a]) I1.kIn hm.kp (qw (us:=[.ref a]) (vs:=[.ref a]) F hr hb hd hx I1 (.cons rfl .nil) q)
structure Mk (K:QV) (C f:Yz):Prop where
 makes:WI K C=true
 init:S8 K (.ref C) "__init__"=some (some (.ref f))
 fn:VH K (.ref f)=true
 kp:S9 K (.ref C)=true
theorem Im{aac:List (Yz×Obj)}{σ:St}{H:Hp}{s:YA}{Q:VK}{us:List Yx}{vs:List V}(M:Mk X.K C f)(F:aA X.prog X.w X.K X.mg X.base CX k f fd ps sp)(hr:bp (k+1) X.A)(hb:cT X.K fd ps ds)(hd:aI dvs ds)
 (hx:hJ CX X E)(I:ag X aac σ H s)(r:aI vs us)
 (h:∀x dx,H x=none->H dx=none->dx≠x->sp (.ref x::(vs++dvs)) (ah (ah H dx (.own x)) x (.ins C dx [])) (λv H2=>v= .non/\Q (.ref x) H2) E):
 YC (YE X.prog X.w) X.A (call (.ref C) us) (EP X aac σ Q) X.xe s:=by
 have hq:=h (s.heap.objs.size+1) s.heap.objs.size (I.hok.fresh (Sr _)) (I.hok.fresh (QY _)) (RH (S4 _));have I2:=ag.made (C:=C) I;have r2:aI (V.ref (s.heap.objs.size+1)::(vs++dvs)) (RM (s.heap.objs.size+1)::(us++ds)):= .cons rfl (r.append hd);have hl:(RM (s.heap.objs.size+1)::us++ds).length=ps.length:=by
  have e:=r2.length;rw [F.len _ _ _ _ hq] at e;exact e.symm
 refine wpAny_call (HZ (f:=f) I.kIn M.makes M.init (beq_iff_eq.mp M.fn) (Zn (F.run _ X.stack _ _ ⟨RM (s.heap.objs.size+1)::us,[]⟩ (RM (s.heap.objs.size+1)::(us++ds)) _ _ E (hr.make C us [])
  (I2.env0.make C us []) (hb _ (RM (s.heap.objs.size+1)::us) I2.kIn hl) r2 hq) λr s' hq'=>?_))
 cases r with
 | error e=>exact hx aac σ _ _ e s' I2 hq'
 | ok fl=>
  cases fl with
  | ret u=>
   obtain⟨v,H',I3,rv,ev,q3⟩:=I2.after hq';subst ev;exact⟨rv,⟨V.ref (s.heap.objs.size+1),H',I3,rfl,q3⟩⟩
  | next=>exact S0 hq'
  | brk=>exact S0 hq'
  | cont=>exact S0 hq'
theorem rX(M:Mk X.K C f)(F:aA X.prog X.w X.K X.mg X.base CX k f fd ps sp)(hr:bp (k+1) X.A)(hg:Gl X x)(hm:X.mg x=some (.ref C))(hb:cT X.K fd ps ds)(hd:aI dvs ds)(hx:hJ CX X E)
 (ha:PA X (e::es) t)(hdb:(x==("__debug__":Str))=false:=by decide)(he:YD (e::es) X.env=(false,eval e X.env)::YD es X.env:=by rfl)(hpl:(YR pos (YD es X.env)).any (·.1)=false:=by rfl):
 PE X (.Call (.Name x p) (e::es) [] pos) (Bs C sp dvs E t):=by
 intro aac s σ H Q I h;refine Zg (qg I hg hm ?_ hdb);refine Vj (h₀:=X.base) I.ok.mod.kin M.kp (aB (ha pos aac s σ H _ I h) λus s1 ⟨vs,H1,I1,r,q⟩=>⟨I1.kIn,?_⟩) he hpl;exact Im M F hr hb hd hx I1 r q
end
section
variable {X:Cx} {CX:fc} {k:Nat} {f C:Yz} {fd:YG} {ps ks:List Str} {sp:Sp} {E:XK} {x m:Str} {p pos apos kpos:Pos} {e o:YF} {es:List YF} {kws:List Zj} {te ta:TE} {t tk:TA} {nm:Option Str}
variable {g:List Yx->List Yx->List Yx} {gV:List V->List V->List V}
end
structure aO (N P:List Str) (sc:Za):Prop where
 kind:sc.kind= .function
 co:sc.isCoroutine=false
 gen:sc.isGenerator=false
 nd:N.Nodup
 pre:N.take P.length=P
 par:∀x∈P,sc.names.lookup x=some .local\/sc.names.lookup x=some .cell
 nofree:∀y∈sc.names,y.2≠ .free
theorem Bv{kindOf:Str->Option Y9}{x:Str}:∀{binds:List (Str×Yx)}{m:Str->Option Yx},(∀v,(x,v)∉ binds)->bindL kindOf binds m x=m x
 | [],_,_=>rfl
 | (n,v)::r,m,h=>by
  unfold bindL;rw [Bv λw hw=>h w (Ru _ hw)];split
  ·have:x≠n:=by rintro rfl;exact h v RK
   simp [this]
  ·rfl
theorem Bw{kindOf:Str->Option Y9}{x:Str}:∀{binds:List (Str×Yx)}{m:Str->Option Yx},(∀v,(x,v)∉ binds)->bindC kindOf binds m x=m x
 | [],_,_=>rfl
 | (n,v)::r,m,h=>by
  unfold bindC;rw [Bw λw hw=>h w (Ru _ hw)];split
  ·rfl
  ·have:x≠n:=by rintro rfl;exact h v RK
   simp [this]
theorem Bx{kindOf:Str->Option Y9}{x:Str}{v:Yx}:∀{P:List Str}{vs:List Yx}{i:Nat}{m:Str->Option Yx},P.Nodup->P[i]?=some x->vs[i]?=some v->kindOf x=some .local->
 bindL kindOf (P.zip vs) m x=some v
 | [],_,_,_,_,h,_,_=>by simp at h
 | _::_,[],_,_,_,_,h,_=>by simp at h
 | p::P,w::vs,0,m,nd,h1,h2,hk=>by
  simp at h1 h2;subst h1;subst h2;show bindL kindOf ((p,w)::P.zip vs) m p=_;unfold bindL;rw [Bv λv hv=>(Sz.mp nd).1 (WJ hv).1,Yt hk];simp
 | p::P,w::vs,i+1,m,nd,h1,h2,hk=>by
  show bindL kindOf ((p,w)::P.zip vs) m x=_;unfold bindL;exact Bx (i:=i) (Sz.mp nd).2 (by simpa using h1) (by simpa using h2) hk
theorem By{kindOf:Str->Option Y9}{x:Str}{v:Yx}:∀{P:List Str}{vs:List Yx}{i:Nat}{m:Str->Option Yx},P.Nodup->P[i]?=some x->vs[i]?=some v->kindOf x≠some .local->
 bindC kindOf (P.zip vs) m x=some v
 | [],_,_,_,_,h,_,_=>by simp at h
 | _::_,[],_,_,_,_,h,_=>by simp at h
 | p::P,w::vs,0,m,nd,h1,h2,hk=>by
  simp at h1 h2;subst h1;subst h2;show bindC kindOf ((p,w)::P.zip vs) m p=_;unfold bindC;rw [Bw λv hv=>(Sz.mp nd).1 (WJ hv).1,Ys hk];simp
 | p::P,w::vs,i+1,m,nd,h1,h2,hk=>by
  show bindC kindOf ((p,w)::P.zip vs) m x=_;unfold bindC;exact By (i:=i) (Sz.mp nd).2 (by simpa using h1) (by simpa using h2) hk
def start(N:List Str)(vs:List V):St:=vs.map some++Ri (N.length - vs.length) none
def iB(CX:fc)(P:YI)(w:YJ)(K:QV)(mg:Str->Option Yx)(base:YK)(N:List Str)(qual:Str)(scope:Za)(f:Yz)(cd:Yx)(A:YN)(outer:List Env)(s:YA)(H:Hp)(E:XK):Cx where
 prog:=P
 w:=w
 K:=K
 mg:=mg
 base:=base
 A:=A.deeper (Zx qual scope s.heap.objs.size f cd)
 N:=N
 s₀:=s
 H₀:=H
 env:=Zx qual scope s.heap.objs.size f cd
 outer:=outer
 stack:=Zx qual scope s.heap.objs.size f cd::outer
 ex:=[]
 calm:=true
 fn:=λ_=>true
 pn:=[]
 xe:=λe s'=>YC (YE P w) (A.deeper (Zx qual scope s.heap.objs.size f cd)) (leaving (Zx qual scope s.heap.objs.size f cd) e) (λ_ s''=>CX outer H s E e s'') (λe' s''=>CX outer H s E e' s'') s'
theorem Bz{sc:Za}{n:Nat}{x:Str}(h:sc.names.lookup x=some .cell):∃c,(Y5 n sc.names []).lookup x=some c:=by
 have q:=Vw sc.names n [] (.inl h);exact UB.mp q
theorem Io{CX:fc}{P:YI}{w:YJ}{K:QV}{mg:Str->Option Yx}{base:YK}{N ps:List Str}{qual:Str}{scope:Za}{f:Yz}{cd:Yx}{A:YN}{outer:List Env}{s s1:YA}{H:Hp}{E:XK}{us:List Yx}{vs:List V}
 (S:aO N ps scope)(hd:A.handled=none)(e0:jb P w K mg base A outer s H)(hl:vs.length=ps.length)(r:aI vs us)
 (x:InCallC s s.heap.objs.size (bindL (Zx qual scope s.heap.objs.size f cd).kindOf (ps.zip us) λ_=>none) (Y5 (s.heap.objs.size+1) scope.names []) (bindC (Zx qual scope s.heap.objs.size f cd).kindOf (ps.zip us) λ_=>none) s1):
 ag (iB CX P w K mg base N qual scope f cd A outer s H E) [] (start N vs) H s1:=by
 have hpl:ps.length<=N.length:=by have:=congrArg VU S.pre;rw [RI] at this;omega
 obtain⟨h1,tk,rfl,hk⟩:=x.done;have noA:∀b:Yz,b ∉ (iB CX P w K mg base N qual scope f cd A outer s H E).ex:=λb z=>absurd (show b∈([]:List Yz) from z) Yv;refine⟨⟨e0.mod,S.kind,rfl,rfl,QY _,λy z c h1 h2=>?_,λy hy=>?_,λy c _ h=>?_,λ_=>hd,Around.frames_deeper e0.frames,.inr ⟨rfl,rfl⟩,λb z=>absurd z (noA b),e0.bs,e0.bsz,λb _ _=>noA b,λb z=>absurd z (noA b),e0.funs,e0.frf⟩,
  rfl,e0.bare,Un.kept hk,⟨_,x.toInCall.ns,λi y v h1 h2 h3=>?_⟩,λy c h=>⟨_,x.cell y c h⟩,e0.hok.fresh (QY _),λy c h=>?_,λp hp=>absurd (show p∈([]:List (Yz×Obj)) from hp) Yv,e0.hok.kept hk,?_⟩
 ·exact name_of_addr x.apart (Tw h1) (Tw h2)
 ·have hy:scope.names.lookup y=some .cell\/scope.names.lookup y=some .free:=hy;rcases hy with hy | hy
  ·exact Bz hy
  ·exact absurd rfl (S.nofree _ (Tw hy))
 ·exact TV (x.above y c (Tw h))
 ·have hi:i < vs.length:=by
   unfold start at h2;by_cases hi:i < vs.length
   ·exact hi
   ·rw [Ss (by simpa using hi)] at h2;rw [T9] at h2;split at h2 <;> cases h2
  have ha:vs[i]?=some v:=by
   unfold start at h2;rw [R4 (by simpa using hi),Q9] at h2;cases e:vs[i]? with
   | none=>rw [e] at h2;cases h2
   | some a=>rw [e] at h2;cases h2;rfl
  obtain⟨u,hu,rv⟩:=r.get ha;have hp:ps[i]?=some y:=by
   rw [<-S.pre,List.getElem?_take_of_lt Yr];exact h1
  have ndP:ps.Nodup:=by rw [<-S.pre];exact S.nd.sublist (List.take_sublist _ _)
  refine⟨u,rv,?_⟩;rcases S.par y (RA hp) with k | k
  ·exact .inl ⟨k,Bx ndP hp hu k⟩
  ·obtain⟨c,e⟩:=Bz (n:=s.heap.objs.size+1) k;refine .inr ⟨.inl k,c,e,?_⟩;have q:=x.cell y c e;rw [By ndP hp hu (by show scope.names.lookup y≠_;rw [k];decide)] at q;exact q
 ·exact e0.hok.fresh (TV (x.above y c (Tw h)))
 ·unfold start;show _=N.length;rw [Ra,QW,VE];omega
theorem Ip{CX:fc}{P:YI}{w:YJ}{K:QV}{mg:Str->Option Yx}{base:YK}{k:Nat}{f:Yz}{name qual:Str}{params:Arguments}{body:List YL}{scope:Za}{dV kV doc pm cdv ct oc:Yx}{an od:Option Yz}
 {osl:Array (Option Yx)}{N ps:List Str}{sp:Sp}(lk:K.lookup f=some ⟨oc,od,.func (Te name qual params body scope dV kV doc pm an cdv ct),osl⟩)(hcd:Vr K cdv qual=true)(S:aO N ps scope)
 (len:∀vs H Q E,sp vs H Q E->vs.length=ps.length)
 (hbody:∀(A:YN) (outer:List Env) (s:YA) (H:Hp) (vs:List V) (Q:VK) (E:XK),bp k (A.deeper (Zx qual scope s.heap.objs.size f cdv))->sp vs H Q E->
   ∃t,bP (iB CX P w K mg base N qual scope f cdv A outer s H E) body t/\t {nx:=λ_ H'=>Q .non H',rt:=Q} (start N vs) H):
 aA P w K mg base CX (k+1) f (Te name qual params body scope dV kV doc pm an cdv ct) ps sp:=by
 refine⟨len,λA outer s H args us vs Q E hr e0 hb r hsp=>?_⟩;have hl:=len _ _ _ _ hsp;have KX:K.In s.heap:=e0.mod.kin.keeps λb o e=>(e0.bs b o e).1;have lim:s.heap.NoLimit:=e0.mod.nolimit.keeps λb o e=>(e0.bs b o e).1;have hkind:∀y∈ps.zip us,scope.names.lookup y.1=some .local\/(scope.names.lookup y.1=some .cell/\((Y5 (s.heap.objs.size+1) scope.names []).lookup y.1).isSome=true):=λuu48 hy=>by
  obtain⟨n,v⟩:=uu48;rcases S.par n (WJ hy).1 with q | q
  ·exact .inl q
  ·exact .inr ⟨q,Vw _ _ _ (.inl q)⟩
 refine codeAny_call_function hr.depth (KX _ _ lk) rfl S.co S.gen rfl (PySem.W.codeRec_of KX hcd) (hb _ _ _ _ ?_);refine wpAny_newFunctionEnv_cells S.kind hkind λenv he s1 x=>?_;subst he;refine⟨lim.keeps x.toInCall.keep,codeAny_func ?_⟩;obtain⟨t,ht,hq⟩:=hbody A outer s H vs Q E (hr.deeper _) hsp;have I:ag (iB CX P w K mg base N qual scope f cdv A outer s H E) [] (start N vs) H s1:=Io S hr.hd e0 hl r x;refine YY (ht [] s1 (start N vs) H _ I hq) (λfl s' hs=>?_) λe s' hs=>hs;have fin:∀{σ':St}{H':Hp}{v:V}{u:Yx},ag (iB CX P w K mg base N qual scope f cdv A outer s H E) [] σ' H' s'->aJ v u->Q v H'->CE outer P w H s Q u s':=
  λ{σ' H' v u} J rv q=>⟨v,H',J.os,J.bare,J.base,J.hok,rv,q⟩
 cases fl with
 | ret u=>
  obtain⟨v,σ',H',J,rv,q⟩:=hs;exact fin J rv q
 | next=>
  obtain⟨σ',H',J,q⟩:=hs;exact fin (v:=V.non) (u:=SS) J rfl q
 | brk=>
  obtain⟨_,_,_,q⟩:=hs;exact S0 q
 | cont=>
  obtain⟨_,_,_,q⟩:=hs;exact S0 q
section
variable {X:Cx} {x:Str} {p pos:Pos} {e:YF} {es:List YF} {t:TA} {id T:String} {r:List V->Hp->VK->Prop}
def rY(r:List V->Hp->VK->Prop)(t:TA):TE:=λσ H Q=>t σ H λvs H1=>r vs H1 Q
theorem bU(hc:d8 X (.builtin id) r)(hg:Gl X x)(hm:X.mg x=none)(hv:YX x=some (.builtin id))(ha:PA X (e::es) t)(hn:x≠"__name__":=by decide)(hdb:(x==("__debug__":Str))=false:=by decide)
 (he:YD (e::es) X.env=(false,eval e X.env)::YD es X.env:=by rfl)(hpl:(YR pos (YD es X.env)).any (·.1)=false:=by rfl):PE X (.Call (.Name x p) (e::es) [] pos) (rY r t):=by
 intro aac s σ H Q I h;refine Zg (nP I hg hm hv ?_ hn hdb);exact PyProof.Rows.callWith_builtin1 (aB (ha pos aac s σ H _ I h) λus s1 uu49=>by obtain⟨vs,H1,I1,r1,q1⟩:=uu49;exact hc aac s1 σ H1 vs us Q I1 r1 q1) he hpl
theorem cU(hc:d8 X (.type T) r)(hg:Gl X x)(hm:X.mg x=none)(hv:YX x=some (.type T))(ha:PA X (e::es) t)(hn:x≠"__name__":=by decide)(hdb:(x==("__debug__":Str))=false:=by decide)
 (he:YD (e::es) X.env=(false,eval e X.env)::YD es X.env:=by rfl)(hpl:(YR pos (YD es X.env)).any (·.1)=false:=by rfl):PE X (.Call (.Name x p) (e::es) [] pos) (rY r t):=by
 intro aac s σ H Q I h;refine Zg (nP I hg hm hv ?_ hn hdb);exact Tt (aB (ha pos aac s σ H _ I h) λus s1 uu50=>by obtain⟨vs,H1,I1,r1,q1⟩:=uu50;exact hc aac s1 σ H1 vs us Q I1 r1 q1) he hpl
end
end L2
namespace HT
open PySem PyProof.Rows
theorem eqAt_int(A:YN)(s:YA)(a:Int)(t:Tok)(c:Int)(u:Tok):∃e,Yk A s (.int a t) (.int c u) e/\(e=true↔a=c):=
 ⟨(a==c),Yk.int_int a t c u,Yv⟩
theorem rcLt_int(A:YN)(s:YA)(a:Int)(t:Tok)(c:Int)(u:Tok)(prog:YI)(w:YJ)(E:Yx->YA->Prop)(Q:Yx->YA->Prop)(h:Q (.bool (decide (a < c))) s):
 YC (YE prog w) A (richCompare .Lt (.int a t) (.int c u)) Q E s:=
 (PyProof.Rows.lt_int h:YC (YE prog w) A (YU .Lt (.int a t) (.int c u)) Q E s)
section
open PySem.SeqAt
open PySem.AutoSeq1 (wpAny_loadPart')
open PySem.MeetsSeq PySem.MeetsSeq2 PySem.MeetsSeq3
end
section
variable {prog:YI} {w:YJ} {A:YN} {E:Yx->YA->Prop} {s:YA}
theorem cat_tup{t b:Yz}{vs ws:List Yx}{Q:Yx->YA->Prop}(ht:IsTup s.heap t vs.toArray)(hb:IsTup s.heap b ws.toArray)(hv:vs≠[])
 (h1:ws=[]->Q (.ref t) s)(h2:ws≠[]->Q (.ref s.heap.objs.size) {s with heap:=s.heap.push {cls:= .type "tuple",data:= .seq (vs++ws).toArray}})
 (hsz:vs.length+ws.length<=YH):YC (YE prog w) A (Y8 .Add (.ref t) (.ref b)) Q E s:=by
 obtain⟨⟨cls,dd,data,sl⟩,ho,hc,n,hd⟩:=id ht;obtain⟨⟨cls2,dd2,data2,sl2⟩,ho2,hc2,n2,hd2⟩:=id hb;simp only at hc hd hc2 hd2;subst hc hd hc2 hd2;have e:vs.toArray++ws.toArray=(vs++ws).toArray:=Yv
 by_cases hw:ws=[]
 ·exact concat_meets ⟨_,ho,rfl⟩ ⟨_,ho2,rfl⟩ Z8 seq_tuple_add Vx Vs (Vk _ _)
   (tuple_addW1 t b vs.toArray ws.toArray n n2 dd dd2 sl sl2 (by simpa using hv) (by simp [hw])) ⟨ho,ho2,h1 hw⟩
 ·refine concat_meets ⟨_,ho,rfl⟩ ⟨_,ho2,rfl⟩ Z8 seq_tuple_add Vx Vs (Vk _ _)
   (tuple_addW2 t b vs.toArray ws.toArray n n2 dd dd2 sl sl2 (by simpa using hv) (by simpa using hw) (by rw [Rc,Rc];exact hsz)) ⟨ho,ho2,?_⟩
  rw [e];exact h2 hw
def sIx(n d:Nat):Option Int->Nat
 | none=>d
 | some v=>if v < 0 then(v+(n:Int)).toNat else min v.toNat n
theorem rZ(n d:Nat):sIx n d none=d:=rfl
theorem sIx_nat(n d k:Nat):sIx n d (some (k:Int))=min k n:=by
 show(if (k:Int) < 0 then((k:Int)+(n:Int)).toNat else min (k:Int).toNat n)=min k n;rw [Ys Yr,Sk]
theorem Iq(n d:Nat)(hd:d<=n)(o:Option Int):sIx n d o<=n:=by
 cases o with
 | none=>exact hd
 | some v=>
  show(if v < 0 then(v+(n:Int)).toNat else min v.toNat n)<=n;by_cases hv:v < 0
  ·rw [Yt hv];omega
  ·rw [Ys hv];exact Wr _ _
theorem BA(v:Int)(n d:Nat):(if v < 0 then max (v+(n:Int)) 0 else min v (n:Int))=((sIx n d (some v):Nat):Int):=by
 show(if v < 0 then max (v+(n:Int)) 0 else min v (n:Int))=(((if v < 0 then(v+(n:Int)).toNat else min v.toNat n):Nat):Int);by_cases hv:v < 0
 ·simp only [Yt hv];omega
 ·simp only [Ys hv];omega
theorem Ir(lo hi:Option Int)(n:Nat):Va lo hi 1 (n:Int)=(((sIx n 0 lo:Nat):Int),((sIx n n hi:Nat):Int)):=by
 have h1:¬((1:Int) < 0):=Yr
 unfold Va;simp only [h1,if_false];refine Prod.ext ?_ ?_
 ·cases lo with
  | none=>rfl
  | some v=>exact BA v n 0
 ·cases hi with
  | none=>rfl
  | some v=>exact BA v n n
theorem Iu(i j:Nat):Uv (i:Int) (j:Int) 1=j - i:=by
 unfold Uv;have h1:(1:Int) > 0:=Yr
 simp only [h1,if_true,Int.ediv_one];split <;> omega
theorem BB{v:Yx}{o:Option Int}{Q:Option Int->YA->Prop}(p:IsPart v o)(h:Q o s):YC (YE prog w) A (Builtin.Slice.slicePartIndex v) Q E s:=by
 cases p with
 | none=>exact slicePart_none h
 | int i t=>exact slicePart_int h
theorem sliceApplied_gen{sl:Yz}{vl vu:Yx}{lo hi:Option Int}{n:Nat}{Q:Int×Int×Nat->YA->Prop}(hs:s.heap.IsSliceOf sl vl vu .none)(pl:IsPart vl lo)(pu:IsPart vu hi)
 (h:Q (((sIx n 0 lo:Nat):Int),1,sIx n n hi - sIx n 0 lo) s):YC (YE prog w) A (V4 (.ref sl) (pure (n:Int))) Q E s:=by
 obtain⟨os,hos,hcs,hds⟩:=id hs;unfold V4 X6;refine Yy (Yy (Zu hos hds (x:=vl) rfl (Yy (Zu hos hds (x:=vu) rfl (Yy (Zu hos hds (x:= .none) rfl (YB ?_)))))));refine Yy (slicePart_none ?_);show YC _ _ (if ((1:Int)==0)=true then _ else _) _ _ s;rw [Ys Yq];refine Yy (BB pl (Yy (BB pu (Yy (YB ?_)))));show YC _ _ (match Va lo hi 1 (n:Int) with | (lo,hi)=>pure (lo,(1:Int),Uv lo hi 1)) _ _ s;rw [Ir lo hi n];show YC _ _ (pure (((sIx n 0 lo:Nat):Int),(1:Int),Uv ((sIx n 0 lo:Nat):Int) ((sIx n n hi:Nat):Int) 1)) _ _ s;rw [Iu];exact YB h
theorem Iw(xs:Array Yx)(i k:Nat):((SO k).filterMap λ(m:Nat)=>xs[((i:Int)+(m:Int)*1).toNat]?).toArray=((xs.toList.drop i).take k).toArray:=by
 have e:(λ(m:Nat)=>xs[((i:Int)+(m:Int)*1).toNat]?)=λm=>xs[i+m]?:=by
  funext m;have:((i:Int)+(m:Int)*1).toNat=i+m:=Yr
  rw [this]
 rw [e];have:=pick_run xs i k;rw [Xd] at this;have e2:((λx=>xs[x]?)∘ λx=>i+x)=λm=>xs[i+m]?:=rfl;rw [e2] at this;rw [this]
theorem getItem_tuple_cut{t sl:Yz}{items:Array Yx}{vl vu:Yx}{lo hi:Option Int}{Q:Yx->YA->Prop}(ht:IsTup s.heap t items)(hs:s.heap.IsSliceOf sl vl vu .none)(pl:IsPart vl lo)(pu:IsPart vu hi)
 (hw:¬(sIx items.size 0 lo=0/\sIx items.size items.size hi=items.size))
 (h:Q (.ref s.heap.objs.size) {s with heap:=s.heap.push {cls:= .type "tuple",data:= .seq ((items.toList.drop (sIx items.size 0 lo)).take (sIx items.size items.size hi - sIx items.size 0 lo)).toArray}})
 (hsz:items.size<=YH):YC (YE prog w) A (ZC (.ref t) (.ref sl)) Q E s:=by
 have htake:sizeOk (.seq ((items.toList.drop (sIx items.size 0 lo)).take (sIx items.size items.size hi - sIx items.size 0 lo)).toArray):=by
  show((items.toList.drop (sIx items.size 0 lo)).take (sIx items.size items.size hi - sIx items.size 0 lo)).toArray.size<=YH;rw [Rc,RI,TH,RE];omega
 have hj:sIx items.size items.size hi<=items.size:=Iq _ _ (QY _) hi;obtain⟨os,hos,hcs,hds⟩:=id hs;have hTs:s.TypeIs (.ref sl) "slice":=⟨os,hos,hcs⟩;unfold ZC
 try with_reducible refine Y2 ?_
 first | refine Yy (YB ?_) | skip
 refine Yy (wpAny_sequenceKey ht.typeIs Yq ?_);refine Yy (YW (name:=QU "__getitem__") ht.typeIs TR
  (YV TR ht.typeIs entry_tuple_getitem ?_ (args_tuple_getitem _ _)))
 show YC _ _ (V5 (.ref t) >>=_) _ _ s;refine Yy (tupleItemsOf_ ht ?_);refine Yy (ZV hTs ?_);rw [Yt Yq];refine Yy (sliceApplied_gen hs pl pu ?_);have hno:¬((((sIx items.size 0 lo:Nat):Int)==0 && (1:Int)==1 && (sIx items.size items.size hi - sIx items.size 0 lo)==items.size)=true):=by
  intro q;rw [R5,R5] at q;have q1:((sIx items.size 0 lo:Nat):Int)=0:=eq_of_beq q.1.1;have q2:sIx items.size items.size hi - sIx items.size 0 lo=items.size:=eq_of_beq q.2;exact hw ⟨Yr,Yr⟩
 show YC _ _ (if (((sIx items.size 0 lo:Nat):Int)==0 && (1:Int)==1 && (sIx items.size items.size hi - sIx items.size 0 lo)==items.size)=true then _ else _) _ _ s;rw [Ys hno,Iw]
 first
  | exact Yy (m:=UC _) (YT (YB ⟨_,rfl,YB h⟩) htake)
  | exact Yy (m:=UC _) (YT (Yy (YB (YB ⟨_,rfl,YB h⟩))) htake)
  | exact Yy (Yy (m:=UC _) (YT (YB (YB ⟨_,rfl,YB h⟩)) htake))
  | exact Yy (Yy (m:=UC _) (YT (YB ⟨_,rfl,YB h⟩) htake))
end
end HT
namespace L2
open PySem PySem.Spec PyProof.Rows
abbrev TO:=St->Hp->(Option Int->Hp->Prop)->Prop
def PO(X:Cx)(e:Option YF)(t:TO):Prop:=
 ∀(aac:List (Yz×Obj))(s:YA)(σ:St)(H:Hp)(Q:Option Int->Hp->Prop),ag X aac σ H s->t σ H Q->
  YC (YE X.prog X.w) X.A (evalPart e X.env) (λu s'=>∃o H',ag X aac σ H' s'/\IsPart u o/\Q o H') X.xe s
def Iy:TO:=λ_ H Q=>Q none H
def Iz(t:TE):TO:=λσ H Q=>t σ H λx H1=>∃i,x= .int i/\Q (some i) H1
theorem IA{ns:List Int}:∀{us:List Yx},aI (ns.map V.int) us->YZ us ns:=by
 induction ns with
 | nil=>intro us r;rw [RW] at r;cases r;exact .nil
 | cons n ns ih=>
  intro us r;rw [Q0] at r;cases r with
  | cons r1 r2=>
   obtain⟨t,e⟩:=r1;subst e;exact .cons n t (ih r2)
section
variable {X:Cx} {e:YF} {te:TE} {lo hi:Option YF} {tl th:TO} {pos p2:Pos}
theorem IB:PO X none Iy:=by
 intro aac s σ H Q I h;rw [evalPart_none];exact YB ⟨none,H,I,.none,h⟩
theorem IC(h:PE X e te):PO X (some e) (Iz te):=by
 intro aac s σ H Q I hw;rw [evalPart_some];refine aB (h aac s σ H _ I hw) λu s1 ⟨x,H1,I1,r1,q1⟩=>?_;obtain⟨i,rfl,q⟩:=q1;obtain⟨t,rfl⟩:=r1;exact⟨some i,H1,I1,.int i t,q⟩
def sd(X:Cx)(r:V->Option Int->Option Int->Hp->VK->Prop):Prop:=
 ∀(aac:List (Yz×Obj))(s:YA)(σ:St)(H:Hp)(x:V)(v vl vu:Yx)(lo hi:Option Int)(sl:Yz)(Q:VK),ag X aac σ H s->aJ x v->s.heap.IsSliceOf sl vl vu .none->IsPart vl lo->IsPart vu hi->r x lo hi H Q->
  ∃T id,typeLookup (.type T) "__getitem__"=pure (some (.builtin id))/\s.TypeIs v T/\YC (YE X.prog X.w) X.A (ZC v (.ref sl)) (EP X aac σ Q) X.xe s
def ID(r:V->Option Int->Option Int->Hp->VK->Prop)(te:TE)(tl th:TO):TE:=λσ H Q=>te σ H λx H1=>tl σ H1 λl H2=>th σ H2 λu H3=>r x l u H3 Q
theorem vc{r:V->Option Int->Option Int->Hp->VK->Prop}(hr:sd X r)(he:PE X e te)(hl:PO X lo tl)(hu:PO X hi th):PE X (.Subscript e (.Slice lo hi none p2) pos) (ID r te tl th):=by
 intro aac s σ H Q I h;refine Subscript_ (aB (he aac s σ H _ I h) λv s1 ⟨x,H1,I1,r1,q1⟩=>?_);refine wpAny_Slice (aB (hl aac s1 σ H1 _ I1 q1) λvl s2 ⟨l,H2,I2,pl,q2⟩=>aB (hu aac s2 σ H2 _ I2 q2) λvu s3 ⟨u,H3,I3,pu,q3⟩=>?_);rw [evalPart_none];refine YB ?_;have I4:ag X aac σ H3 {s3 with heap:=s3.heap.push {cls:= .type "slice",data:= .fields #[vl,vu,.none]}}:=I3.kept (t':=s3.toks) λb ob q=>Q1 _ q;obtain⟨T,id,hT,ht,hg⟩:=hr aac {s3 with heap:=s3.heap.push {cls:= .type "slice",data:= .fields #[vl,vu,.none]}} σ H3 x v vl vu l u s3.heap.objs.size Q I4 r1 (Ym ..) pl pu q3;show YC (YE X.prog X.w) X.A (subscriptTail e (.Slice lo hi none p2) v (.ref s3.heap.objs.size)) (EP X aac σ Q) X.xe {s3 with heap:=s3.heap.push {cls:= .type "slice",data:= .fields #[vl,vu,.none]}};exact tail_any (ops:=[.ref s3.heap.objs.size,v]) ht hT hg (by with_unfolding_all rfl)
def jK(xs:List V)(lo hi:Option Int):List V:=(xs.drop (HT.sIx xs.length 0 lo)).take (HT.sIx xs.length xs.length hi - HT.sIx xs.length 0 lo)
theorem BC(xs:List V)(lo hi:Option Int):(jK xs lo hi).length<=xs.length:=by
 unfold jK;rw [RI,TH];omega
def IE(K:QV):V->Option Int->Option Int->Hp->VK->Prop:=λx lo hi H Q=>∃a xs,x= .ref a/\aZ K H a xs/\
 ¬(HT.sIx xs.length 0 lo=0/\HT.sIx xs.length xs.length hi=xs.length)/\∀p,H p=none->Q (.ref p) (ah H p (.tup (jK xs lo hi)))
theorem IF:sd X (IE X.K):=by
 intro aac s σ H x v vl vu lo hi sl Q I rx hs pl pu h;obtain⟨a,xs,rfl,hx,hw,q⟩:=h;cases rx;obtain⟨its,r,ht,hz⟩:=I.tuple hx;have hlen:its.toArray.size=xs.length:=by rw [Rc];exact r.length.symm
 refine⟨"tuple",_,TR.lookup,ht.typeIs,?_⟩;refine HT.getItem_tuple_cut ht hs pl pu (by rw [hlen];exact hw) ?_ (by rw [hlen];exact hz);rw [hlen];refine⟨.ref s.heap.objs.size,_,I.laid (t':=s.toks) (o:= .tup (jK xs lo hi)) (λb ob q=>Q1 _ q) (QY _) ?_,rfl,q _ (I.hok.fresh (QY _))⟩;exact⟨Rx (BC xs lo hi) hz,_,(r.drop (HT.sIx xs.length 0 lo)).take (HT.sIx xs.length xs.length hi - HT.sIx xs.length 0 lo),XY _ _⟩
def vd(K:QV):R2:=λx y H Q=>∃a b xs ys,x= .ref a/\y= .ref b/\aZ K H a xs/\aZ K H b ys/\xs≠[]/\xs.length+ys.length<=YH/\
 (ys=[]->Q (.ref a) H)/\(ys≠[]->∀p,H p=none->Q (.ref p) (ah H p (.tup (xs++ys))))
theorem aI.nil_iff{xs:List V}{us:List Yx}(r:aI xs us):us=[]↔xs=[]:=by
 cases r with
 | nil=>simp
 | cons _ _=>simp
theorem IG:bG X (Y8 .Add) (vd X.K):=by
 intro aac s σ H x y v u Q I rx ry h;obtain⟨a,b,xs,ys,rfl,rfl,ha,hb,hx,hz,q1,q2⟩:=h;cases rx;cases ry;obtain⟨its,r1,p1,_⟩:=I.tuple ha;obtain⟨its2,r2,p2,_⟩:=I.tuple hb;refine HT.cat_tup p1 p2 (λz=>hx (r1.nil_iff.mp z)) (λz=>⟨.ref a,H,I,rfl,q1 (r2.nil_iff.mp z)⟩) (λz=>?_) (by rw [<-r1.length,<-r2.length];exact hz);refine⟨.ref s.heap.objs.size,_,I.laid (t':=s.toks) (o:= .tup (xs++ys)) (λb ob q=>Q1 _ q) (QY _) ?_,rfl,q2 (λw=>z (r2.nil_iff.mpr w)) _ (I.hok.fresh (QY _))⟩;exact⟨by rw [Ra];exact hz,_,r1.append r2,XY _ _⟩
end
def jc(n:Nat)(i:Int):Option Nat:=if 0<=i then(if i < n then some i.toNat else none) else if -(n:Int)<=i then some (i+n).toNat else none
def atI{α:Type}(xs:List α)(i:Int):Option α:=(jc xs.length i).bind λj=>xs[j]?
theorem IH{n:Nat}{i:Int}{j:Nat}(h:jc n i=some j):seqIndex? i n=some j/\j < n/\-(n:Int)<=i/\i < n:=by
 unfold jc at h;by_cases h0:0<=i
 ·rw [Yt h0] at h;by_cases h1:i < n
  ·rw [Yt h1] at h;have e:i.toNat=j:=R3 h;exact⟨by rw [seqIndex_of h0 h1,e],Yr,Yr,h1⟩
  ·rw [Ys h1] at h;cases h
 ·rw [Ys h0] at h;by_cases h1:-(n:Int)<=i
  ·rw [Yt h1] at h;have e:(i+n).toNat=j:=R3 h;exact⟨by rw [seqIndex_neg Yr h1,e],Yr,h1,Yr⟩
  ·rw [Ys h1] at h;cases h
theorem ve{α:Type}{xs:List α}{i:Int}{v:α}(h:atI xs i=some v):∃j,seqIndex? i xs.length=some j/\xs[j]?=some v/\j < xs.length/\-(xs.length:Int)<=i/\i < xs.length:=by
 unfold atI at h;cases e:jc xs.length i with
 | none=>rw [e] at h;cases h
 | some j=>
  rw [e] at h;obtain⟨h1,h2,h3,h4⟩:=IH e;exact⟨j,h1,h,h2,h3,h4⟩
theorem fO{α:Type}{xs:List α}{j:Nat}{v:α}(h:xs[j]?=some v):atI xs (j:Int)=some v:=by
 have hj:j < xs.length:=(Q7.mp h).1;have e:jc xs.length (j:Int)=some j:=by
  unfold jc;rw [Yt Yr,Yt Yr];simp
 unfold atI;rw [e];exact h
theorem BD{α:Type}(xs:List α)(v:α):atI (xs++[v]) (-1)=some v:=by
 have hl:(xs++[v]).length=xs.length+1:=Yv
 have e:jc (xs++[v]).length (-1)=some xs.length:=by
  unfold jc;rw [hl,Ys Yq,Yt Yr];congr 1;omega
 unfold atI;rw [e];show(xs++[v])[xs.length]?=some v;simp
def II(b:YF):Prop:=∀o i,Z3 b false o i=operate [o,i] (ZC o i)
def qx(X:Cx)(r:R2):Prop:=
 ∀(value slice:YF)(aac:List (Yz×Obj))(s:YA)(σ:St)(H:Hp)(x y:V)(v u:Yx)(Q:VK),ag X aac σ H s->aJ x v->aJ y u->r x y H Q->
  Z3 slice false v u=operate [v,u] (ZC v u)->YC (YE X.prog X.w) X.A (subscriptTail value slice v u) (EP X aac σ Q) X.xe s
def IJ(X:Cx)(id:String)(r:V->List V->Hp->VK->Prop):Prop:=
 ∀(aac:List (Yz×Obj))(s:YA)(σ:St)(H:Hp)(x:V)(xs:List V)(v:Yx)(us:List Yx)(Q:VK),ag X aac σ H s->aJ x v->aI xs us->r x xs H Q->
  YC (YE X.prog X.w) X.A (call (.builtin id) (v::us)) (EP X aac σ Q) X.xe s
section
variable {X:Cx} {a b:YF} {ta tb:TE} {pos:Pos}
theorem jL{r:R2}(hr:qx X r)(ha:PE X a ta)(hb:PE X b tb)(hs:II b):PE X (.Subscript a b pos) (oX r ta tb):=by
 intro aac s σ H Q I h;exact Subscript_ (uY ha hb I h λv u s2 x y H2 I2 rx ry q=>hr a b aac s2 σ H2 x y v u Q I2 rx ry q (hs _ _))
def vg(K:QV):R2:=λx y H Q=>∃p xs i v,x= .ref p/\y= .int i/\bo K H p xs/\atI xs i=some v/\Q v H
def se(K:QV):R2:=λx y H Q=>∃p xs i v,x= .ref p/\y= .int i/\aZ K H p xs/\atI xs i=some v/\Q v H
def BE:R2:=λx y H Q=>∃z i c,x= .str z/\y= .int i/\z.length<=YH/\atI z.cps.toList i=some c/\Q (.str ⟨#[c]⟩) H
theorem aP:qx X (vg X.K):=by
 intro value slice aac s σ H x y v u Q I rx ry h hs;obtain⟨p,xs,i,z,rfl,rfl,hq,he,q⟩:=h;cases rx;obtain⟨t,rfl⟩:=ry;obtain⟨its,r,pl,hz⟩:=I.list hq;obtain⟨j,h1,h2,h3,h4,h5⟩:=ve he;obtain⟨w,ew,rw'⟩:=r.get h2;have hl:=r.length;have hn:=qt;have fin:EP X aac σ Q w s:=⟨z,H,I,rw',q⟩;by_cases h0:0<=i
 ·have hj:i.toNat=j:=by
   rw [seqIndex_of h0 h5] at h1;exact R3 h1
  exact item_listR pl.isList h0 Yr (by rw [hj];simpa using ew) fin hs
 ·have hj:(i+(its.toArray.size:Int)).toNat=j:=by
   rw [seqIndex_neg Yr h4] at h1;rw [Rc,<-hl];exact R3 h1
  exact subscriptTail_builtinR (x:=w) pl.isList.typeIs slot_list_getitem.lookup
   (wpAny_getItem_list_neg (Q:=λr s'=>r=w/\EP X aac σ Q r s') pl.isList Yr (by rw [Rc] <;> omega) Yr (by rw [hj];simpa using ew) ⟨rfl,fin⟩) hs
theorem aG:qx X (se X.K):=by
 intro value slice aac s σ H x y v u Q I rx ry h hs;obtain⟨p,xs,i,z,rfl,rfl,hq,he,q⟩:=h;cases rx;obtain⟨t,rfl⟩:=ry;obtain⟨its,r,pl,hz⟩:=I.tuple hq;obtain⟨j,h1,h2,h3,h4,h5⟩:=ve he;obtain⟨w,ew,rw'⟩:=r.get h2;have hl:=r.length;have hn:=qt;have fin:EP X aac σ Q w s:=⟨z,H,I,rw',q⟩;exact subscriptTail_builtinR (x:=w) pl.typeIs slot_tuple_getitem.lookup
  (getItem_tuple (j:=j) (Q:=λr s'=>r=w/\EP X aac σ Q r s') pl Yr Yr (by rw [Rc,<-hl];exact h1) (by simpa using ew) ⟨rfl,fin⟩) hs
theorem BF:qx X BE:=by
 intro value slice aac s σ H x y v u Q I rx ry h hs;obtain⟨z,i,c,rfl,rfl,hz,he,q⟩:=h;obtain⟨t,rfl⟩:=rx;obtain⟨t',rfl⟩:=ry;obtain⟨j,h1,h2,h3,h4,h5⟩:=ve he;have hl:z.cps.toList.length=z.length:=by simp [Str.length]
 rw [hl] at h1 h4 h5;have hn:=qt;exact tail_any (ZW s z t) slot_str_getitem.lookup (getItem_str (c:=c) (by
  have e1:decide (i < -(2 ^ 63:Int))=false:=decide_eq_false Yr;have e2:decide (i >= 2 ^ 63)=false:=decide_eq_false Yr;rw [e1,e2,Tq]) (by rw [h1];simpa using h2) ⟨.str ⟨#[c]⟩,H,I.tok _,⟨_,rfl⟩,q⟩) hs
theorem IK(lo hi:Option Int)(n:Nat):(ZD lo hi none n).1=((HT.sIx n 0 lo:Nat):Int)/\(ZD lo hi none n).2.1=((HT.sIx n n hi:Nat):Int)/\(ZD lo hi none n).2.2=1:=by
 refine⟨?_,?_,rfl⟩
 ·cases lo with
  | none=>simp [ZD,HT.sIx]
  | some i=>
   simp only [ZD,HT.sIx,Ws,show(1:Int) > 0 by decide,if_true];by_cases h:i < 0
   ·simp only [h,if_true] <;> omega
   ·simp only [h,if_false] <;> omega
 ·cases hi with
  | none=>simp [ZD,HT.sIx]
  | some i=>
   simp only [ZD,HT.sIx,Ws,show(1:Int) > 0 by decide,if_true];by_cases h:i < 0
   ·simp only [h,if_true] <;> omega
   ·simp only [h,if_false] <;> omega
theorem IL(its:List Yx)(lo hi:Option Int):slicePick its.toArray lo hi none=((its.drop (HT.sIx its.length 0 lo)).take (HT.sIx its.length its.length hi - HT.sIx its.length 0 lo)).toArray:=by
 obtain⟨h1,h2,h3⟩:=IK lo hi its.toArray.size;unfold slicePick;rw [h1,h2,h3];simp only [sliceRange_one,pick_run,Rc] <;> rfl
def IM(K:QV):V->Option Int->Option Int->Hp->VK->Prop:=λx lo hi H Q=>∃a xs,x= .ref a/\bo K H a xs/\∀p,H p=none->Q (.ref p) (ah H p (.lst (jK xs lo hi)))
theorem BG:sd X (IM X.K):=by
 intro aac s σ H x v vl vu lo hi sl Q I rx hs pl pu h;obtain⟨a,xs,rfl,hx,q⟩:=h;cases rx;obtain⟨its,r,ht,hz⟩:=I.list hx;have hlen:=r.length;refine⟨"list",_,slot_list_getitem.lookup,ht.isList.typeIs,?_⟩;refine wpAny_getItem_list_slice ht.isList hs pl pu .none Yv ?_ (by rw [Rc] <;> omega);rw [IL,<-hlen];refine⟨.ref s.heap.objs.size,_,I.laid (t':=s.toks) (o:= .lst (jK xs lo hi)) (λb ob q=>Q1 _ q) (QY _) ?_,rfl,q _ (I.hok.fresh (QY _))⟩;exact⟨Rx (BC xs lo hi) hz,_,0,(r.drop (HT.sIx xs.length 0 lo)).take (HT.sIx xs.length xs.length hi - HT.sIx xs.length 0 lo),Rl _ rfl⟩
theorem dO:d8 X (.builtin "len") (λxs H Q=>∃p ys,xs=[.ref p]/\(bo X.K H p ys\/aZ X.K H p ys)/\Q (.int ys.length) H):=by
 intro aac s σ H xs us Q I r h;obtain⟨p,ys,rfl,hq,q⟩:=h;obtain⟨u,rfl,rx⟩:=ft r;cases rx;have hn:=qt;rcases hq with hq | hq
 ·obtain⟨its,r',pl,hz⟩:=I.list hq;have hlen:=r'.length;exact Calls.call_len_list pl.isList (by simp only [Rc] <;> omega) ⟨.int ys.length,H,I.tok _,⟨s.toks+1,by rw [Rc,hlen]⟩,q⟩
 ·obtain⟨its,r',pl,hz⟩:=I.tuple hq;have hlen:=r'.length;exact len_tuple pl (by simp only [Rc] <;> omega) ⟨.int ys.length,H,I.tok _,⟨s.toks+1,by rw [Rc,hlen]⟩,q⟩
theorem IP:d8 X (.type "list") (λxs H Q=>∃p ys,xs=[.ref p]/\(bo X.K H p ys\/aZ X.K H p ys)/\∀l,H l=none->Q (.ref l) (ah H l (.lst ys))):=by
 intro aac s σ H xs us Q I r h;obtain⟨p,ys,rfl,hq,q⟩:=h;obtain⟨u,rfl,rx⟩:=ft r;cases rx;have fin:∀(its:List Yx),aI ys its->ys.length<=YH->∀(h':YK)(c':Nat),(∀b o',s.heap.get? b=some o'->h'.get? b=some o')->
  h'.get? s.heap.objs.size=some {cls:= .type "list",dict:=none,data:= .seq its.toArray c',slots:=#[]}->EP X aac σ Q (.ref s.heap.objs.size) {s with heap:=h'}:=λits r' hz h' c' kp e=>
  ⟨.ref s.heap.objs.size,_,I.laid (t':=s.toks) kp (QY _) (show cj X.prog X.w _ h' _ (.lst ys) from⟨hz,its,c',r',e⟩),rfl,q _ (I.hok.fresh (QY _))⟩
 rcases hq with hq | hq
 ·obtain⟨its,r',pl,hz⟩:=I.list hq;have hlen:=r'.length;obtain⟨o,ho,hc,n,hd⟩:=pl.isList;exact call_list_seq p (.inl rfl) ho hc hd (λh' c' kp e=>fin its r' hz h' c' kp e) (by simp only [Rc] <;> omega)
 ·obtain⟨its,r',pl,hz⟩:=I.tuple hq;have hlen:=r'.length;obtain⟨o,ho,hc,n,hd⟩:=pl;exact call_list_seq p (.inr rfl) ho hc hd (λh' c' kp e=>fin its r' hz h' c' kp e) (by simp only [Rc] <;> omega)
theorem fP:d8 X (.type "tuple") (λxs H Q=>∃p ys,xs=[.ref p]/\((bo X.K H p ys/\∀l,H l=none->Q (.ref l) (ah H l (.tup ys)))\/(aZ X.K H p ys/\Q (.ref p) H))):=by
 intro aac s σ H xs us Q I r h;obtain⟨p,ys,rfl,h⟩:=h;obtain⟨u,rfl,rx⟩:=ft r;cases rx;rcases h with⟨hq,q⟩ | ⟨hq,q⟩
 ·obtain⟨its,r',pl,hz⟩:=I.list hq;have hlen:=r'.length;refine call_tuple_list pl.isList (λh' kp=>?_) (by simp only [Rc] <;> omega);have I1:ag X aac σ H {s with heap:=h'}:=I.kept (t':=s.toks) kp;have I2:ag X aac σ (ah H h'.objs.size (.tup ys)) {s with heap:=h'.push {cls:= .type "tuple",data:= .seq its.toArray}}:=
   I1.laid (t':=s.toks) (λb o e=>Q1 _ e) (QY _) (show cj X.prog X.w _ _ _ (.tup ys) from⟨hz,its,r',XY _ _⟩)
  exact⟨.ref h'.objs.size,_,I2,rfl,q _ (I1.hok.fresh (QY _))⟩
 ·obtain⟨its,r',pl,hz⟩:=I.tuple hq;exact call_tuple_same pl ⟨.ref p,H,I,rfl,q⟩
def BH(K:QV)(T:String)(x:V)(H:Hp):Prop:=match x with
 | .str _=>T="str"
 | .int _=>T="int"
 | .ref p=>(T="list"/\∃xs,bo K H p xs)\/(T="tuple"/\∃o,K.lookup p=some o/\o.cls= .type "tuple"/\o.dict=none)\/
  (T="dict"/\((∃kvs,H p=some (.dK kvs))\/∃kvs,H p=some (.dT kvs)))\/(T="set"/\∃S n,H p=some (.set S n))
 | _=>False
theorem IQ{aac:List (Yz×Obj)}{σ:St}{H:Hp}{s:YA}{T:String}{x:V}{v:Yx}(I:ag X aac σ H s)(r:aJ x v)(ty:BH X.K T x H):
 s.TypeIs v T/\∀a,v= .ref a->∃ob,s.heap.get? a=some ob/\ob.dict=none:=by
 cases x with
 | str z=>
  obtain⟨t,rfl⟩:=r;cases (show T="str" from ty);exact⟨ZW s z t,λ_ e=>nomatch e⟩
 | int i=>
  obtain⟨t,rfl⟩:=r;cases (show T="int" from ty);exact⟨typeIs_int s i t,λ_ e=>nomatch e⟩
 | ref p=>
  cases r;rcases ty with⟨rfl,xs,hq⟩ | ⟨rfl,o,hk,hc,hd⟩ | ⟨rfl,hk⟩ | ⟨rfl,S,n,hk⟩
  ·obtain⟨its,_,pl,_⟩:=I.list hq;refine⟨pl.isList.typeIs,λa e=>?_⟩;cases e;obtain⟨o,n,e,c,hd,_⟩:=pl;exact⟨o,e,hd⟩
  ·refine⟨⟨o,I.kIn p o hk,hc⟩,λa e=>?_⟩;cases e;exact⟨o,I.kIn _ o hk,hd⟩
  ·have z:∃o,s.heap.get? p=some o/\o.ExactDict:=by
    rcases hk with⟨kvs,hk⟩ | ⟨kvs,hk⟩
    ·obtain⟨_,_,_,_,o,_,_,e,ex,_⟩:=I.hok p _ hk;exact⟨o,e,ex⟩
    ·obtain⟨_,_,_,_,o,_,_,e,ex,_⟩:=I.hok p _ hk;exact⟨o,e,ex⟩
   obtain⟨o,e,ex⟩:=z;refine⟨⟨o,e,ex.1⟩,λa e2=>?_⟩;cases e2;exact⟨o,e,ex.2.1⟩
  ·obtain⟨o,_,_,_,e,ex,_⟩:=I.hok p _ hk;refine⟨⟨o,e,ex.1⟩,λa e2=>?_⟩;cases e2;exact⟨o,e,ex.2.1⟩
 | _=>exact S0 ty
def IS(K:QV)(T:String)(r:V->List V->Hp->VK->Prop)(to:TE)(t:TA):TE:=λσ H Q=>to σ H λx H1=>BH K T x H1/\t σ H1 λxs H2=>r x xs H2 Q
variable {o e:YF} {es:List YF} {to:TE} {t:TA} {name:Str} {apos cpos:Pos} {T id:String} {r:V->List V->Hp->VK->Prop}
theorem sf(pa:PlainAttrs T)(slot:Slot T name id)(hty:typeOf (.builtin id)=pure (.type "method_descriptor"))(hm:IJ X id r)(ho:PE X o to)(ha:PA X (e::es) t)
 (hbase:Y4 o name X.env (eval o X.env)=eval o X.env:=by rfl)
 (hfew:((YR cpos (YD (e::es) X.env)).all (λx=>!x.1) && (Zk cpos (Y6 [] X.env)).all (λx=>x.1.isSome)
   && decide ((e::es).length+([]:List Zj).length+(if ([]:List Zj).isEmpty then 0 else 1) < 30))=true:=by rfl)
 (hline:(apos.endLine==cpos.line)=true:=by rfl)(hs:YD (e::es) X.env=(false,eval e X.env)::YD es X.env:=by rfl)(hplain:(YR cpos (YD es X.env)).any (·.1)=false:=by rfl):
 PE X (.Call (.Attribute o name apos) (e::es) [] cpos) (IS X.K T r to t):=by
 intro aac s σ H Q I h;refine wpAny_Call_method_late hbase hfew hline rfl (aB (ho aac s σ H _ I h) λv s1 ⟨x,H1,I1,r1,ty,q1⟩=>?_);obtain⟨h1,h2⟩:=IQ I1 r1 ty;refine⟨T,id,pa,slot,hty,h1,h2,?_⟩;have hA:=ha cpos aac s1 σ H1 _ I1 q1;rw [hs] at hA⊢;refine Vy (by show(false || (YR cpos (YD es X.env)).any (·.1))=false;rw [hplain] <;> rfl) (VI ?_);exact aB hA λus s2 uu56=>by obtain⟨vs,H2,I2,r2,q2⟩:=uu56;exact hm aac s2 σ H2 x vs v us Q I2 r1 r2 q2
end
def sh(X:Cx)(id:String)(r:V->List V->Hp->VK->Prop):Prop:=
 ∀(aac:List (Yz×Obj))(s:YA)(σ:St)(H:Hp)(x:V)(xs:List V)(v:Yx)(us:List Yx)(Q:VK),ag X aac σ H s->aJ x v->aI xs us->r x xs H Q->
  YC (YE X.prog X.w) X.A (call (.builtin id) (v::us)) (EP X aac σ Q) X.xe s
theorem aI.one:∀{x:V}{us:List Yx},aI [x] us->∃u,us=[u]/\aJ x u
 | _,_,.cons r .nil=>⟨_,rfl,r⟩
theorem aI.rep{xs:List V}{us:List Yx}(h:aI xs us):∀k:Nat,aI (Ri k xs).flatten (Ri k us).flatten
 | 0=>.nil
 | k+1=>by
  rw [SR,SR,Ut,Ut];exact aI.append h (aI.rep h k)
theorem BI(its:List Yx):∀(k:Nat)(acc:List Yx),
 XJ (λx1 x2=>x1++x2) acc.toArray (Ri k its.toArray)=(acc++(Ri k its).flatten).toArray
 | 0,acc=>by simp
 | k+1,acc=>by
  have e:acc.toArray++its.toArray=(acc++its).toArray:=Yv
  have e2:(acc++its)++(Ri k its).flatten=acc++(Ri (k+1) its).flatten:=by
   rw [SR,Ut,UX]
  rw [<-e2,<-BI its k (acc++its),<-e,SR,RX]
section
variable {X:Cx} {aac:List (Yz×Obj)} {σ:St} {H:Hp} {s:YA} {l b:Yz} {xs ys zs:List V}
theorem ag.lset{its its':List Yx}{n:Nat}{f:Array Yx->Array Yx}{t':Nat}(I:ag X aac σ H s)(hH:H l=some (.lst xs))
 (e:s.heap.get? l=some {cls:= .type "list",data:= .seq its.toArray n})(hf:f its.toArray=its'.toArray)(hv:aI ys its')(hz:ys.length<=YH):
 ag X aac σ (ah H l (.lst ys)) {s with heap:=s.heap.update l (So f),toks:=t'}:=by
 have q:=PySem.IsL.update e f;rw [hf] at q;refine I.write (x:=l) (e:=l) (by rw [hH];exact trivial) (.inl rfl) (λb' u hb hu=>(Ud s.heap (So f) (Ne.symm hb)).trans hu) ⟨_,q⟩ ?_;exact⟨hz,its',_,hv,q⟩
theorem ag.lnew{its:List Yx}{t':Nat}(I:ag X aac σ H s)(hv:aI ys its)(hz:ys.length<=YH):
 ag X aac σ (ah H s.heap.objs.size (.lst ys)) {s with heap:=s.heap.push {cls:= .type "list",data:= .seq its.toArray},toks:=t'}:=
 I.laid (λ_ _ q=>Q1 _ q) (QY _) ⟨hz,its,0,hv,Rl _ rfl⟩
theorem ag.fresh(I:ag X aac σ H s):H s.heap.objs.size=none:=I.hok.fresh (QY _)
theorem ag.lstM(I:ag X aac σ H s)(hH:H l=some (.lst xs)):xs.length<=YH/\∃(its:List Yx)(n:Nat),aI xs its/\xs.length=its.length/\s.heap.get? l=some {cls:= .type "list",data:= .seq its.toArray n}:=by
 obtain⟨z,its,n,r,e⟩:=I.hok l _ hH;exact⟨z,its,n,r,r.length,e⟩
theorem vh{n:Nat}(h:n<=YH):TY n=false:=by
 unfold TY;exact decide_eq_false Yr
end
section
variable {X:Cx}
def IT:V->List V->Hp->VK->Prop:=λx vs H Q=>∃l xs y,x= .ref l/\vs=[y]/\H l=some (.lst xs)/\xs.length < YH/\Q .non (ah H l (.lst (xs++[y])))
theorem BJ:sh X "list.append" IT:=by
 intro aac s σ H x vs v us Q I rx rv h;obtain⟨l,xs,y,rfl,rfl,hH,hz,q⟩:=h;cases rx;obtain⟨u,rfl,ru⟩:=rv.one;obtain⟨z,its,n,r,hl,e⟩:=I.lstM hH;refine Zm F.slot_list_append ⟨_,e,rfl⟩ F.entry_list_append (F.args_list_append_2 _ _) (PySem.list_append l its.toArray n u (by rw [Rc];omega)) ⟨e,?_⟩;refine⟨.non,_,I.lset (its':=its++[u]) hH e Yv (r.append (.cons ru .nil)) ?_,rfl,q⟩;rw [Ra,Td];omega
def IU:V->List V->Hp->VK->Prop:=λx vs H Q=>∃l b xs zs,x= .ref l/\vs=[.ref b]/\H l=some (.lst xs)/\H b=some (.lst zs)/\xs.length+zs.length<=YH/\Q .non (ah H l (.lst (xs++zs)))
theorem IV:sh X "list.extend" IU:=by
 intro aac s σ H x vs v us Q I rx rv h;obtain⟨l,b,xs,zs,rfl,rfl,hH,hB,hz,q⟩:=h;cases rx;obtain⟨u,rfl,ru⟩:=rv.one;cases ru;obtain⟨z,its,n,r,hl,e⟩:=I.lstM hH;obtain⟨z2,its2,n2,r2,hl2,e2⟩:=I.lstM hB;have hsz:its.toArray.size+its2.toArray.size<=YH:=by rw [Rc,Rc];omega
 have hlong:¬(!its.toArray.isEmpty && TY (its.toArray.size+its2.toArray.size))=true:=by
  rw [vh hsz,XU];exact Q5
 refine Zm F.slot_list_extend ⟨_,e,rfl⟩ F.entry_list_extend (F.args_list_extend_2 _ _)
  (VD l its.toArray n b its2.toArray n2 hlong (by rw [Rc];omega) Yr) ⟨e,e2,?_⟩
 refine⟨.non,_,I.lset (its':=its++its2) hH e Yv (r.append r2) ?_,rfl,q⟩;rw [Ra];omega
def IW:R2:=λx y H Q=>∃l k xs,x= .ref l/\y= .int k/\H l=some (.lst xs)/\-(2 ^ 63)<=k/\k < 2 ^ 63/\xs.length*k.toNat<=YH/\
 ∀p,H p=none->Q (.ref p) (ah H p (.lst (Ri k.toNat xs).flatten))
theorem IX{α:Type}(xs:List α)(k:Nat):(Ri k xs).flatten.length=k*xs.length:=by
 induction k with
 | zero=>simp
 | succ k ih=>rw [SR,Ut,Ra,ih,Nat.succ_mul,Nat.add_comm]
theorem IY:bG X (Y8 .Mult) IW:=by
 intro aac s σ H x y v u Q I rx ry h;obtain⟨l,k,xs,rfl,rfl,hH,h1,h2,hz,q⟩:=h;cases rx;obtain⟨t,rfl⟩:=ry;obtain⟨z,its,n,r,hl,e⟩:=I.lstM hH;have hlen:its.toArray.size*k.toNat<=YH:=by rw [Rc,<-hl];exact hz
 have hcap:¬its.toArray.size*k.toNat > (2 ^ 63 - 1)/ 8:=by
  have:(YH:Nat)<=(2 ^ 63 - 1)/ 8:=Yq
  omega
 have hfit:¬(!Um k)=true:=by
  rw [fitsIndex_both h1 h2];exact Q5
 have hlong:¬TY (its.toArray.size*k.toNat)=true:=by
  rw [vh hlen];exact Q5
 have hnew:XJ (λx1 x2=>x1++x2) #[] (Ri (if its.toArray.isEmpty=true then 0 else k.toNat) its.toArray)=(Ri k.toNat its).flatten.toArray:=by
  have f0:∀m:Nat,XJ (λx1 x2=>x1++x2) #[] (Ri m its.toArray)=(Ri m its).flatten.toArray:=λm=>by
   have:=BI its m [];rw [R7] at this;exact this
  rw [f0];cases its with
  | nil=>simp
  | cons a r'=>rw [Ys Yv]
 refine wpAny_binaryOp_repeat_ref (T:="list") (U:="int") Yq ⟨_,e,rfl⟩ (λs'=>typeIs_int s' k t) noFill_list_mul F.fills_int_mul F.slot_int_rmul repeat_list F.slot_int_index.lookup
  (Zm F.slot_int_rmul (typeIs_int s k t) F.entry_int_rmul (F.args_int_rmul_2 _ _) (int___rmul___int_list k t l its.toArray n)
    ⟨e,rfl,⟨_,e,rfl⟩,Zm F.slot_list_mul ⟨_,e,rfl⟩ F.entry_list_mul (F.args_list_mul_2 _ _) (AutoListH.list___mul___list_int_3 l its.toArray n k t hfit hcap hlong) ⟨e,?_⟩⟩)
 rw [hnew];exact⟨.ref _,_,I.lnew (t':=s.toks) (r.rep k.toNat) (by rw [IX,Nat.mul_comm];exact hz),rfl,q _ I.fresh⟩
end
end L2
namespace Att
open PySem PySem.W PySem.Calls PyProof.Rows
theorem IZ{P:Params}{h:YK}:∀(ns:List Int)(vs:List Yx),WellAll P h vs (ns.map UP)->YZ vs ns:=by
 intro ns
 induction ns with
 | nil=>
  intro vs w;rw [RW] at w;cases w;exact .nil
 | cons n ns ih=>
  intro vs w;rw [Q0] at w;cases w with
  | cons a b=>
   cases a;exact .cons _ _ (ih _ b)
theorem I0{l:OpenLaw}{n:Nat}(hn:l.most=some n){P:Params}{h:YK}{args:List WData}{vals:List Yx}
 (hpre:l.row.toRowW.claim.pre args=true)(hwl:WellAll P h vals args):
 ∃a vs ns,vals=[RM a]/\args=[Wk (ns.map UP)]/\h.get? a=some {cls:= .type "list",data:= .seq vs.toArray}/\YZ vs ns/\ns.length<=n:=by
 have hsh:WShape.hasAll [] args [.list .int]=true:=(pre_splitW hpre).1;have hc:l.pre.holds [] {args:=args}=true:=(pre_splitW hpre).2;obtain⟨d,r,rfl,h1,h2⟩:=hasAllW_cons hsh;obtain rfl:=hasAllW_nil h2;obtain⟨xs,rfl,h3⟩:=hasW_list h1;obtain⟨ns,rfl⟩:=items_int h3;have hlen:ns.length<=n:=by
  unfold OpenLaw.pre at hc;have h4:(WTm.not (.lt (.lit (.int (n:Int))) (.len (.arg 0)))).holds [] {args:=[.list (ns.map .int)]}=true:=by
   have h4:=(holds_andW hc).1;rw [hn] at h4;exact h4
  have h5:=condW_of h4 (w_not (w_lt w_lit (w_len_list (w_arg rfl))));rw [QW] at h5;refine TJ λq=>?_;have q':(n:Int) < ((ns.length:Nat):Int):=Yr
  first
   | (rw [decide_eq_true q'] at h5;exact absurd h5 Yq)
   | (simp at h5;omega)
 cases hwl with
 | cons w1 w2=>
  cases w2;cases w1 with
  | list ho hall=>exact⟨_,_,ns,rfl,rfl,ho,IZ ns _ hall,hlen⟩
theorem Ja(l:OpenLaw)(args:List WData):l.row.toRowW.claim.post args (.bool true) args=true:=
 postW_of (r:=l.row.toRowW) (X:=(true==true))
  (show WShape.has [] (.bool true) .bool=true by first | rfl | decide | simp [WShape.has,WShape.arms,WShape.armsAll])
  (show(WTm.eq .res (.lit (.bool true))).value [] {args:=args,res:=some (.bool true),after:=args}=some (.bool (true==true)) from w_eq_bool (w_res rfl) w_lit) rfl
end Att
namespace L2
open PySem PySem.Spec PyProof.Rows
theorem BK:∀{vs:List Yx}{ns:List Int},YZ vs ns->aI (ns.map V.int) vs
 | _,_,.nil=>.nil
 | _,_,.cons n t h=>.cons ⟨t,rfl⟩ (BK h)
def sj(H:Hp):Prop:=∀b,H b=none\/∃o xs,H b=some (.frz o (.lst xs))
theorem Jb{P:YI}{w:YJ}{K:QV}{mg mb:Str->Option Yx}{CX:fc}{k:Nat}{fa a:Yz}{fd:YG}{x:Str}{sp:Sp}{s₁:YA}{vs:List Yx}{ns:List Int}
 (KX:K.In s₁.heap)(hns:s₁.heap.Ns YM mg)(hb:s₁.heap.Ns builtinsNs mb)(hbb:∀x:Str,x≠"__name__"->mb x=YX x)(hlim:s₁.heap.NoLimit)(hg:s₁.gens=#[])
 (ha:s₁.heap.get? a=some {cls:= .type "list",data:= .seq vs.toArray})(hi:YZ vs ns)(hl:ns.length<=YH)(hr:bp k callerA)
 (F:∀base:YK,K.In base->base.Ns YM mg->aA P w K mg base CX k fa fd [x] sp)(hbind:∀(s:YA) (u:Yx),BindsTo s fd ⟨[u],[]⟩ [(x,u)])
 (hsp:∀H:Hp,sj H->bo K H a (ns.map V.int)->sp [.ref a] H (λv _=>v= .bl true) λ_ _ _=>False)
 (hCX:∀H e s',CX [] H s₁ (λ_ _ _=>False) e s'->False):
 Zq (YE P w) callerA (.call (.ref fa) ⟨[.ref a],[]⟩) (λr s'=>r= .ok (.ret (.bool true))/\OldK s₁.heap s'.heap/\s'.os=s₁.os/\ZQ s'.gens) s₁:=by
 have rv:=BK hi;have lenV:=hi.length;have core:∀H:Hp,sj H->bo K H a (ns.map V.int)->bK P w H s₁.heap->(∀b,H b≠none->b=a)->(H a≠none->K.lookup a=none)->
  Zq (YE P w) callerA (.call (.ref fa) ⟨[.ref a],[]⟩) (λr s'=>r= .ok (.ret (.bool true))/\OldK s₁.heap s'.heap/\s'.os=s₁.os/\ZQ s'.gens) s₁:=by
  intro H hO hS hok hA hK;have base_of:∀{b:Yz}{o:Obj},s₁.heap.get? b=some o->H b=none->(jI s₁.heap H).get? b=some o:=λe n=>Hm e n;have noA:∀{b:Yz}{o:Obj}{es:Array Z4}{ep:Nat},s₁.heap.get? b=some o->o.data= .dict es ep->H b=none:=λ{b o es ep} e d=>by
   cases q:H b with
   | none=>rfl
   | some u=>
    have e':b=a:=hA b (by rw [q];simp);subst e';rw [ha] at e;cases e;have d':Data.seq vs.toArray _=Data.dict es ep:=d;cases d'
  have nsK:∀{b:Yz}{m:Str->Option Yx},s₁.heap.Ns b m->(jI s₁.heap H).Ns b m:=λ{b m} ⟨o,es,ep,e,d,r⟩=>⟨o,es,ep,base_of e (noA e d),d,r⟩;have hKb:K.In (jI s₁.heap H):=λb o e=>base_of (KX b o e) (by
   cases q:H b with
   | none=>rfl
   | some u=>
    have e':b=a:=hA b (by rw [q];simp);subst e';rw [hK (by rw [q];simp)] at e;cases e)
  have hM:Mod K mg (jI s₁.heap H):=⟨hKb,nsK hns,⟨mb,nsK hb,hbb⟩,let ⟨mc,h1,h2⟩:=hlim;⟨mc,nsK h1,h2⟩⟩;have e0:jb P w K mg (jI s₁.heap H) callerA [] s₁ H:=⟨rfl,hM,λb o e=>Hn e,Xa (Hl _ _),trivial,λb hb=>absurd (show b∈([]:List Yz) from hb) Yv,hok,.of_eq hg⟩;refine Zn ((F _ hKb (nsK hns)).run callerA [] s₁ H ⟨[.ref a],[]⟩ [.ref a] [.ref a] _ _ hr e0 (hbind s₁ (.ref a)) (.cons rfl .nil) (hsp H hO hS)) λr s' h=>?_;cases r with
  | error e=>exact(hCX H e s' h).elim
  | ok fl=>
   cases fl with
   | next=>exact S0 h
   | brk=>exact S0 h
   | cont=>exact S0 h
   | ret u=>
    obtain⟨v,H',os,bare,un,hok',r',q⟩:=h;have q':v= .bl true:=q;subst q';obtain rfl:u=UL true:=r';refine⟨rfl,OldK.of_keep λb o e=>?_,os,bare⟩;cases q:H b with
    | none=>exact un.keep b o e q (by intro z;exact absurd (show b∈([]:List Yz) from z) Yv) Yv
    | some u=>
     rcases hO b with z | ⟨ob,xs,z⟩
     ·rw [q] at z;cases z
     ·have z2:=un.frzs b ob _ z;obtain⟨e1,_⟩:=hok b _ z;obtain⟨e2,_⟩:=hok' b _ z2;rw [e] at e1;cases e1;exact e2
 cases hk:K.lookup a with
 | some o=>
  have e:=KX a o hk;rw [ha] at e;cases e;refine core (λ_=>none) (λ_=>.inl rfl) (.inr ⟨_,vs.toArray,_,hk,rfl,rfl,rfl,by rw [Rc,lenV];exact hl,by simpa using rv⟩) (λb u z=>by have z':(none:Option HO)=some u:=z;cases z') (λb z=>absurd rfl z) λz=>absurd rfl z
 | none=>
  refine core (λb=>if b=a then some (.frz {cls:= .type "list",data:= .seq vs.toArray} (.lst (ns.map V.int))) else none) (λb=>?_) (.inl (.inr ⟨{cls:= .type "list",data:= .seq vs.toArray},Yt rfl⟩)) (λb u z=>?_) (λb z=>?_) λ_=>hk
  ·by_cases hb:b=a
   ·exact .inr ⟨_,_,Yt hb⟩
   ·exact .inl (Ys hb)
  ·by_cases hb:b=a
   ·have z':=(Yt hb).symm.trans z;cases z';subst hb;exact⟨ha,by rw [QW];exact hl,vs,_,rv,ha⟩
   ·have z':=(Ys hb).symm.trans z;cases z'
  ·by_cases hb:b=a
   ·exact hb
   ·exact absurd (Ys hb) z
abbrev KOf{K:QV}{h:YK}(_:K.In h):QV:=K
def inClass(s:YL)(j:Nat):YL:=match s with
 | .ClassDef _ _ _ body _ _ _ _ _ _ _=>body.getD j (.Pass ⟨0,0,0,0⟩)
 | _=>.Pass ⟨0,0,0,0⟩
def jd(s:YL):Arguments:=match s with
 | .FunctionDef _ a _ _ _ _ _ _ _ _=>a
 | _=>{posonlyargs:=[],args:=[],vararg:=none,kwonlyargs:=[],kw_defaults:=[],kwarg:=none,defaults:=[]}
def fu(s:YL):List YL:=match s with
 | .FunctionDef _ _ b _ _ _ _ _ _ _=>b
 | _=>[]
def av(s:YL):Za:=match s with
 | .FunctionDef _ _ _ _ _ _ sc _ _ _=>sc
 | _=>{kind:= .function,names:=[],isGenerator:=false,isCoroutine:=false}
abbrev CX0:fc:=λ_ _ _ _ _ _=>False
abbrev E0:XK:=λ_ _ _=>False
theorem fx{X:Cx}:hJ CX0 X E0:=λ_ _ _ _ _ _ _ h=>h.elim
structure eB (K:QV) (x qual:Str) (st:YL) (f:Yz) (fd:YG):Prop where
 ex:∃(oc:Yx)(od:Option Yz)(kV doc pm:Yx)(an:Option Yz)(cdv ct:Yx)(osl:Array (Option Yx)),
  fd=Te x qual (jd st) (fu st) (av st) .none kV doc pm an cdv ct/\K.lookup f=some ⟨oc,od,.func fd,osl⟩/\Vr K cdv qual=true
 kp:S9 K (.ref f)=true
section
variable {P:YI} {w:YJ} {K:QV} {mg:Str->Option Yx} {base:YK}
theorem eB.ok{x qual:Str}{st:YL}{f:Yz}{fd:YG}{N ps:List Str}{k:Nat}{sp:Sp}(F:eB K x qual st f fd)(S:aO N ps (av st))(len:∀vs H Q E,sp vs H Q E->vs.length=ps.length)
 (hbody:∀(cdv:Yx) (A:YN) (outer:List Env) (s:YA) (H:Hp) (vs:List V) (Q:VK) (E:XK),bp k (A.deeper (Zx qual (av st) s.heap.objs.size f cdv))->sp vs H Q E->
   ∃t,bP (iB CX0 P w K mg base N qual (av st) f cdv A outer s H E).nox (fu st) t/\t {nx:=λ_ H'=>Q .non H',rt:=Q} (start N vs) H):aA P w K mg base CX0 (k+1) f fd ps sp:=by
 obtain⟨oc,od,kV,doc,pm,an,cdv,ct,osl,rfl,lk,hcd⟩:=F.ex;refine Ip lk hcd S len λA outer s H vs Q E hr hsp=>?_;obtain⟨t,h,q⟩:=hbody cdv A outer s H vs Q E hr hsp;exact⟨t,h.nox,q⟩
theorem eB.binds{x qual:Str}{st:YL}{f:Yz}{fd:YG}{ps:List Str}(F:eB K x qual st f fd)
 (h:∀(kV doc pm:Yx) (an:Option Yz) (cdv ct:Yx) (us:List Yx),us.length=ps.length->bindArgs (Te x qual (jd st) (fu st) (av st) .none kV doc pm an cdv ct) ⟨us,[]⟩=pure (ps.zip us)):cT K fd ps []:=by
 obtain⟨oc,od,kV,doc,pm,an,cdv,ct,osl,rfl,lk,hcd⟩:=F.ex;exact .all (h kV doc pm an cdv ct)
theorem BL{x qual:Str}{st:YL}{f:Yz}{oc:Yx}{od an:Option Yz}{osl:Array (Option Yx)}{kV doc pm cdv ct:Yx}(l:K.lookup f=some ⟨oc,od,.func (Te x qual (jd st) (fu st) (av st) .none kV doc pm an cdv ct),osl⟩)
 (c:Vr K cdv qual=true)(k:S9 K (.ref f)=true):eB K x qual st f (Te x qual (jd st) (fu st) (av st) .none kV doc pm an cdv ct):=⟨⟨oc,od,kV,doc,pm,an,cdv,ct,osl,rfl,l,c⟩,k⟩
end
section
variable {X:Cx}
theorem pv(i:Nat){x:Str}{pos:Pos}(hN:X.N[i]?=some x:=by rfl)(hv:qc X.env.scope x:=by first | exact WR rfl | exact VJ (WR rfl) | exact VJ (VJ rfl))(hd:(x==("__debug__":Str))=false:=by decide)
 (hcd:(x==("__classdict__":Str))=false:=by decide):PE X (.Name x pos) (cK i):=uM hN hv hd hcd
end
def au(H H':Hp):Prop:=∀b o,H b=some o->H' b=some o
theorem au.refl(H:Hp):au H H:=λ_ _ h=>h
theorem au.trans{H H1 H2:Hp}(a:au H H1)(b:au H1 H2):au H H2:=λc o h=>b c o (a c o h)
theorem Jc(a b:Int):nQ (.int a) (.int b)=true:=rfl
theorem Jd(a b:Str):nQ (.str a) (.str b)=true:=rfl
theorem Je(a b:Bool):nQ (.bl a) (.bl b)=true:=rfl
theorem Jf(b:Int):nQ .non (.int b)=true:=rfl
theorem Jg(b:Int):nQ (.int b) .non=true:=rfl
def fQ(env:Env)(names:List (Str×Y9))(cs:List (Str×Yz)):List (Str×Yz):=
 names.foldl (λcs p=>if (p.2==SJ)=true then(p.1,(env.cells.lookup p.1).getD 0)::cs else cs) cs
theorem BM{scope:Za}{env:Env}(h:∀y∈scope.names,y.2= .free->∃c,env.cells.lookup y.1=some c):closureFor scope env=pure (fQ env scope.names []):=by
 unfold closureFor;have key:∀(l:List (Str×Y9))(cs:List (Str×Yz)),(∀y∈l,y.2= .free->∃c,env.cells.lookup y.1=some c)->
  (forIn l cs λ(x:Str×Y9) (r:List (Str×Yz))=>(if (x.2==SJ)=true then do let a<-cellOf env x.1;pure (UQ ((x.1,a)::r)) else pure (UQ r):Sem (ForInStep (List (Str×Yz)))))=pure (fQ env l cs):=by
  intro l
  induction l with
  | nil=>intro cs _;rfl
  | cons p r ih=>
   intro cs hl;rw [XM];by_cases hk:(p.2==SJ)=true
   ·obtain⟨c,hc⟩:=hl p RK (by simpa using hk);rw [Yt hk];have e:cellOf env p.1=pure c:=by unfold cellOf;rw [hc]
    rw [e];simp only [pure_bind];rw [ih _ λy hy=>hl y (Ru _ hy)];unfold fQ;rw [RX,Yt hk,hc];rfl
   ·rw [Ys hk];simp only [pure_bind];rw [ih _ λy hy=>hl y (Ru _ hy)];unfold fQ;rw [RX,Ys hk]
 have:=key scope.names [] h;simp only [bind_pure];exact this
theorem vi{env:Env}:∀(l:List (Str×Y9))(cs:List (Str×Yz)){x:Str}{c:Yz},(∀y∈l,y.2= .free->∃c,env.cells.lookup y.1=some c)->(∀y d,cs.lookup y=some d->env.cells.lookup y=some d)->
 (fQ env l cs).lookup x=some c->env.cells.lookup x=some c
 | [],cs,x,c,_,hc,h=>hc x c h
 | p::r,cs,x,c,hl,hc,h=>by
  unfold fQ at h;rw [RX] at h;by_cases hk:(p.2==SJ)=true
  ·rw [Yt hk] at h;refine vi r _ (λy hy=>hl y (Ru _ hy)) (λy d e=>?_) h;obtain⟨a,ha⟩:=hl p RK (by simpa using hk);rw [RG] at e;cases hx:y==p.1 with
   | true=>
    rw [hx] at e;have hy:y=p.1:=by simpa using hx
    rw [ha] at e;cases e;rw [hy];exact ha
   | false=>rw [hx] at e;exact hc y d e
  ·rw [Ys hk] at h;exact vi r cs (λy hy=>hl y (Ru _ hy)) hc h
theorem vj{env:Env}:∀(l:List (Str×Y9))(cs:List (Str×Yz)){x:Str},(∃c,cs.lookup x=some c)->∃c,(fQ env l cs).lookup x=some c
 | [],cs,x,h=>h
 | p::r,cs,x,⟨c,h⟩=>by
  unfold fQ;rw [RX];by_cases hk:(p.2==SJ)=true
  ·rw [Yt hk];refine vj r _ ?_;rw [RG];cases hx:x==p.1 with
   | true=>exact⟨_,rfl⟩
   | false=>exact⟨c,h⟩
  ·rw [Ys hk];exact vj r cs ⟨c,h⟩
theorem vk{env:Env}:∀(l:List (Str×Y9))(cs:List (Str×Yz)){x:Str},(x,SJ)∈l->∃c,(fQ env l cs).lookup x=some c
 | [],_,_,h=>by simp at h
 | p::r,cs,x,h=>by
  unfold fQ;rw [RX];rcases Q4.mp h with e | e
  ·subst e;rw [Yt (by rfl)];exact vj r _ ⟨(env.cells.lookup x).getD 0,by rw [RG];simp⟩
  ·exact vk r _ e
theorem Jh{env:Env}{scope:Za}{x:Str}(h:(relabel scope env).names.lookup x=some .cell\/(relabel scope env).names.lookup x=some .free):scope.names.lookup x=some .free\/scope.names.lookup x=some .cell:=by
 have key:∀(l:List (Str×Y9)),
  ((l.map λ(n,k)=>if (k==SJ && env.scope.kind== .function && env.kindOf n==some .cell) then(n,Vz) else(n,k)).lookup x=some .cell\/
  (l.map λ(n,k)=>if (k==SJ && env.scope.kind== .function && env.kindOf n==some .cell) then(n,Vz) else(n,k)).lookup x=some .free)->l.lookup x=some .free\/l.lookup x=some .cell:=by
  intro l
  induction l with
  | nil=>intro h;simp at h
  | cons p r ih=>
   obtain⟨n,k⟩:=p;intro h;rw [Q0] at h;rw [RG];by_cases hx:x=n
   ·subst hx;rw [beq_self_eq_true];by_cases hq:(k==SJ && env.scope.kind== .function && env.kindOf x==some .cell)=true
    ·have:k= .free:=by simp only [R5,beq_iff_eq] at hq;exact hq.1.1
     subst this;exact .inl rfl
    ·simp only [Ys hq,RG,beq_self_eq_true] at h;exact h.symm
   ·have hb:(x==n)=false:=by simpa using hx
    rw [hb];refine ih ?_;by_cases hq:(k==SJ && env.scope.kind== .function && env.kindOf n==some .cell)=true
    ·simpa only [Yt hq,RG,hb] using h
    ·simpa only [Ys hq,RG,hb] using h
 exact key scope.names h
theorem vo{env:Env}{scope:Za}{x:Str}(h:scope.names.lookup x=some .cell\/scope.names.lookup x=some .free):(relabel scope env).names.lookup x=some .cell\/(relabel scope env).names.lookup x=some .free:=by
 have key:∀(l:List (Str×Y9)),l.lookup x=some .cell\/l.lookup x=some .free->
  ((l.map λ(n,k)=>if (k==SJ && env.scope.kind== .function && env.kindOf n==some .cell) then(n,Vz) else(n,k)).lookup x=some .cell\/
  (l.map λ(n,k)=>if (k==SJ && env.scope.kind== .function && env.kindOf n==some .cell) then(n,Vz) else(n,k)).lookup x=some .free):=by
  intro l
  induction l with
  | nil=>intro h;simp at h
  | cons p r ih=>
   obtain⟨n,k⟩:=p;intro h;rw [Q0];by_cases hx:x=n
   ·subst hx;rw [RG,beq_self_eq_true] at h;by_cases hq:(k==SJ && env.scope.kind== .function && env.kindOf x==some .cell)=true
    ·left;simp only [Yt hq,RG,beq_self_eq_true]
    ·simp only [Ys hq,RG,beq_self_eq_true];exact h
   ·have hb:(x==n)=false:=by simpa using hx
    rw [RG,hb] at h;by_cases hq:(k==SJ && env.scope.kind== .function && env.kindOf n==some .cell)=true
    ·simpa only [Yt hq,RG,hb] using ih h
    ·simpa only [Ys hq,RG,hb] using ih h
 exact key scope.names h
structure bb (sc:Za) (N N':List Str) (k:Nat) (fr:List Nat) (scope:Za):Prop where
 kind:scope.kind= .function
 cell:∀y∈scope.names,y.2= .cell->scope.names.lookup y.1=some .cell
 names:∀y∈scope.names,y.2= .local->scope.names.lookup y.1=some .local
 nd:N'.Nodup
 slot:fr.map (λj=>N[j]?)=(N'.drop k).map some
 frees:∀x∈N'.drop k,scope.names.lookup x=some .free
 outer:∀y∈scope.names,y.2= .free->sc.names.lookup y.1=some .cell\/sc.names.lookup y.1=some .free
 outer':∀x∈N'.drop k,sc.names.lookup x=some .cell\/sc.names.lookup x=some .free
 len:N'.length=k+fr.length
theorem bb.rel{sc:Za}{N N':List Str}{k:Nat}{fr:List Nat}{scope:Za}{e:Env}(S:bb sc N N' k fr scope):bb (relabel sc e) N N' k fr scope:=
 ⟨S.kind,S.cell,S.names,S.nd,S.slot,S.frees,λy h1 h2=>vo (S.outer y h1 h2),λx h=>vo (S.outer' x h),S.len⟩
theorem sk:∀(l:List (Str×Y9)){n:Nat}{a:List (Str×Yz)}{x:Str}{c:Yz},(Y5 n l a).lookup x=some c->n<=c\/a.lookup x=some c
 | [],_,_,_,_,h=>.inr h
 | (y,k)::r,n,a,x,c,h=>by
  unfold Y5 at h;split at h
  ·rcases sk r h with z | z
   ·exact .inl Yr
   ·rw [RG] at z;split at z
    ·exact .inl (by cases z;exact QY _)
    ·exact .inr z
  ·exact sk r h
theorem vp:∀(l:List (Str×Y9)){n:Nat}{a:List (Str×Yz)}{x:Str}{c:Yz},l.lookup x=some .cell->(Y5 n l a).lookup x=some c->n<=c
 | [],_,_,_,_,e,_=>nomatch e
 | (y,k)::r,n,a,x,c,e,h=>by
  unfold Y5 at h;rw [RG] at e;cases hx:x==y with
  | true=>
   rw [hx] at e;cases e;have h:UR x (Y5 (n+1) r ((y,n)::a))=some c:=h;rcases sk r h with z | z
   ·exact Wg z
   ·rw [RG,hx] at z;cases z;exact QY _
  | false=>
   rw [hx] at e;split at h
   ·exact Wg (vp r e h)
   ·exact vp r e h
theorem vq:∀(l:List (Str×Y9)){n:Nat}{a:List (Str×Yz)}{x:Str},(∀y∈l,y.2= .cell->y.1≠x)->(Y5 n l a).lookup x=a.lookup x
 | [],_,_,_,_=>rfl
 | (y,k)::r,n,a,x,h=>by
  unfold Y5;split
  ·rename_i hk;rw [vq r λz hz=>h z (Ru _ hz),RG];have:(x==y)=false:=by simpa using Ne.symm (h (y,k) RK (by simpa using hk))
   rw [this]
  ·exact vq r λz hz=>h z (Ru _ hz)
theorem vt:∀(l:List (Str×Y9)){n:Nat}{a:List (Str×Yz)},(∀x c,a.lookup x=some c->c < n)->(∀x y c,a.lookup x=some c->a.lookup y=some c->x=y)->∀x y c,(Y5 n l a).lookup x=some c->(Y5 n l a).lookup y=some c->x=y
 | [],_,_,_,h=>h
 | (z,k)::r,n,a,hl,hi=>by
  unfold Y5;split
  ·have one:∀x c,((z,n)::a).lookup x=some c->x=z/\c=n\/c < n/\a.lookup x=some c:=λx c e=>by
    rw [RG] at e;cases hx:x==z with
    | true=>rw [hx] at e;cases e;exact .inl ⟨by simpa using hx,rfl⟩
    | false=>rw [hx] at e;exact .inr ⟨hl x c e,e⟩
   refine vt r (λx c e=>?_) λx y c e1 e2=>?_
   ·rcases one x c e with⟨_,z⟩ | ⟨z,_⟩
    ·rw [z];exact S4 _
    ·exact Sv z
   ·rcases one x c e1 with⟨a1,b1⟩ | ⟨a1,b1⟩ <;> rcases one y c e2 with⟨a2,b2⟩ | ⟨a2,b2⟩
    ·rw [a1,a2]
    ·omega
    ·omega
    ·exact hi x y c b1 b2
  ·exact vt r hl hi
theorem vv:∀(l:List (Str×Y9)){h:YK}{a:List (Str×Yz)},(∀x c,a.lookup x=some c->∃v,h.IsCell c v)->∀x c,(Y5 h.objs.size l a).lookup x=some c->∃v,(pushCells h l).IsCell c v
 | [],_,_,h=>h
 | (z,k)::r,h,a,ha=>by
  unfold Y5 pushCells;split
  ·have:=vv r (h:=h.push {cls:= .type "cell",data:= .cell none}) (a:=(z,h.objs.size)::a) λx c e=>by
    rw [RG] at e;split at e
    ·cases e;exact⟨none,_,Rl _ rfl,rfl⟩
    ·obtain⟨v,q⟩:=ha x c e;exact⟨v,q.keeps λb o e=>Q1 _ e⟩
   rwa [TM] at this
  ·exact vv r ha
def sr(X:Cx)(scope:Za)(C:Yz):List (Str×Yz):=Y5 (C+1) scope.names (fQ X.env scope.names [])
def bF(X:Cx)(scope:Za)(N':List Str)(fp:List Yz)(C:Yz)(s:YA)(H:Hp):Cx where
 prog:=X.prog
 w:=X.w
 K:=X.K
 mg:=X.mg
 base:=X.base
 A:=X.A
 N:=N'
 s₀:=s
 H₀:=H
 env:=compEnvC scope (sr X scope C) C X.env
 outer:=X.stack
 stack:=X.stack
 ex:=fp
 fn:=λx=>scope.names.lookup x==some .cell
 calm:=X.calm
 pn:=[]
 xe:=λ_ _=>False
def bB(k:Nat)(fr:List Nat)(σ:St):St:=Ri k none++fr.map λj=>(σ[j]?).join
def nT(σ σ':St):Prop:=σ.length=σ'.length/\∀(i:Nat) v,σ[i]?=some (some v)->σ'[i]?=some (some v)
section
variable {X:Cx} {aac:List (Yz×Obj)} {σ:St} {H:Hp} {s:YA} {scope:Za} {N':List Str} {k:Nat} {fr:List Nat} {fp:List Yz}
theorem vw(S:bb X.env.scope X.N N' k fr scope)(I:ag X aac σ H s):∀x c,(fQ X.env scope.names []).lookup x=some c->X.env.cells.lookup x=some c:=λx c e=>vi scope.names [] (λy hy e=>I.ok.has y.1 (S.outer y hy e)) (λ_ _ z=>by simp at z) e
theorem BN(S:bb X.env.scope X.N N' k fr scope)(I:ag X aac σ H s){x:Str}{c:Yz}(e:(sr X scope s.heap.objs.size).lookup x=some c):s.heap.objs.size < c\/X.env.cells.lookup x=some c:=
 (sk _ e).imp (λz=>z) λz=>vw S I x c z
theorem Ji(S:bb X.env.scope X.N N' k fr scope)(I:ag X aac σ H s)(hf:∀b∈fp,iz X aac H b)(hlt:∀b∈fp,b < s.heap.objs.size):
 (bF X scope N' fp s.heap.objs.size s H).Ok:=by
 have hcl:=vw S I;refine⟨I.ok.mod,S.kind,I.ok.glob,I.ok.blt,QY _,vt _ (λx c e=>?_) (λx y c h1 h2=>I.ok.inj x y c (hcl x c h1) (hcl y c h2)),λx hx=>UB.mp (Vw _ _ _ ?_),λx c h e=>Wg (vp _ (eq_of_beq h) e),I.ok.hd,I.ok.frames,.inl rfl,λb hb=>⟨RH (hlt b hb),λx c e=>?_⟩,
  I.bs,Rx I.ok.bsz I.sz,λb o e hb=>?_,λb hb hb'=>?_,I.stack,I.stkFree⟩
 ·obtain⟨v,o,ho,_⟩:=I.cell x c (hcl x c e);exact Sv (Rh ho)
 ·rcases Jh hx with z | z
  ·exact .inr (UB.mpr (vk _ _ (Tw z)))
  ·exact .inl z
 ·rcases BN S I e with z | z
  ·exact λq=>absurd (hlt b hb) (by rw [<-q];exact Nat.lt_asymm z)
  ·exact(hf b hb).2.2.2.2.1 x c z
 ·rcases(hf b hb).2.2.2.1 with z | z
  ·exact I.ok.noex b o e z
  ·exact absurd (R6 (Rh e) (Rx I.ok.bsz z)) (S5 _)
 ·rcases Q4.mp (I.stkSub b hb') with z | z
  ·exact(hf b hb).2.1 z
  ·exact(hf b hb).2.2.1 z
theorem Jj(S:bb X.env.scope X.N N' k fr scope)(I:ag X aac σ H s)(hf:∀b∈fp,iz X aac H b)(hlt:∀b∈fp,b < s.heap.objs.size){o:Obj}{h':YK}(e':h'=pushCells (s.heap.push o) scope.names)
 (hn:h'.Ns s.heap.objs.size (λ_=>none))(hk:∀b o,s.heap.get? b=some o->h'.get? b=some o):
 ag (bF X scope N' fp s.heap.objs.size s H) [] (bB k fr σ) H {s with heap:=h'}:=by
 have hcl:=vw S I;refine⟨Ji S I hf hlt,rfl,I.bare,Un.kept hk,⟨_,hn,λi x v h1 h2 h3=>?_⟩,λx c e=>?_,I.hok.fresh (QY _),λx c e=>?_,λp hp=>absurd hp (by simp [bF]),I.hok.kept hk,?_⟩
 ·have hi:k<=i:=by
   rcases Tf i k with z | z
   ·exfalso;unfold bB at h2;rw [R4 (by simpa using z),T9,Yt z] at h2;cases h2
   ·exact z
  have h2':(fr.map λj=>(σ[j]?).join)[i - k]?=some (some v):=by
   unfold bB at h2;rw [Ss (by simpa using hi)] at h2;simpa using h2
  have h1':(N'.drop k)[i - k]?=some x:=by
   rw [List.getElem?_drop,Nat.add_sub_cancel' hi];exact h1
  have hmem:x∈N'.drop k:=RA h1';have e2:(fr.map λj=>X.N[j]?)[i - k]?=some (some x):=by
   rw [S.slot,Q9,h1'];rfl
  obtain⟨j,hj,ej⟩:∃j,fr[i - k]?=some j/\X.N[j]?=some x:=by
   rw [Q9] at e2;cases e:fr[i - k]? with
   | none=>rw [e] at e2;cases e2
   | some j=>rw [e] at e2;exact⟨j,rfl,R3 e2⟩
  have hv:σ[j]?=some (some v):=by
   rw [Q9,hj] at h2';have h3':(σ[j]?).join=some v:=R3 h2';cases e:σ[j]? with
   | none=>rw [e] at h3';cases h3'
   | some o=>rw [e] at h3';rw [show o=some v from h3']
  obtain⟨m,hn0,hl⟩:=I.loc;have ho:=S.outer' x hmem;obtain⟨u,ru,lk⟩:=hl j x v ej hv (.inr ho);refine⟨u,ru,.inr ⟨vo (.inr (S.frees x hmem)),?_⟩⟩;rcases lk with⟨z,_⟩ | ⟨_,c,hc,hx⟩
  ·exfalso;rcases ho with ho | ho
   ·exact absurd (z.symm.trans ho) Yv
   ·exact absurd (z.symm.trans ho) Yv
  ·obtain⟨c',hc'⟩:=vk (env:=X.env) scope.names [] (Tw (S.frees x hmem));have:=hcl x c' hc';rw [hc] at this;cases this;obtain⟨o,ho,hd⟩:=hx;exact⟨c,(vq _ λy hy ey ex=>by have q:=S.cell y hy ey;rw [ex,S.frees x hmem] at q;cases q).trans hc',o,hk c o ho,hd⟩
 ·subst e';have:=vv scope.names (h:=s.heap.push o) (a:=fQ X.env scope.names []) (λx c e=>by
   obtain⟨v,q⟩:=I.cell x c (hcl x c e);exact⟨v,q.keeps λb o e=>Q1 _ e⟩) x c
  rw [TM] at this;exact this e
 ·rcases BN S I e with z | z
  ·exact I.hok.fresh (TV z)
  ·exact I.freeC x c z
 ·unfold bB;show _=N'.length;rw [Ra,VE,QW,S.len]
end
section
variable {prog:YI} {w:YJ} {A:YN} {E:Yx->YA->Prop} {R:Result->YA->Prop} {s:YA}
theorem Jk{elt target iter:YF}{ifs:List YF}{scope:Za}{pos:Pos}{it acc:Yx}{env:Env}(I:Nat->YA->Prop)
 (turn:∀n s,I n s->YC (YE prog w) A (Zr it) (λr s₁=>match r with
  | none=>R (.ok .next) s₁
  | some v=>YC (YE prog w) A (ZU target it v) (λ_ s₁'=>YC (YE prog w) A (assign target env v) (λ_ s₂=>
   YC (YE prog w) A (forIn ifs true λc r=>if r=true then do let ok<-isTrue c env (eval c env);pure (UQ ok) else pure (UQ r)) (λok s₃=>
    if ok=true then YC (YE prog w) A (eval elt env) (λx s₄=>
     YC (YE prog w) A (call (.builtin "list.append") [acc,x]) (λ_ s₅=>∃m,m < n/\I m s₅) (λ_ _=>False) s₄) (λ_ _=>False) s₃
    else ∃m,m < n/\I m s₃) (λ_ _=>False) s₂) (λ_ _=>False) s₁') (λ_ _=>False) s₁) (λ_ _=>False) s)
 (n:Nat)(h:I n s):
 Zq (YE prog w) A (.compLoop (.ListComp elt [⟨target,iter,ifs,0⟩] scope pos) 0 it acc env) R s:=by
 refine codeAny_loop rfl I (λn s hI=>?_) n h;show YC _ A ((compTurn (.ListComp elt [⟨target,iter,ifs,0⟩] scope pos) 0 it acc env).onRaise (λx=>do noteFrame x env;theTreesLotGoes x)) _ _ s;refine wpAny_noted ?_;rw [compTurn_list];refine Yy (wpAny_standAt (Yy (YY (turn n s hI) (λr s₁ h₁=>?_) λ_ _ h'=>h'.elim)));cases r with
 | none=>exact YB h₁
 | some v=>
  refine Yy (YY h₁ (λ_ s₁' h₁'=>?_) λ_ _ h'=>h'.elim);refine Yy (YY h₁' (λ_ s₂ h₂=>Yy (YY h₂ (λok s₃ h₃=>?_) λ_ _ h'=>h'.elim)) λ_ _ h'=>h'.elim);cases ok with
  | false=>exact YB ⟨rfl,h₃⟩
  | true=>
   exact Yy (Yy (YY h₃ (λx s₄ h₄=>Yy (YY h₄ (λ_ s₅ h₅=>YB (YB ⟨rfl,h₅⟩)) λ_ _ h'=>h'.elim)) λ_ _ h'=>h'.elim))
end
def fy(X:Cx)(ifs:List YF)(t:TT):Prop:=
 ∀(aac:List (Yz×Obj))(s:YA)(σ:St)(H:Hp)(Q:Bool->Hp->Prop),ag X aac σ H s->t σ H Q->
  YC (YE X.prog X.w) X.A (forIn ifs true λc r=>if r=true then do let ok<-isTrue c X.env (eval c X.env);pure (UQ ok) else pure (UQ r)) (TP X aac σ Q) X.xe s
def BO:TT:=λ_ H Q=>Q true H
theorem BP{X:Cx}:fy X [] BO:=λaac s σ H Q I h=>wpAny_tests_nil ⟨H,I,h⟩
theorem cZ{X:Cx}{c:YF}{t:TT}(h:PT X c t):fy X [c] t:=λaac s σ H Q I hq=>wpAny_tests_one (h aac s σ H Q I hq)
theorem bK.but{P:YI}{w:YJ}{H:Hp}{h h':YK}{C:Yz}(x:bK P w H h)(hC:H C=none)(k:∀b o,b≠C->h.get? b=some o->h'.get? b=some o):bK P w H h':=λa o e=>by
 refine(x a o e).stay (λb u hb q=>k b u ?_ q) (λ_ q=>q) λ_ _ q=>q;intro z;subst z;rcases hb with z | z
 ·rw [<-z,hC] at e;cases e
 ·rw [hC] at z;cases z
theorem Jl{M:Model}{A:YN}{E:Yx->YA->Prop}{s:YA}{scope:Za}{g:Yz}{cl:List (Str×Yz)}{qual:Str}{e:Env}{Q:Env->YA->Prop}
 (hQ:∀h',h'=pushCells (s.heap.push {cls:= .type "dict",data:= .dict #[]}) scope.names->h'.Ns s.heap.objs.size (λ_=>none)->(∀b o,s.heap.get? b=some o->h'.get? b=some o)->
  Q (newEnv scope s.heap.objs.size g (Y5 (s.heap.objs.size+1) scope.names cl) qual none .none (some e) builtinsNs) {s with heap:=h'}):
 YC M A (newFunctionEnv scope g cl [] qual none .none (some e)) Q E s:=by
 simp only [newFunctionEnv,Xe,if_true];refine Yy (wpAny_alloc (Yy (wpAny_layCells _ (λname kind cells=>by cases hkc:kind==Vz <;> simp [hkc]) _ _ _ _ ?_)));rw [show({s with heap:=s.heap.push {cls:= .type "dict",data:= .dict #[]}}:YA).heap.objs.size=s.heap.objs.size+1 from TM ..];rw [XW];exact Yy (YB (YB (hQ _ rfl ((Heap.Ns.new s.heap (.type "dict")).keeps (pushCells_keeps _ _)) λb o e=>pushCells_keeps _ _ b o (Q1 _ e))))
def lT(wi:TI)(g:TG)(tc:TT)(te:TE)(k:Nat)(fr:List Nat):TE:=λσ H Q=>wi σ H λJ H1=>∀D,H1 D=none->∃W:Nat->Nat->Hp->Prop,(∃m,W 0 m (ah H1 D (.lst [])))/\∀i m H,W i m H->
 (J.stop i H/\Q (.ref D) H)\/(J.go i H/\∀x H',J.yld i H x H'->g x (bB k fr σ) H' λσ2 H2=>nT (bB k fr σ) σ2/\tc σ2 H2 λok H3=>
  if ok=true then te σ2 H3 λy H4=>∃ys,H4 D=some (.lst ys)/\ys.length < YH/\∃m',m' < m/\W (i+1) m' (ah H4 D (.lst (ys++[y])))
  else ∃m',m' < m/\W (i+1) m' H3)
section
variable {X:Cx} {tg iter elt:YF} {ifs:List YF} {scope:Za} {N':List Str} {k:Nat} {fr:List Nat} {wi:TI} {g:TG} {tc:TT} {te:TE} {pos:Pos}
theorem BQ{use:Option (Yx->Sem Unit)}{Q':Yx->YA->Prop}{aac:List (Yz×Obj)}{s:YA}{σ:St}{H:Hp}{Q:VK}(hc:X.calm=true)(S:bb X.env.scope X.N N' k fr scope)(hi:PI X tg iter wi)
 (hg:∀fp C s H,PG (bF X scope N' fp C s H) tg g)(hf:∀fp C s H,fy (bF X scope N' fp C s H) ifs tc)(he:∀fp C s H,PE (bF X scope N' fp C s H) elt te)
 (I:ag X aac σ H s)(h:lT wi g tc te k fr σ H Q)
 (hQ:∀D C s' H',C≠X.env.locals->ag X aac σ H' s'->(∀h',Tx C s'.heap h'->ag X aac σ H' {s' with heap:=h'})->Q (.ref D) H'->(∃m,s'.heap.Ns C m)->X.env.locals < C->H' C=none/\(∀x c,X.env.cells.lookup x=some c->c≠C)/\(∀p∈X.pn++aac,p.1≠C)->compPost (YE X.prog X.w) X.A X.xe use Q' (.ref D) C (.ok .next) s'):
 YC (YE X.prog X.w) X.A (eval iter X.env) (λx s₁=>YC (YE X.prog X.w) X.A (pyIter x) (λit s₂=>YC (YE X.prog X.w) X.A (newList []) (λacc s₃=>
  YC (YE X.prog X.w) X.A (newFunctionEnv scope X.env.globals (fQ X.env scope.names []) [] X.env.qual none .none (some X.env)) (λcenv s₄=>
   Zq (YE X.prog X.w) X.A (.compStart (.ListComp elt [⟨tg,iter,ifs,0⟩] scope pos) 0 it acc {cenv with scope:=relabel scope X.env}) (compPost (YE X.prog X.w) X.A X.xe use Q' acc cenv.locals) s₄) X.xe s₃) X.xe s₂) X.xe s₁) X.xe s:=by
 refine aB (hi aac s σ H _ I h) λv s1 h1=>aB h1 λitv s2 h2=>?_;obtain⟨it,fp,tn,J,H2,e,I2,T,st2,f2,wW⟩:=h2;subst e;refine YT ?_;have hD0:H2 s2.heap.objs.size=none:=I2.hok.fresh (QY _);obtain⟨W,⟨m0,w0⟩,turn⟩:=wW _ hD0;generalize hD:s2.heap.objs.size=D at*;have I3:ag X aac σ (ah H2 D (.lst [])) {s2 with heap:=s2.heap.push {cls:= .type "list",dict:=none,data:= .seq ([]:List Yx).toArray}}:=by
  have:=I2.lnew (ys:=[]) (its:=[]) (t':=s2.toks) .nil (RL _);rw [hD] at this;exact this
 generalize hs3:({s2 with heap:=s2.heap.push {cls:= .type "list",dict:=none,data:= .seq ([]:List Yx).toArray}}:YA)=s3 at*;have up23:∀b o,s2.heap.get? b=some o->s3.heap.get? b=some o:=λb o e=>by rw [<-hs3];exact Q1 _ e
 have fpD:∀b∈fp,b≠D:=λb hb z=>by
  obtain⟨o,ho,_⟩:=T.obj _ _ st2 b hb;have:=Rh ho;rw [hD,z] at this;exact S5 _ this
 have f3:∀b∈fp,iz X aac (ah H2 D (.lst [])) b:=λb hb=>⟨by rw [az (fpD b hb)];exact(f2 b hb).1,(f2 b hb).2⟩;have st3:tn 0 s3.heap:=T.keep _ _ _ st2 λb hb o e=>up23 b o e;have lt3:∀b∈fp,b < s3.heap.objs.size:=λb hb=>by obtain⟨o,ho,_⟩:=T.obj _ _ st3 b hb;exact Rh ho
 refine Jl λh₁ e₁ hns₁ up34=>?_;have I4:=Jj S I3 f3 lt3 e₁ hns₁ up34;have st4:tn 0 h₁:=T.keep _ _ _ st3 λb hb o e=>up34 b o e;generalize hX':bF X scope N' fp s3.heap.objs.size s3 (ah H2 D (.lst []))=X' at*;have hg':PG X' tg g:=by rw [<-hX'];exact hg _ _ _ _
 have hf':fy X' ifs tc:=by rw [<-hX'];exact hf _ _ _ _
 have he':PE X' elt te:=by rw [<-hX'];exact he _ _ _ _
 have eP:X'.prog=X.prog:=by rw [<-hX'];rfl
 have eW:X'.w=X.w:=by rw [<-hX'];rfl
 have eK:X'.K=X.K:=by rw [<-hX'];rfl
 have eA:X'.A=X.A:=by rw [<-hX'];rfl
 have eC:X'.calm=true:=by rw [<-hX'];exact hc
 have eE:X'.xe=λ_ _=>False:=by rw [<-hX'];rfl
 have eEnv:X'.env=compEnvC scope (sr X scope s3.heap.objs.size) s3.heap.objs.size X.env:=by rw [<-hX'];rfl
 have fpx:∀{H':Hp},(∀b∈fp,H' b=none)->∀b∈fp,iz X' [] H' b:=λ{H'} hn b hb=>by
  refine⟨hn b hb,?_,?_,.inl ?_,?_,?_⟩
  ·rw [eEnv];exact RH (lt3 b hb)
  ·have:=I4.ok.exfs b (by rw [<-hX'];exact hb);exact this
  ·rw [<-hX'];exact hb
  ·have:=I4.ok.exf b (by rw [<-hX'];exact hb);exact this.2
  ·intro p hp;rw [<-hX'] at hp;simp [bF] at hp
 have fin:∀(s':YA)(H':Hp)(σ':St),ag X' [] σ' H' s'->Q (.ref D) H'->compPost (YE X.prog X.w) X.A X.xe use Q' (.ref D) s3.heap.objs.size (.ok .next) s':=λs' H' σ' J q=>by
  have un:Un (gr X.stack) fp (ah H2 D (.lst [])) H' s3.heap s'.heap:=by have:=J.base;rw [<-hX'] at this;exact this
  have jos:s'.os=s3.os:=by have:=J.os;rw [<-hX'] at this;exact this
  have hC:H' s3.heap.objs.size=none:=by have:=J.free;rw [eEnv] at this;exact this
  have hok':bK X.prog X.w H' s'.heap:=by have:=J.hok;rw [eP,eW] at this;exact this
  have eD:∀h',Tx s3.heap.objs.size s'.heap h'->ag X aac σ H' {s' with heap:=h'}:=λh' hs'=>by
   have un':Un (gr X.stack) fp (ah H2 D (.lst [])) H' s3.heap h':=
    ⟨λb o e n h1 h2=>hs'.extBut b o (RH (Rh e)) (un.keep b o e n h1 h2),λb o e n h1 h2=>by
     obtain⟨sl,z⟩:=un.slot b o e n h1 h2;exact⟨sl,hs'.extBut b _ (RH (Rh e)) z⟩,un.free,λb o e h2=>by
     obtain⟨o',z⟩:=un.there b o e h2;exact⟨o',hs'.extBut b o' (RH (Rh e)) z⟩,un.tups,un.frzs,un.tbls⟩
   exact ag.call' (s':={s' with heap:=h'}) I3 jos un' (hok'.but hC hs'.extBut) J.bare λb hb=>⟨(f3 b hb).2.2.2.1,(f3 b hb).2.1,(f3 b hb).2.2.2.2.1,(f3 b hb).2.2.2.2.2⟩
  have nsC:∃m,s'.heap.Ns s3.heap.objs.size m:=by
   obtain⟨m,hn,_⟩:=J.loc;rw [eEnv] at hn;exact⟨m,hn⟩
  exact hQ D s3.heap.objs.size s' H' (TX I3.lt) (eD s'.heap (.refl ..)) eD q nsC I3.lt
   ⟨hC,λx c e=>by obtain⟨v,o,ho,_⟩:=I3.cell x c e;exact RH (Rh ho),λp hp=>RH (Rh (I3.pin p hp).1)⟩
 have loop:∀s4:YA,s4=({s3 with heap:=h₁}:YA)->
  Zq (YE X.prog X.w) X.A (.compLoop (.ListComp elt [⟨tg,iter,ifs,0⟩] scope pos) 0 (.ref it) (.ref D) X'.env) (compPost (YE X.prog X.w) X.A X.xe use Q' (.ref D) s3.heap.objs.size) s4:=by
  rintro s4 rfl;refine Jk (λn s'=>∃i H',ag X' [] (bB k fr σ) H' s'/\tn i s'.heap/\(∀b∈fp,H' b=none)/\W i n H') ?_ m0 ⟨0,_,I4,st4,λb hb=>(f3 b hb).1,w0⟩;rintro n s5 ⟨i,H5,I5,st5,fr5,w5⟩;rcases turn i n H5 w5 with⟨stop,qn⟩ | ⟨go,step⟩
  ·have:=T.done X' eP eW eK eC i [] s5 _ H5 (λ_ _=>False) I5 (fpx fr5) st5 stop;rw [eA] at this;refine aB this λr s6 ⟨hr,I6⟩=>?_;subst hr;exact fin s6 H5 _ I6 qn
  ·have:=T.item X' eP eW eK eC i [] s5 _ H5 (λ_ _=>False) I5 (fpx fr5) st5 go;rw [eA] at this;refine aB this λr s6 ⟨u,hr,h6⟩=>?_;subst hr;refine aB h6 λ_ s7 ⟨x,H7,I7,r7,y7,st7,fr7⟩=>?_;have I7':=I7.pinned (fpx fr7) (T.obj _ _ st7);have h8:=hg' _ s7 _ H7 x u _ I7' r7 (step x H7 y7);rw [eP,eW,eA,eE] at h8;refine aB h8 λ_ s8 ⟨σ8,H8,I8,kp,q8⟩=>?_;have h9:=hf' _ s8 σ8 H8 _ I8 q8;rw [eP,eW,eA,eE] at h9;have again:∀{s9:YA}{H9:Hp}{n':Nat},ag X' ([]++qp fp s7.heap) σ8 H9 s9->n' < n->W (i+1) n' H9->∃m,m < n/\∃i H',ag X' [] (bB k fr σ) H' s9/\tn i s9.heap/\(∀b∈fp,H' b=none)/\W i m H':=λ{s9 H9 n'} I9 hn' w9=>by
    refine⟨n',hn',i+1,H9,I9.unpinned.weak kp.1 kp.2,T.keep _ _ _ st7 λb hb o e=>(I9.pin (b,o) (R0 _ (R0 _ (rO hb e)))).1,λb hb=>?_,w9⟩;obtain⟨o,e,d⟩:=T.obj _ _ st7 b hb;exact(I9.pin (b,o) (R0 _ (R0 _ (rO hb e)))).2.1
   refine aB h9 λok s9 ⟨H9,I9,q9⟩=>?_;cases ok with
   | false=>
    rw [Ys Q5] at q9;obtain⟨m',hm',w9⟩:=q9;rw [Ys Q5];exact again I9 hm' w9
   | true=>
    rw [Yt rfl] at q9;rw [Yt rfl];have h10:=he' _ s9 σ8 H9 _ I9 q9;rw [eP,eW,eA,eE] at h10;refine aB h10 λy s10 ⟨yv,H10,I10,r10,ys,hys,hz,m',hm',w10⟩=>?_;have h11:=BJ (X:=X') _ s10 σ8 H10 (.ref D) [yv] (.ref D) [y] (λ_ H'=>W (i+1) m' H') I10 rfl (.cons r10 .nil) ⟨D,ys,yv,rfl,rfl,hys,hz,w10⟩;rw [eP,eW,eA,eE] at h11;exact aB h11 λ_ s11 uu63=>by obtain⟨_,H11,I11,_,q11⟩:=uu63;exact again I11 hm' q11
 have hE:({newEnv scope s3.heap.objs.size X.env.globals (sr X scope s3.heap.objs.size) X.env.qual none .none (some X.env) builtinsNs with scope:=relabel scope X.env}:Env)=X'.env:=by
  rw [eEnv];rfl
 have goal:=codeAny_compStart_list (elt:=elt) (target:=tg) (iter:=iter) (ifs:=ifs) (rest:=[]) (scope:=scope) (pos:=pos) (loop _ rfl) (T.self X.A 0 _ _ _ st4 (loop _ rfl));rw [<-hE] at goal;exact goal
theorem su(hc:X.calm=true)(S:bb X.env.scope X.N N' k fr scope)(hi:PI X tg iter wi)
 (hg:∀fp C s H,PG (bF X scope N' fp C s H) tg g)(hf:∀fp C s H,fy (bF X scope N' fp C s H) ifs tc)(he:∀fp C s H,PE (bF X scope N' fp C s H) elt te)
 (hs:∀x,YO iter X.env x=pure x:=by intro _;rfl):PE X (.ListComp elt [⟨tg,iter,ifs,0⟩] scope pos) (lT wi g tc te k fr):=by
 intro aac s σ H Q I h;have hcell:∀y∈scope.names,y.2= .free->∃c,X.env.cells.lookup y.1=some c:=λy hy e=>I.ok.has y.1 (S.outer y hy e);rw [eval_ListComp];refine Z9 (use:=none) rfl hs (BM hcell) S.kind S.names (BQ hc S hi hg hf he I h ?_);intro D C s' H' hC J eD q ns hlt _;obtain⟨m,hn⟩:=ns;exact⟨m,hn,λh' hs'=>⟨.ref D,H',eD h' hs',rfl,q⟩⟩
theorem Jm{i:Nat}{x:Str}{pos' spos:Pos}(hN:X.N.Nodup)(hxi:X.N[i]?=some x)(hx:g8 X.env.scope x)(hc:X.calm=true)(S:bb X.env.scope X.N N' k fr scope)(hi:PI X tg iter wi)
 (hg:∀fp C s H,PG (bF X scope N' fp C s H) tg g)(hf:∀fp C s H,fy (bF X scope N' fp C s H) ifs tc)(he:∀fp C s H,PE (bF X scope N' fp C s H) elt te)
 (hsw:YS (.ListComp elt [⟨tg,iter,ifs,0⟩] scope pos) (some (.Name x pos')) spos.line X.env=pure true)
 (hs:∀x,YO iter X.env x=pure x:=by intro _;rfl)(hfn:X.fn x=true\/X.env.scope.names.lookup x=some .local:=by first | exact .inl rfl | exact .inr rfl | assumption):
 PS X (.Assign [.Name x pos'] (.ListComp elt [⟨tg,iter,ifs,0⟩] scope pos) spos) (qj (lT wi g tc te k fr) (i8 i)):=by
 intro aac s σ H D I h;have hcell:∀y∈scope.names,y.2= .free->∃c,X.env.cells.lookup y.1=some c:=λy hy e=>I.ok.has y.1 (S.outer y hy e);rw [exec_Assign_Name_used _ _ _ _ hsw];refine Yy (wpAny_standAt (Yy ?_));show YC _ X.A (do let _<-comprehension (.ListComp elt [⟨tg,iter,ifs,0⟩] scope pos) scope X.env _ (newList []) false (eval iter X.env) (some (assign (.Name x pos') X.env))) _ _ s;refine Yy (YY (Z9 (use:=some (assign (.Name x pos') X.env)) (Q:=λ_ s'=>∃σ' H',ag X aac σ' H' s'/\D.nx σ' H') rfl hs (BM hcell) S.kind S.names (BQ hc S hi hg hf he I h ?_)) (λ_ s' hq=>YB (YB hq)) λ_ _ e=>e);intro D' C s' H' hC J eD q ns hlt ⟨c1,c2,c3⟩;obtain⟨m,hn⟩:=ns;show YC _ X.A (assign (.Name x pos') X.env (.ref D')) _ _ _;refine wpAny_assign_Name (AH J hN hxi hx (v:= .ref D') rfl (λs2 J2 sb=>?_) hfn);obtain⟨a,sb,ha⟩:=sb;have hCa:C≠a:=by
  rcases ha with z | z
  ·rw [z];exact hC
  ·exact Ne.symm (c2 _ _ z)
 refine⟨m,hn.sameBut sb hCa,λh3 hs3=>⟨_,H',?_,q⟩⟩;exact J2.turned (t':=s2.toks) hs3.extBut c1 hC (.inr (Rx J.ok.above (TV hlt))) c2 c3
end
section
variable {X:Cx}
theorem BR(hc:X.calm=true):d8 X (.builtin "sum") (λxs H Q=>∃(a:Yz)(ns:List Int),xs=[.ref a]/\bo X.K H a (ns.map V.int)/\Q (.int ns.sum) H):=by
 intro aac s σ H xs us Q I r h;obtain⟨a,ns,rfl,hl,q⟩:=h;obtain⟨u,rfl,rx⟩:=ft r;cases rx;obtain⟨its,rv,p,hz⟩:=I.list hl;have hi:YZ its ns:=IA rv;have hall:AllInts its.toArray:=hi.allInts;obtain⟨ys,hys⟩:=hall.items;have hn:numsOf its.toArray.toList=ns:=by rw [show its.toArray.toList=its from rfl,hi.numsOf]
 rw [hys,nums_intItems] at hn;have hl':=p.isList;rw [hys] at hl';refine sum_intListG (I.ok.hd hc) hl' λh' tk t' hk=>?_;refine⟨.int ns.sum,H,I.kept hk,⟨t',?_⟩,q⟩;rw [preSum_eq,Rz Yv,hn]
end
end L2
namespace Att
open PySem PySem.W PySem.Calls PyProof.Rows
theorem Jn{ns:List Int}(h:XA [Wk (ns.map UP)]=true):∀n∈ns,SE n<=1048576:=by
 have h1:(Wk (ns.map UP)).layable=true:=by simpa [XA] using h
 have h2:(Wk (ns.map UP)).weight<=1048576:=(PySem.W.layableW_iff.mp h1).2.2;have key:∀l:List Int,∀n∈l,SE n<=Vb (l.map UP):=by
  intro l
  induction l with
  | nil=>intro n hn;simp at hn
  | cons x r ih=>
   intro n hn;have e:Vb ((x::r).map UP)=SE x+1+Vb (r.map UP):=by
    rw [Q0,Vb,X8];rfl
   rw [e];rcases Q4.mp hn with z | z
   ·subst z;omega
   ·have:=ih n z;omega
 intro n hn;have e:(Wk (ns.map UP)).weight=Vb (ns.map UP):=by rw [X8]
 rw [e] at h2;exact Rx (key ns n hn) h2
theorem attach_callB{l:OpenLaw}{n:Nat}{q:YI}{loose:List Str}{XP:(Str->Option Yx)->YK->Prop}{YP:YJ->YK->Prop}{d:DefRec}
 (hn:l.most=some n)(hdf:d.params.defaults=[])
 (call:∀(w:YJ) (s₀ s₁:YA) (mg mb:Str->Option Yx) (fa:Yz) (o:Obj) (pm cd doc:Yx) (a:Yz) (vs:List Yx) (ns:List Int),
  Ground q loose [] XP w s₀ mg mb s₁.heap->YP w s₁.heap->
  s₁.heap.get? fa=some o->o.data= .func (docDef d.name d.params d.body d.scope pm cd doc)->s₁.heap.CodeRec cd d.name->mg d.name=some (.ref fa)->
  s₁.heap.get? a=some {cls:= .type "list",data:= .seq vs.toArray}->YZ vs ns->ns.length<=n->(∀z∈ns,SE z<=1048576)->s₁.gens=#[]->
  Zq (YE l.prog w) callerA (.call (.ref fa) ⟨[.ref a],[]⟩) (λr s'=>r= .ok (.ret (.bool true))/\OldK s₁.heap s'.heap/\s'.os=s₁.os/\ZQ s'.gens) s₁):
 WalkO q loose XP YP l.row.toRowW d [] (λf vs=>XN f vs):=by
 intro w s₀ s₁ mg mb G Y fa o pm cd doc dV kV ho hd hcd hD hmg hg args vals as hpre hlay hrd hwl hlo;obtain rfl:dV= .none:=Dflts.none hD hdf;obtain rfl:kV= .none:=Dflts.noKw hD;obtain⟨a,vs,ns,rfl,rfl,hobj,hints,hlen⟩:=I0 hn hpre hwl;have hb:∀z∈ns,SE z<=1048576:=Jn hlay;refine enter_call (Zn (call w s₀ s₁ mg mb fa o pm cd doc a vs ns G Y ho (fd_plain hd) hcd hmg hobj hints hlen hb hg) λr s' hq=>?_);obtain⟨rfl,h2,h3,h4⟩:=hq;exact⟨.inl ⟨.bool true,.bool true,[],rfl,λ_=>rfl,.bool true,Ja l _,λ_=>⟨List.Pairwise.nil,λ_ hm=>(nomatch hm)⟩⟩,h2,h3,h4⟩
end Att
namespace L2
open PySem PySem.Spec PyProof.Rows
theorem Jo{l:XO}{n k:Nat}{q:YI}{loose:List Str}{XP:(Str->Option Yx)->YK->Prop}{YP:YJ->YK->Prop}{d:DefRec}{K:Params->QV}{CX:YJ->fc}{sp:YJ->Sp}{x:Str}
 (hn:l.most=some n)(hn2:n<=YH)(hdf:d.params.defaults=[])(hr:bp k callerA)
 (hY:∀(w:YJ) (h:YK),YP w h->(K w.params).In h)
 (F:∀(w:YJ) (mg:Str->Option Yx) (fa:Yz) (h:YK),(K w.params).In h->h.Ns YM mg->mg d.name=some (.ref fa)->
  ∃fd:YG,(∀(s:YA) (u:Yx),BindsTo s fd ⟨[u],[]⟩ [(x,u)])/\
   ∀base:YK,(K w.params).In base->base.Ns YM mg->aA l.prog w (K w.params) mg base (CX w) k fa fd [x] (sp w))
 (hsp:∀(w:YJ) (H:Hp) (a:Yz) (ns:List Int),ns.length<=n->(∀z∈ns,SE z<=1048576)->sj H->bo (K w.params) H a (ns.map V.int)->sp w [.ref a] H (λv _=>v= .bl true) λ_ _ _=>False)
 (hCX:∀(w:YJ) (H:Hp) (s:YA) (e:Yx) (s':YA),CX w [] H s (λ_ _ _=>False) e s'->False):
 X0 q loose XP YP l.row.toRowW d [] (λf vs=>XN f vs):=by
 refine Att.attach_callB hn hdf λw s₀ s₁ mg mb fa o pm cd doc a vs ns G Y ho hd hcd hmg hobj hints hlen hb hg=>?_;have KX:=hY w _ Y;obtain⟨fd,hbi,hF⟩:=F w mg fa _ KX G.T.g hmg;exact Jb KX G.T.g G.T.b G.T.builtins G.T.nolimit hg hobj hints (Rx hlen hn2) hr hF hbi (λH hO hS=>hsp w H a ns hlen hb hO hS) λH e s'=>hCX w H s₁ e s'
theorem walk_ofBK{l:XO}{n k:Nat}{q:YI}{loose:List Str}{XP:(Str->Option Yx)->YK->Prop}{YP:YJ->YK->Prop}{d:DefRec}{K:Params->QV}{CX:fc}{sp:QV->Sp}{x:Str}
 (hn:l.most=some n)(hn2:n<=YH)(hdf:d.params.defaults=[])(hr:bp k callerA)
 (hY:∀(w:YJ) (h:YK),YP w h->(K w.params).In h)
 (F:∀(w:YJ) (mg:Str->Option Yx) (fa:Yz) (h:YK),(K w.params).In h->h.Ns YM mg->mg d.name=some (.ref fa)->
  ∃fd:YG,(∀(s:YA) (u:Yx),BindsTo s fd ⟨[u],[]⟩ [(x,u)])/\
   ∀base:YK,(K w.params).In base->base.Ns YM mg->aA l.prog w (K w.params) mg base CX k fa fd [x] (sp (K w.params)))
 (hsp:∀(K:QV) (H:Hp) (a:Yz) (ns:List Int),ns.length<=n->(∀z∈ns,SE z<=1048576)->sj H->bo K H a (ns.map V.int)->sp K [.ref a] H (λv _=>v= .bl true) λ_ _ _=>False)
 (hCX:∀(H:Hp) (s:YA) (e:Yx) (s':YA),CX [] H s (λ_ _ _=>False) e s'->False):
 X0 q loose XP YP l.row.toRowW d [] (λf vs=>XN f vs):=
 Jo (K:=K) (CX:=λ_=>CX) (sp:=λw=>sp (K w.params)) hn hn2 hdf hr hY F (λw H a ns h1 hb h2 h3=>hsp (K w.params) H a ns h1 hb h2 h3) λ_ H s e s'=>hCX H s e s'
def pb(p:Yz)(H H':Hp):Prop:=∀b o,H b=some o->b≠p->H' b=some o
theorem au.new{H:Hp}{p:Yz}{o:HO}(h:H p=none):au H (ah H p o):=λb u e=>by rw [az (dZ e h)];exact e
def FR(J:It)(g:TG)(tb:TS)(D:iy)(σ:St)(H1:Hp):Prop:=∃W:Nat->Nat->St->Hp->Prop,(∃m,W 0 m σ H1)/\∀i m σ H,W i m σ H->
 (J.stop i H/\D.nx σ H)\/(J.go i H/\∃N:St->Hp->Prop,(∀σ' H',N σ' H'->∃m',m' < m/\W (i+1) m' σ' H')/\∀x H',J.yld i H x H'->g x σ H' λσ2 H2=>tb {D with nx:=N,ct:=N,bk:=D.nx} σ2 H2)
theorem Jp{ta:TA}{g:TG}{tb:TS}:qo (uU ta) g tb=λD σ H=>ta σ H λvs H1=>∃j:Int,vs=[.int j]/\-(2 ^ 62)<=j/\j < 2 ^ 62/\FR (i9 0 j.toNat) g tb D σ H1:=rfl
theorem Jq{ta:TA}{g:TG}{tb:TS}:qo (uV ta) g tb=λD σ H=>ta σ H λvs H1=>∃i j:Int,vs=[.int i,.int j]/\(-(2 ^ 62)<=i/\i < 2 ^ 62/\-(2 ^ 62)<=j/\j < 2 ^ 62)/\FR (i9 i (j - i).toNat) g tb D σ H1:=rfl
theorem Jr{K:QV}{tl:TE}{g:TG}{tb:TS}:qo (uR K tl) g tb=λD σ H=>tl σ H λx H1=>∃a,x= .ref a/\(∃xs,bo K H1 a xs)/\FR (oV K a) g tb D σ H1:=rfl
theorem Js{K:QV}{tl:TE}{g:TG}{tb:TS}:qo (uS K tl) g tb=λD σ H=>tl σ H λx H1=>∃a,x= .ref a/\(∃xs,aZ K H1 a xs)/\FR (qm K a) g tb D σ H1:=rfl
def nU(J:It)(g:TG)(tc:TT)(te:TE)(k:Nat)(fr:List Nat)(σ:St)(H1:Hp)(Q:VK):Prop:=∀D,H1 D=none->∃W:Nat->Nat->Hp->Prop,(∃m,W 0 m (ah H1 D (.lst [])))/\∀i m H,W i m H->
 (J.stop i H/\Q (.ref D) H)\/(J.go i H/\∀x H',J.yld i H x H'->g x (bB k fr σ) H' λσ2 H2=>nT (bB k fr σ) σ2/\tc σ2 H2 λok H3=>
  if ok=true then te σ2 H3 λy H4=>∃ys,H4 D=some (.lst ys)/\ys.length < YH/\∃m',m' < m/\W (i+1) m' (ah H4 D (.lst (ys++[y])))
  else ∃m',m' < m/\W (i+1) m' H3)
theorem Jt{ta:TA}{g:TG}{tc:TT}{te:TE}{k:Nat}{fr:List Nat}:lT (uU ta) g tc te k fr=λσ H Q=>ta σ H λvs H1=>∃j:Int,vs=[.int j]/\-(2 ^ 62)<=j/\j < 2 ^ 62/\nU (i9 0 j.toNat) g tc te k fr σ H1 Q:=rfl
theorem Ju{ta:TA}{g:TG}{tc:TT}{te:TE}{k:Nat}{fr:List Nat}:lT (uV ta) g tc te k fr=λσ H Q=>ta σ H λvs H1=>∃i j:Int,vs=[.int i,.int j]/\(-(2 ^ 62)<=i/\i < 2 ^ 62/\-(2 ^ 62)<=j/\j < 2 ^ 62)/\nU (i9 i (j - i).toNat) g tc te k fr σ H1 Q:=rfl
theorem Jv{K:QV}{tl:TE}{g:TG}{tc:TT}{te:TE}{k:Nat}{fr:List Nat}:lT (uR K tl) g tc te k fr=λσ H Q=>tl σ H λx H1=>∃a,x= .ref a/\(∃xs,bo K H1 a xs)/\nU (oV K a) g tc te k fr σ H1 Q:=rfl
theorem Jw{K:QV}{tl:TE}{g:TG}{tc:TT}{te:TE}{k:Nat}{fr:List Nat}:lT (uS K tl) g tc te k fr=λσ H Q=>tl σ H λx H1=>∃a,x= .ref a/\(∃xs,aZ K H1 a xs)/\nU (qm K a) g tc te k fr σ H1 Q:=rfl
theorem BS{fr:List Nat}{σ:St}{v:Option V}:nT (bB 1 fr σ) ((bB 1 fr σ).set 0 v):=by
 refine⟨Yv,λi w h=>?_⟩;cases i with
 | zero=>simp [bB,Ri] at h
 | succ i=>simpa [bB,Ri] using h
theorem Jx{lo:Int}{n:Nat}{te:TE}{fr:List Nat}{σ:St}{H:Hp}{Q:VK}(f:Nat->V)(hn:n<=1000000)
 (ht:∀(i:Nat) (H':Hp) (R:VK),i < n->au H H'->(∀H'',au H' H''->R (f i) H'')->te ((bB 1 fr σ).set 0 (some (.int (lo+i)))) H' R)
 (hq:∀D H',H D=none->au H H'->H' D=some (.lst ((SO n).map f))->Q (.ref D) H'):nU (i9 lo n) (i8 0) BO te 1 fr σ H Q:=by
 intro D hD;refine⟨λi m H'=>m=n - i/\i<=n/\au H H'/\H' D=some (.lst ((SO i).map f)),⟨n,Yv,RL _,au.new hD,by rw [bq];rfl⟩,?_⟩;rintro i m H1 ⟨rfl,hi,s1,e1⟩;by_cases hlt:i < n
 ·refine .inr ⟨hlt,λx H' y=>?_⟩;obtain⟨e,y⟩:=y;subst e y;refine⟨BS,?_⟩;show te _ _ _;refine ht i H' _ hlt s1 λH2 s2=>?_;refine⟨_,s2 D _ e1,?_,n - (i+1),Yr,rfl,hlt,?_,?_⟩
  ·rw [QW,UY,Y1];omega
  ·exact λb o h=>by rw [az (dZ h hD)];exact s2 b o (s1 b o h)
  ·rw [bq,WK,Rq];rfl
 ·have e:i=n:=Yr
  subst e;exact .inl ⟨QY _,hq D H1 hD s1 e1⟩
theorem cxK{CX:fc}{P:YI}{w:YJ}{K:QV}{mg:Str->Option Yx}{base:YK}{N:List Str}{qual:Str}{scope:Za}{f:Yz}{cd:Yx}{A:YN}{outer:List Env}{s:YA}{H:Hp}{E:XK}:(iB CX P w K mg base N qual scope f cd A outer s H E).K=K:=rfl
theorem cmK{X:Cx}{scope:Za}{N':List Str}{fp:List Yz}{C:Yz}{s:YA}{H:Hp}:(bF X scope N' fp C s H).K=X.K:=rfl
theorem je{K:QV}{p:Yz}{xs:List V}{i:Int}{v:V}{H:Hp}{Q:VK}(h:aZ K H p xs)(hv:atI xs i=some v)(q:Q v H):se K (.ref p) (.int i) H Q:=⟨p,xs,i,v,rfl,rfl,h,hv,q⟩
theorem qy{α:Type}{xs:List α}{i:Int}(h0:0<=i)(h1:i < xs.length):∃v,atI xs i=some v/\v∈xs:=by
 obtain⟨j,rfl⟩:=SY h0;have hj:j < xs.length:=Yr
 exact⟨xs[j],fO (by simp [hj]),Tg hj⟩
theorem BU{a b:Int}:(if b < a then b else a)=min a b:=by
 by_cases h:b < a
 ·rw [Yt h];omega
 ·rw [Ys h];omega
theorem Jy:YX "divmod"=some (.builtin "divmod"):=Yp
theorem qz:YX "int"=some (.type "int"):=Yp
theorem fR:YX "tuple"=some (.type "tuple"):=Yp
theorem Jz:YX "list"=some (.type "list"):=Yp
open PySem PySem.Spec PyProof.Rows PySem.W
section
variable {M:Model} {A:YN} {E:Yx->YA->Prop}
variable {nm q:Str} {C N:Yz} {bs bm:List Yx} {hdct:Bool} {sn:List Str} {sub:List Yx} {ab:Bool} {col:Option Bool} {dd:Option Yz} {k0 k1 k2 k3 k5:Option Yx} {newId:String}
variable {nm' q':Str} {C' N':Yz} {bs' bm':List Yx} {hdct':Bool} {sn':List Str} {sub':List Yx} {ab':Bool} {col':Option Bool} {dd':Option Yz} {k0' k1' k2' k3' k5':Option Yx} {newId':String}
end
section
variable {X:Cx}
theorem JA{bs:List Bool}{its:List Yx}(r:aI (bs.map V.bl) its):its=bs.map UL:=by
 induction bs generalizing its with
 | nil=>cases r;rfl
 | cons b bs ih=>
  rw [Q0] at r;cases r with
  | cons r1 r2=>
   rw [Q0,<-ih r2];exact congrArg (·::_) r1
theorem JB(bs:List Bool)(f:Nat->Bool)(h:∀i,i < bs.length->f i=bs.getD i true):(SO bs.length).any f=bs.any id:=by
 rw [UO,Ua,Ua];constructor
 ·rintro⟨i,hi,z⟩;have hi:=WQ.mp hi;rw [h i hi,U7,RF hi] at z;exact⟨_,Tg hi,z⟩
 ·rintro⟨b,hb,z⟩;obtain⟨i,hi,e⟩:=VP hb;refine⟨i,WQ.mpr hi,?_⟩;rw [h i hi,U7,RF hi];show bs[i]=true;rw [e];exact z
theorem JC{bs:List Bool}{i:Nat}{v:Yx}(h:(bs.map UL).toArray[i]?=some v):v= .bool (bs.getD i true):=by
 have h':(bs.map UL)[i]?=some v:=by simpa using h
 rw [Q9] at h';cases e:bs[i]? with
 | none=>rw [e] at h';cases h'
 | some b=>
  rw [e] at h';rw [U7,e];exact(R3 h').symm
theorem JD{prog:YI}{w:YJ}{A:YN}{E:Yx->YA->Prop}{s:YA}{l:Yz}{items:Array Yx}{Q:Yx->YA->Prop}(hl:s.heap.IsList l items)
 (h:∀s₂:YA,s₂={s with heap:=s.heap.push {cls:= .type "list_iterator",data:= .fields #[.ref l,.int 0 0]}}->
  (s₂.heap.IsListIter s.heap.objs.size l 0/\s₂.heap.IsList l items)->l≠s.heap.objs.size->Q (.ref s.heap.objs.size) s₂):YC (YE prog w) A (pyIter (.ref l)) Q E s:=by
 have hlt:l < s.heap.objs.size:=by obtain⟨_,e,_⟩:=hl;exact Rh e
 exact Z7 hl (h _ rfl ⟨⟨_,Rl _ rfl,rfl,rfl⟩,hl.push _⟩ (RH hlt))
theorem vz(hc:X.calm=true):d8 X (.builtin "any") (λxs H Q=>∃(a:Yz)(bs:List Bool),xs=[.ref a]/\bo X.K H a (bs.map V.bl)/\Q (.bl (bs.any id)) H):=by
 intro aac s σ H xs us Q I r h;obtain⟨a,bs,rfl,hl,q⟩:=h;obtain⟨u,rfl,rx⟩:=ft r;cases rx;obtain⟨its,rv,p,hz⟩:=I.list hl;have hi:=JA rv;subst hi;refine call_any_walk (JD p.isList λs₂ e st hlI=>?_);subst e;refine⟨_,_,_,_,_,_,λi=>bs.getD i true,rfl,Yl (A:=X.A.in1) (I.ok.hd hc) _ a hlI _,st,λi v s' Q' E' hP hq=>by rw [JC hP];exact Y7 hq,λh' tk hk=>?_⟩;have e:=JB bs (λi=>bs.getD i true) λ_ _=>rfl;have e2:(RZ UL bs).toArray.size=bs.length:=Yv
 rw [e2,e];exact⟨.bl (bs.any id),H,I.kept (old_kept hk),rfl,q⟩
end
open PySem PySem.Spec PyProof.Rows PySem.W PySem.Calls PySem.Builtin.ObjectAttr PySem.Builtin PySem.Builtin.Getset_descriptor
section
variable {X:Cx}
abbrev cy(d:Yw):Prop:=Tz d=true
end
theorem vA:YX "any"=some (.builtin "any"):=Yp
def JE(p:Yz)(h:YK):Prop:=∃(n:Int)(t:Tok)(k:Nat),h.get? p=some {cls:= .type "list",data:= .seq #[.int n t] k}
abbrev JF(p:Yz):HO:= .ext (JE p)
abbrev JG:Yw:= .dict [(.none,.none)]
def JH(p:Yz)(h:YK):Prop:=∃(a b c:Int)(t u v:Tok)(k:Nat),h.get? p=some {cls:= .type "list",data:= .seq #[.int a t,.int b u,.int c v] k}
abbrev JI(p:Yz):HO:= .ext (JH p)
abbrev JJ:Yw:= .dict [(.none,.bool true)]
abbrev fS(ds:List Yw):Yw:= .dict [(.none,.list ds)]
abbrev fz(C:Yz)(kp ds:List Yw):Yw:= .dict [(.none,.tuple [.int (C:Int),.list kp,.list ds])]
abbrev BV(kp ds:List Yw):Yw:= .dict [(.bool true,.tuple [.list kp,.list ds])]
abbrev Ex:=Yz->Prop
abbrev sA:Hp:=λ_=>none
mutual
inductive Dt (K:QV) (H:Hp) (O:Ex):V->Yw->Prop
 | non:Dt K H O .non .none
 | bl (b:Bool):Dt K H O (.bl b) (.bool b)
 | int (i:Int):Dt K H O (.int i) (.int i)
 | str (x:Str):Dt K H O (.str x) (.str x)
 | tup {a:Yz} {xs:List V} {ds:List Yw}:Rd H a (.tup xs)->¬O a->ai K H O xs ds->Dt K H O (.ref a) (.tuple ds)
 | tupK {a:Yz} {xs:List V} {ds:List Yw}:aZ K sA a xs->ai K H O xs ds->Dt K H O (.ref a) (.tuple ds)
 | lst {a:Yz} {xs:List V} {ds:List Yw}:Rd H a (.lst xs)->¬O a->ai K H O xs ds->Dt K H O (.ref a) (.list ds)
 | pack {p:Yz}:H p=some (JF p)->¬O p->Dt K H O (.ref p) JG
 | purse {p:Yz}:H p=some (JI p)->¬O p->Dt K H O (.ref p) JJ
 | dct0 {a:Yz}:H a=some (.dK [])->¬O a->Dt K H O (.ref a) (.dict [])
 | obj {a C dx:Yz} {fs:List (Str×V)} {kp ds:List Yw}:H a=some (.ins C dx fs)->kp=fs.map (λp=>QZ p.1)->¬O a->ai K H O (fs.map (·.2)) ds->Dt K H O (.ref a) (fz C kp ds)
 | dic {a:Yz} {ob:Obj} {kv:List (aq×V)} {ks:List Str} {kp ds:List Yw}:H a=some (.frz ob (.dK kv))->kv.map (·.1)=ks.map Sx->kp=ks.map QZ->¬O a->ai K H O (kv.map (·.2)) ds->Dt K H O (.ref a) (BV kp ds)
 | scr {a:Yz} {xs:List V} {ds:List Yw}:(Rd H a (.lst xs)/\¬O a)\/bo K sA a xs->ai K H O xs ds->Dt K H O (.ref a) (fS ds)
inductive ai (K:QV) (H:Hp) (O:Ex):List V->List Yw->Prop
 | nil:ai K H O [] []
 | cons {v:V} {d:Yw} {vs:List V} {ds:List Yw}:Dt K H O v d->ai K H O vs ds->ai K H O (v::vs) (d::ds)
end
theorem Rd.same{H H':Hp}{a:Yz}{u:HO}(s:∀o,H a=some o->H' a=some o)(h:Rd H a u):Rd H' a u:=by
 rcases h with h | ⟨o,h⟩
 ·exact .inl (s _ h)
 ·exact .inr ⟨o,s _ h⟩
theorem Rd.trk{H:Hp}{a:Yz}{u:HO}(h:Rd H a u):H a≠none:=by
 rcases h with h | ⟨o,h⟩ <;> rw [h] <;> exact λz=>nomatch z
section
variable {K:QV}
structure aH (H H':Hp) (O O':Ex):Prop where
 keep:∀b o,H b=some o->¬O b->H' b=some o
 out:∀b,H b≠none->¬O b->¬O' b
mutual
theorem Dt.step{H H':Hp}{O O':Ex}(S:aH H H' O O'):∀{v:V}{d:Yw},Dt K H O v d->Dt K H' O' v d
 | _,_,.non=>.non
 | _,_,.bl b=>.bl b
 | _,_,.int i=>.int i
 | _,_,.str x=>.str x
 | _,_,.tup h n r=>.tup (h.same λo e=>S.keep _ o e n) (S.out _ h.trk n) (ai.step S r)
 | _,_,.tupK h r=>.tupK h (ai.step S r)
 | _,_,.lst h n r=>.lst (h.same λo e=>S.keep _ o e n) (S.out _ h.trk n) (ai.step S r)
 | _,_,.pack h n=>.pack (S.keep _ _ h n) (S.out _ (by rw [h];exact λz=>nomatch z) n)
 | _,_,.purse h n=>.purse (S.keep _ _ h n) (S.out _ (by rw [h];exact λz=>nomatch z) n)
 | _,_,.dct0 h n=>.dct0 (S.keep _ _ h n) (S.out _ (by rw [h];exact λz=>nomatch z) n)
 | _,_,.obj h e n r=>.obj (S.keep _ _ h n) e (S.out _ (by rw [h];exact λz=>nomatch z) n) (ai.step S r)
 | _,_,.dic h e1 e2 n r=>.dic (S.keep _ _ h n) e1 e2 (S.out _ (by rw [h];exact λz=>nomatch z) n) (ai.step S r)
 | _,_,.scr h r=>.scr (h.imp (λh=>⟨h.1.same λo e=>S.keep _ o e h.2,S.out _ h.1.trk h.2⟩) id) (ai.step S r)
theorem ai.step{H H':Hp}{O O':Ex}(S:aH H H' O O'):∀{vs:List V}{ds:List Yw},ai K H O vs ds->ai K H' O' vs ds
 | _,_,.nil=>.nil
 | _,_,.cons h r=>.cons (Dt.step S h) (ai.step S r)
end
theorem aH.same{H H':Hp}{O:Ex}(s:au H H'):aH H H' O O:=⟨λb o e _=>s b o e,λ_ _ n=>n⟩
theorem Dt.mono{H H':Hp}{O:Ex}{v:V}{d:Yw}(s:au H H')(h:Dt K H O v d):Dt K H' O v d:=h.step (.same s)
theorem ai.mono{H H':Hp}{O:Ex}{v:List V}{d:List Yw}(s:au H H')(h:ai K H O v d):ai K H' O v d:=h.step (.same s)
theorem ai.length{H:Hp}{O:Ex}:∀{vs:List V}{ds:List Yw},ai K H O vs ds->vs.length=ds.length
 | _,_,.nil=>rfl
 | _,_,.cons _ r=>by rw [Q8,Q8,ai.length r]
theorem ai.get{H:Hp}{O:Ex}:∀{vs:List V}{ds:List Yw}{i:Nat}{v:V},ai K H O vs ds->vs[i]?=some v->∃d,ds[i]?=some d/\Dt K H O v d
 | _,_,_,_,.nil,e=>by simp at e
 | _,_,0,_,.cons h _,e=>by simp at e;subst e;exact⟨_,rfl,h⟩
 | _,_,i+1,_,.cons _ r,e=>by simpa using ai.get (i:=i) r (by simpa using e)
theorem ai.getD{H:Hp}{O:Ex}:∀{vs:List V}{ds:List Yw}{i:Nat}{d:Yw},ai K H O vs ds->ds[i]?=some d->∃v,vs[i]?=some v/\Dt K H O v d
 | _,_,_,_,.nil,e=>by simp at e
 | _,_,0,_,.cons h _,e=>by simp at e;subst e;exact⟨_,rfl,h⟩
 | _,_,i+1,_,.cons _ r,e=>by simpa using ai.getD (i:=i) r (by simpa using e)
theorem ai.append{H:Hp}{O:Ex}:∀{vs ws:List V}{ds es:List Yw},ai K H O vs ds->ai K H O ws es->ai K H O (vs++ws) (ds++es)
 | _,_,_,_,.nil,s=>s
 | _,_,_,_,.cons h r,s=>.cons h (ai.append r s)
theorem ai.take{H:Hp}{O:Ex}:∀{vs:List V}{ds:List Yw}(n:Nat),ai K H O vs ds->ai K H O (vs.take n) (ds.take n)
 | _,_,0,_=>.nil
 | _,_,_+1,.nil=>.nil
 | _,_,n+1,.cons h r=>.cons h (ai.take n r)
theorem ai.drop{H:Hp}{O:Ex}:∀{vs:List V}{ds:List Yw}(n:Nat),ai K H O vs ds->ai K H O (vs.drop n) (ds.drop n)
 | _,_,0,r=>r
 | _,_,_+1,.nil=>.nil
 | _,_,n+1,.cons _ r=>ai.drop n r
theorem ai.ints{H:Hp}{O:Ex}:∀(ns:List Int),ai K H O (ns.map V.int) (ns.map Rv)
 | []=>.nil
 | n::r=>.cons (.int n) (ai.ints r)
inductive Sh (K:QV) (H:Hp) (O:Ex):V->Yw->Prop
 | dt {v:V} {d:Yw}:Dt K H O v d->Sh K H O v d
 | own {l:Yz} {vs:List V} {ds:List Yw}:H l=some (.lst vs)->ai K H O vs ds->Sh K H O (.ref l) (.list ds)
theorem Sh.mono{H H':Hp}{O:Ex}{v:V}{d:Yw}(s:au H H'):Sh K H O v d->Sh K H' O v d
 | .dt h=>.dt (h.mono s)
 | .own h r=>.own (s _ _ h) (r.mono s)
theorem Dt.all{H:Hp}{O:Ex}{v:V}{d:Yw}(h:Dt K H O v d):Dt K H (λ_=>False) v d:=h.step ⟨λ_ _ e _=>e,λ_ _ _ z=>z⟩
theorem ai.all{H:Hp}{O:Ex}{v:List V}{d:List Yw}(h:ai K H O v d):ai K H (λ_=>False) v d:=h.step ⟨λ_ _ e _=>e,λ_ _ _ z=>z⟩
theorem Sh.all{H:Hp}{O:Ex}{v:V}{d:Yw}:Sh K H O v d->Dt K H (λ_=>False) v d
 | .dt h=>h.all
 | .own h r=>.lst (.inl h) (λz=>z) r.all
theorem aZ.of0{H:Hp}{a:Yz}{xs:List V}(h:aZ K sA a xs):aZ K H a xs:=by
 rcases h with(h | ⟨o,h⟩) | h
 ·cases h
 ·cases h
 ·exact .inr h
theorem bo.of0{H:Hp}{a:Yz}{xs:List V}(h:bo K sA a xs):bo K H a xs:=by
 rcases h with(h | ⟨o,h⟩) | h
 ·cases h
 ·cases h
 ·exact .inr h
theorem Sh.tup{H:Hp}{O:Ex}{v:V}{ds:List Yw}(h:Sh K H O v (.tuple ds)):∃a xs,v= .ref a/\aZ K H a xs/\ai K H O xs ds:=by
 cases h with
 | dt h=>
  cases h with
  | tup h _ r=>exact⟨_,_,rfl,.inl h,r⟩
  | tupK h r=>exact⟨_,_,rfl,h.of0,r⟩
theorem Sh.lstR{H:Hp}{O:Ex}{v:V}{ds:List Yw}(h:Sh K H O v (.list ds)):∃a xs,v= .ref a/\Rd H a (.lst xs)/\ai K H O xs ds:=by
 cases h with
 | dt h=>
  cases h with
  | lst h _ r=>exact⟨_,_,rfl,h,r⟩
 | own h r=>exact⟨_,_,rfl,.inl h,r⟩
theorem Sh.lst{H:Hp}{O:Ex}{v:V}{ds:List Yw}(h:Sh K H O v (.list ds)):∃a xs,v= .ref a/\bo K H a xs/\ai K H O xs ds:=by
 obtain⟨a,xs,e,h,r⟩:=h.lstR;exact⟨a,xs,e,.inl h,r⟩
theorem Sh.scr{H:Hp}{O:Ex}{v:V}{ds:List Yw}(h:Sh K H O v (fS ds)):∃a xs,v= .ref a/\bo K H a xs/\ai K H O xs ds:=by
 cases h with
 | dt h=>
  cases h with
  | scr h r=>
   rcases h with h | h
   ·exact⟨_,_,rfl,.inl h.1,r⟩
   ·exact⟨_,_,rfl,h.of0,r⟩
theorem Sh.int{H:Hp}{O:Ex}{v:V}{i:Int}(h:Sh K H O v (.int i)):v= .int i:=by cases h with | dt h=>cases h;rfl
theorem Sh.bl{H:Hp}{O:Ex}{v:V}{i:Bool}(h:Sh K H O v (.bool i)):v= .bl i:=by cases h with | dt h=>cases h;rfl
theorem Sh.str{H:Hp}{O:Ex}{v:V}{i:Str}(h:Sh K H O v (.str i)):v= .str i:=by cases h with | dt h=>cases h;rfl
theorem Sh.non{H:Hp}{O:Ex}{v:V}(h:Sh K H O v .none):v= .non:=by cases h with | dt h=>cases h;rfl
end
section
variable {X:Cx} {aac:List (Yz×Obj)} {σ:St} {H:Hp} {s:YA}
mutual
theorem iC(I:ag X aac σ H s){O:Ex}:∀{v:V}{d:Yw}{u:Yx},Dt X.K H O v d->d.canLay0=true->aJ v u->∃as,Reads s.heap u d as
 | _,_,_,.non,_,r=>by cases r;exact⟨_,Reads.none⟩
 | _,_,_,.bl b,_,r=>by cases r;exact⟨_,Reads.bool b⟩
 | _,_,_,.int i,_,r=>by obtain⟨t,rfl⟩:=r;exact⟨_,Reads.int i t⟩
 | _,_,_,.str x,_,r=>by obtain⟨t,rfl⟩:=r;exact⟨_,Reads.str x t⟩
 | _,_,_,.tup h _ hs,c,r=>by
  cases r;obtain⟨its,rv,⟨o,e,c',n,dd⟩,_⟩:=I.tuple (.inl h);obtain⟨as,q⟩:=sC I hs (by simpa [RS] using c) rv;exact⟨as,reads_tuple_at e c' dd (by simpa using q)⟩
 | _,_,_,.tupK h hs,c,r=>by
  cases r;obtain⟨its,rv,⟨o,e,c',n,dd⟩,_⟩:=I.tuple h.of0;obtain⟨as,q⟩:=sC I hs (by simpa [RS] using c) rv;exact⟨as,reads_tuple_at e c' dd (by simpa using q)⟩
 | _,_,_,.lst h _ hs,c,r=>by
  cases r;obtain⟨its,rv,⟨o,n,e,c',_,dd⟩,_⟩:=I.list (.inl h);obtain⟨as,q⟩:=sC I hs (by simpa [RS] using c) rv;exact⟨_,reads_list_at e c' dd (by simpa using q)⟩
 | _,_,_,.pack _ _,c,_=>by simp [RS] at c
 | _,_,_,.purse _ _,c,_=>by simp [RS] at c
 | _,_,_,.dct0 _ _,c,_=>by simp [RS] at c
 | _,_,_,.obj _ _ _ _,c,_=>by simp [RS] at c
 | _,_,_,.dic _ _ _ _ _,c,_=>by simp [RS] at c
 | _,_,_,.scr _ _,c,_=>by simp [RS] at c
theorem sC(I:ag X aac σ H s){O:Ex}:∀{vs:List V}{ds:List Yw}{us:List Yx},ai X.K H O vs ds->SH ds=true->aI vs us->∃as,ReadsAll s.heap us ds as
 | _,_,_,.nil,_,r=>by cases r;exact⟨_,ReadsAll.nil⟩
 | _,_,_,.cons h hs,c,r=>by
  rw [SH,R5] at c;cases r with
  | cons r1 r2=>
   obtain⟨as,q⟩:=iC I h c.1 r1;obtain⟨bs,p⟩:=sC I hs c.2 r2;exact⟨_,ReadsAll.cons q p⟩
end
end
inductive Sl where
 | v (d:Yw)
 | o (ds:List Yw)
 | k (kd:List (aq×Yw))
 | i (l C:Yz) (fd:List (Str×Yw))
 | r (l C g u:Yz) (fd:List (Str×Yw)) (gd ud:List (aq×Yw))
 | b (ds:List Yw)
abbrev Dl:=List (Option Sl)
inductive bC (K:QV) (H:Hp) (O:Ex):List (aq×V)->List (aq×Yw)->Prop
 | nil:bC K H O [] []
 | cons {k:aq} {v:V} {d:Yw} {r:List (aq×V)} {s:List (aq×Yw)}:Dt K H O v d->bC K H O r s->bC K H O ((k,v)::r) ((k,d)::s)
theorem bC.step{K:QV}{H H':Hp}{O O':Ex}(S:aH H H' O O'){r:List (aq×V)}{s:List (aq×Yw)}(h:bC K H O r s):bC K H' O' r s:=by
 induction h with
 | nil=>exact .nil
 | cons a _ ih=>exact .cons (a.step S) ih
theorem bC.mono{K:QV}{H H':Hp}{O:Ex}(S:au H H'){r:List (aq×V)}{s:List (aq×Yw)}(h:bC K H O r s):bC K H' O r s:=h.step (.same S)
def iD(K:QV)(H:Hp)(O:Ex)(fs:List (Str×V))(fd:List (Str×Yw)):Prop:=fs.map (·.1)=fd.map (·.1)/\ai K H O (fs.map (·.2)) (fd.map (·.2))
def Sl.own:Sl->Prop
 | .v _=>False
 | .b _=>False
 | _=>True
abbrev b7:Str:=QU "gone"
abbrev c0:Str:=QU "used"
def vB(K:QV)(H:Hp)(O0 O:Ex)(l C g u:Yz)(fd:List (Str×Yw))(gd ud:List (aq×Yw)):Prop:=∃dx fs og ou gv uv,H l=some (.ins C dx (fs++[(b7,.ref g),(c0,.ref u)]))/\iD K H O fs fd/\g≠u/\
 (O g/\¬O0 g/\H g=some (.frz og (.dK gv))/\bC K H O gv gd)/\(O u/\¬O0 u/\H u=some (.frz ou (.dK uv))/\bC K H O uv ud)
def hU(K:QV)(H:Hp)(O0 O:Ex)(x:Option V):Option Sl->Prop
 | none=>True
 | some (.v d)=>∃v,x=some v/\Dt K H O v d
 | some (.o ds)=>∃l vs,x=some (.ref l)/\O l/\¬O0 l/\H l=some (.lst vs)/\ai K H O vs ds
 | some (.k kd)=>∃l kv,x=some (.ref l)/\O l/\¬O0 l/\H l=some (.dK kv)/\bC K H O kv kd
 | some (.i l C fd)=>∃dx fs,x=some (.ref l)/\O l/\¬O0 l/\H l=some (.ins C dx fs)/\iD K H O fs fd
 | some (.r l C g u fd gd ud)=>x=some (.ref l)/\O l/\¬O0 l/\vB K H O0 O l C g u fd gd ud
 | some (.b ds)=>∃l vs,x=some (.ref l)/\O0 l/\H l=some (.lst vs)/\ai K H O vs ds
structure Wd (K:QV) (H0:Hp) (O0:Ex) (H:Hp) (O:Ex) (σ:St) (δ:Dl):Prop where
 same:au H0 H
 sub:∀l,O0 l->O l
 new:∀l,O l->O0 l\/H0 l=none
 trk:∀l,O l->H l≠none
 len:σ.length=δ.length
 sl:∀(i:Nat) y,δ[i]?=some y->hU K H O0 O ((σ[i]?).join) y
 dis:∀(i j:Nat) y z l,δ[i]?=some (some y)->y.own->δ[j]?=some (some z)->z.own->σ[i]?=some (some (.ref l))->σ[j]?=some (some (.ref l))->i=j
section
variable {K:QV} {H0 H H':Hp} {O0 O:Ex} {σ:St} {δ:Dl}
theorem hU.mono{x:Option V}{y:Option Sl}(s:au H H')(h:hU K H O0 O x y):hU K H' O0 O x y:=by
 cases y with
 | none=>exact Tr
 | some y=>
  cases y with
  | v d=>
   obtain⟨v,e,r⟩:=h;exact⟨v,e,r.mono s⟩
  | o ds=>
   obtain⟨l,vs,e,a,b,c,r⟩:=h;exact⟨l,vs,e,a,b,s _ _ c,r.mono s⟩
  | k ds=>
   obtain⟨l,vs,e,a,b,c,r⟩:=h;exact⟨l,vs,e,a,b,s _ _ c,r.mono s⟩
  | i l C ds=>
   obtain⟨dx,vs,e,a,b,c,r1,r2⟩:=h;exact⟨dx,vs,e,a,b,s _ _ c,r1,r2.mono s⟩
  | r l C g u fd gd ud=>
   obtain⟨e,a,b,dx,fs,og,ou,gv,uv,c,⟨r1,r2⟩,ne,⟨g1,g2,g3,g4⟩,u1,u2,u3,u4⟩:=h;exact⟨e,a,b,dx,fs,og,ou,gv,uv,s _ _ c,⟨r1,r2.mono s⟩,ne,⟨g1,g2,s _ _ g3,g4.mono s⟩,u1,u2,s _ _ u3,u4.mono s⟩
  | b ds=>
   obtain⟨l,vs,e,a,c,r⟩:=h;exact⟨l,vs,e,a,s _ _ c,r.mono s⟩
theorem hU.go{O':Ex}{x:Option V}{y:Option Sl}(h:hU K H O0 O x y)(S:aH H H' O O')(kp:∀l o,y.any (λz=>match z with | .v _=>false | .b _=>false | _=>true)=true->x=some (.ref l)->O l->¬O0 l->H l=some o->O' l/\H' l=some o)
 (kp2:∀a o u,O a->¬O0 a->H a=some (.frz o u)->O' a/\H' a=some (.frz o u))(kp3:∀a o,O0 a->H a=some o->H' a=some o):hU K H' O0 O' x y:=by
 cases y with
 | none=>exact Tr
 | some y=>
  cases y with
  | v d=>
   obtain⟨v,e,r⟩:=h;exact⟨v,e,r.step S⟩
  | o ds=>
   obtain⟨l,vs,e,a,b,c,r⟩:=h;exact⟨l,vs,e,(kp l _ rfl e a b c).1,b,(kp l _ rfl e a b c).2,r.step S⟩
  | k ds=>
   obtain⟨l,vs,e,a,b,c,r⟩:=h;exact⟨l,vs,e,(kp l _ rfl e a b c).1,b,(kp l _ rfl e a b c).2,r.step S⟩
  | i l C ds=>
   obtain⟨dx,vs,e,a,b,c,r1,r2⟩:=h;exact⟨dx,vs,e,(kp l _ rfl e a b c).1,b,(kp l _ rfl e a b c).2,r1,r2.step S⟩
  | r l C g u fd gd ud=>
   obtain⟨e,a,b,dx,fs,og,ou,gv,uv,c,⟨r1,r2⟩,ne,⟨g1,g2,g3,g4⟩,u1,u2,u3,u4⟩:=h;exact⟨e,(kp l _ rfl e a b c).1,b,dx,fs,og,ou,gv,uv,(kp l _ rfl e a b c).2,⟨r1,r2.step S⟩,ne,⟨(kp2 _ _ _ g1 g2 g3).1,g2,(kp2 _ _ _ g1 g2 g3).2,g4.step S⟩,(kp2 _ _ _ u1 u2 u3).1,u2,(kp2 _ _ _ u1 u2 u3).2,u4.step S⟩
  | b ds=>
   obtain⟨l,vs,e,a,c,r⟩:=h;exact⟨l,vs,e,a,kp3 _ _ a c,r.step S⟩
theorem Wd.mono(s:au H H')(w:Wd K H0 O0 H O σ δ):Wd K H0 O0 H' O σ δ:=
 ⟨w.same.trans s,w.sub,w.new,λl h z=>(by
  cases e:H l with
  | none=>exact w.trk l h e
  | some o=>rw [s _ _ e] at z;cases z),w.len,λi y e=>(w.sl i y e).mono s,w.dis⟩
theorem fA{i:Nat}{v:V}(h:(σ[i]?).join=some v):σ[i]?=some (some v):=by
 cases q:σ[i]? with
 | none=>rw [q] at h;cases h
 | some o=>rw [q] at h;rw [show o=some v from h]
theorem Wd.val(w:Wd K H0 O0 H O σ δ){i:Nat}{d:Yw}(e:δ[i]?=some (some (.v d))):∃v,σ[i]?=some (some v)/\Dt K H O v d:=by
 obtain⟨v,h,r⟩:=w.sl i _ e;exact⟨v,fA h,r⟩
theorem Wd.own(w:Wd K H0 O0 H O σ δ){i:Nat}{ds:List Yw}(e:δ[i]?=some (some (.o ds))):∃l vs,σ[i]?=some (some (.ref l))/\O l/\¬O0 l/\H l=some (.lst vs)/\ai K H O vs ds:=by
 obtain⟨l,vs,h,r⟩:=w.sl i _ e;exact⟨l,vs,fA h,r⟩
theorem Wd.ownK(w:Wd K H0 O0 H O σ δ){i:Nat}{kd:List (aq×Yw)}(e:δ[i]?=some (some (.k kd))):∃l kv,σ[i]?=some (some (.ref l))/\O l/\¬O0 l/\H l=some (.dK kv)/\bC K H O kv kd:=by
 obtain⟨l,vs,h,r⟩:=w.sl i _ e;exact⟨l,vs,fA h,r⟩
theorem Wd.ownI(w:Wd K H0 O0 H O σ δ){i:Nat}{l C:Yz}{fd:List (Str×Yw)}(e:δ[i]?=some (some (.i l C fd))):∃dx fs,σ[i]?=some (some (.ref l))/\O l/\¬O0 l/\H l=some (.ins C dx fs)/\iD K H O fs fd:=by
 obtain⟨dx,vs,h,r⟩:=w.sl i _ e;exact⟨dx,vs,fA h,r⟩
theorem Wd.adr(w:Wd K H0 O0 H O σ δ){i:Nat}{y:Sl}(e:δ[i]?=some (some y))(h:y.own):∃l,σ[i]?=some (some (.ref l))/\O l/\¬O0 l:=by
 match y,h,e with
 | .o ds,_,e=>obtain⟨l,vs,a,b,c,_⟩:=w.own e;exact⟨l,a,b,c⟩
 | .k ds,_,e=>obtain⟨l,vs,a,b,c,_⟩:=w.ownK e;exact⟨l,a,b,c⟩
 | .i l C ds,_,e=>obtain⟨dx,vs,a,b,c,_⟩:=w.ownI e;exact⟨l,a,b,c⟩
 | .r l C g u fd gd ud,_,e=>obtain⟨a,b,c,_⟩:=w.sl i _ e;exact⟨l,fA a,b,c⟩
theorem Wd.nofrz(w:Wd K H0 O0 H O σ δ){i:Nat}{y:Sl}{l:Yz}(e:δ[i]?=some (some y))(h:y.own)(hl:σ[i]?=some (some (.ref l)))(o:Obj)(u:HO):H l≠some (.frz o u):=by
 match y,h,e with
 | .o ds,_,e=>obtain⟨l',vs,a,b,c,d,_⟩:=w.own e;rw [hl] at a;cases a;rw [d];exact λz=>nomatch z
 | .k ds,_,e=>obtain⟨l',vs,a,b,c,d,_⟩:=w.ownK e;rw [hl] at a;cases a;rw [d];exact λz=>nomatch z
 | .i l C ds,_,e=>obtain⟨dx,vs,a,b,c,d,_⟩:=w.ownI e;rw [hl] at a;cases a;rw [d];exact λz=>nomatch z
 | .r l C g u fd gd ud,_,e=>obtain⟨a,b,c,_,_,_,_,_,_,d,_⟩:=w.sl i _ e;have a:=fA a;rw [hl] at a;cases a;rw [d];exact λz=>nomatch z
theorem Wd.set(w:Wd K H0 O0 H O σ δ){i:Nat}{v:V}{d:Yw}(h:Dt K H O v d):Wd K H0 O0 H O (σ.set i (some v)) (δ.set i (some (.v d))):=by
 refine⟨w.same,w.sub,w.new,w.trk,by simp [w.len],λj y e=>?_,λj k y z l e1 y1 e2 z2 e3 e4=>?_⟩
 ·by_cases hj:j=i
  ·subst hj;have hl:j < δ.length:=by
    have:=(Q7.mp e).1;simpa using this
   rw [Ry hl] at e;cases e;rw [Ry (by rw [w.len];exact hl)];exact⟨v,rfl,h⟩
  ·rw [Rg (Ne.symm hj)] at e⊢;exact w.sl j y e
 ·have ne:∀{j:Nat}{y:Sl},(δ.set i (some (.v d)))[j]?=some (some y)->y.own->j≠i:=λ{j y} e ho z=>by
   subst z;by_cases hl:j < δ.length
   ·rw [Ry hl] at e;cases e;exact ho
   ·rw [SF (by simpa using hl)] at e;cases e
  have n1:=ne e1 y1;have n2:=ne e2 z2;rw [Rg (Ne.symm n1)] at e1 e3;rw [Rg (Ne.symm n2)] at e2 e4;exact w.dis j k y z l e1 y1 e2 z2 e3 e4
theorem Wd.setY(w:Wd K H0 O0 H O σ δ){i:Nat}{p:Yz}{ho:HO}{y0:Sl}(hy:y0.own)(hp:H p=none)(h:∀O',aH H (ah H p ho) O O'->O' p->¬O0 p->hU K (ah H p ho) O0 O' (some (.ref p)) (some y0)):
 Wd K H0 O0 (ah H p ho) (λl=>O l\/l=p) (σ.set i (some (.ref p))) (δ.set i (some y0)):=by
 have sm:au H (ah H p ho):=au.new hp;have np:∀l,O l->l≠p:=λl hl z=>w.trk l hl (by rw [z];exact hp);have p0:H0 p=none:=by
  cases e:H0 p with
  | none=>rfl
  | some o=>rw [w.same _ _ e] at hp;cases hp
 have S:aH H (ah H p ho) O (λl=>O l\/l=p):=⟨λb o e _=>sm b o e,λb hb hn z=>z.elim hn λq=>hb (by rw [q];exact hp)⟩;have n0:¬O0 p:=λz=>np p (w.sub p z) rfl;refine⟨w.same.trans sm,λl z=>.inl (w.sub l z),λl z=>z.elim (w.new l) λq=>.inr (by rw [q];exact p0),λl z=>?_,by simp [w.len],λj y e=>?_,λj k y z l e1 y1 e2 z2 e3 e4=>?_⟩
 ·by_cases q:l=p
  ·rw [q,bq];exact λz=>nomatch z
  ·rw [az q];exact w.trk l (z.resolve_right q)
 ·by_cases hj:j=i
  ·subst hj;have hl:j < δ.length:=by
    have:=(Q7.mp e).1;simpa using this
   rw [Ry hl] at e;cases e;rw [Ry (by rw [w.len];exact hl)];exact h _ S (.inr rfl) n0
  ·rw [Rg (Ne.symm hj)] at e⊢;exact(w.sl j y e).go S (λl o _ _ a _ c=>⟨.inl a,sm _ _ c⟩) (λa o u a1 _ a3=>⟨.inl a1,sm _ _ a3⟩) λa o _ a3=>sm _ _ a3
 ·by_cases hj:j=i
  ·by_cases hk:k=i
   ·rw [hj,hk]
   ·exfalso;rw [hj] at e1 e3;have hl:i < σ.length:=by
     have:=(Q7.mp e3).1;simpa using this
    rw [Ry hl] at e3;cases e3;rw [Rg (Ne.symm hk)] at e2 e4;obtain⟨l',x1,x2,_⟩:=w.adr e2 z2;rw [e4] at x1;cases x1;exact np _ x2 rfl
  ·by_cases hk:k=i
   ·exfalso;rw [hk] at e2 e4;have hl:i < σ.length:=by
     have:=(Q7.mp e4).1;simpa using this
    rw [Ry hl] at e4;cases e4;rw [Rg (Ne.symm hj)] at e1 e3;obtain⟨l',x1,x2,_⟩:=w.adr e1 y1;rw [e3] at x1;cases x1;exact np _ x2 rfl
   ·rw [Rg (Ne.symm hj)] at e1 e3;rw [Rg (Ne.symm hk)] at e2 e4;exact w.dis j k _ _ l e1 y1 e2 z2 e3 e4
theorem Wd.setO(w:Wd K H0 O0 H O σ δ){i:Nat}{p:Yz}{vs:List V}{ds:List Yw}(hp:H p=none)(h:ai K H O vs ds):
 Wd K H0 O0 (ah H p (.lst vs)) (λl=>O l\/l=p) (σ.set i (some (.ref p))) (δ.set i (some (.o ds))):=
 w.setY trivial hp λO' S a b=>⟨p,vs,rfl,a,b,bq,h.step S⟩
theorem Wd.setK(w:Wd K H0 O0 H O σ δ){i:Nat}{p:Yz}{kv:List (aq×V)}{kd:List (aq×Yw)}(hp:H p=none)(h:bC K H O kv kd):
 Wd K H0 O0 (ah H p (.dK kv)) (λl=>O l\/l=p) (σ.set i (some (.ref p))) (δ.set i (some (.k kd))):=
 w.setY trivial hp λO' S a b=>⟨p,kv,rfl,a,b,bq,h.step S⟩
theorem Wd.putY(w:Wd K H0 O0 H O σ δ){i:Nat}{l:Yz}{ho:HO}{y0 y1:Sl}(h0:y0.own)(h1:y1.own)(e:δ[i]?=some (some y0))(hl:σ[i]?=some (some (.ref l)))(h:aH H (ah H l ho) O O->O l->¬O0 l->hU K (ah H l ho) O0 O (some (.ref l)) (some y1)):
 Wd K H0 O0 (ah H l ho) O σ (δ.set i (some y1)):=by
 obtain⟨l',x1,x2,x3⟩:=w.adr e h0;rw [hl] at x1;cases x1;have l0:H0 l=none:=(w.new l x2).resolve_left x3;have S:aH H (ah H l ho) O O:=⟨λb o q n=>by rw [az (λz=>n (by rw [z];exact x2))];exact q,λ_ _ n=>n⟩;have li:i < δ.length:=(Q7.mp e).1;refine⟨λb o q=>by rw [az (λz=>by rw [z,l0] at q;cases q)];exact w.same b o q,w.sub,w.new,λb z=>?_,by simp [w.len],λj y q=>?_,λj k y z b e1 y1' e2 z2 e3 e4=>?_⟩
 ·by_cases q:b=l
  ·rw [q,bq];exact λz=>nomatch z
  ·rw [az q];exact w.trk b z
 ·by_cases hj:j=i
  ·subst hj;rw [Ry li] at q;cases q;rw [hl];exact h S x2 x3
  ·rw [Rg (Ne.symm hj)] at q;refine(w.sl j y q).go S (λb o ho' e' a1 a2 a3=>⟨a1,?_⟩) (λb o u a1 a2 a3=>⟨a1,by rw [az (λz=>w.nofrz e h0 hl o u (by rw [<-z];exact a3))];exact a3⟩) λb o a1 a3=>by rw [az (λz=>x3 (by rw [<-z];exact a1))];exact a3
   have nb:b≠l:=λz=>by
    subst z
    match y,ho',q with
    | some z,ho',q=>exact hj (w.dis j i z y0 b q (by cases z <;> first | trivial | cases ho') e h0 (fA e') hl)
   rw [az nb];exact a3
 ·have eD:∀{j:Nat}{y:Sl},(δ.set i (some y1))[j]?=some (some y)->y.own->∃y',δ[j]?=some (some y')/\y'.own:=λ{j y} q hq=>by
   by_cases hj:j=i
   ·subst hj;exact⟨_,e,h0⟩
   ·rw [Rg (Ne.symm hj)] at q;exact⟨_,q,hq⟩
  obtain⟨_,q1,r1⟩:=eD e1 y1';obtain⟨_,q2,r2⟩:=eD e2 z2;exact w.dis j k _ _ b q1 r1 q2 r2 e3 e4
theorem Wd.putO(w:Wd K H0 O0 H O σ δ){i:Nat}{l:Yz}{vs us:List V}{ds es:List Yw}(e:δ[i]?=some (some (.o ds)))(hl:σ[i]?=some (some (.ref l)))(h:ai K H O us es):
 Wd K H0 O0 (ah H l (.lst us)) O σ (δ.set i (some (.o es))):=
 w.putY (y0:= .o ds) (y1:= .o es) trivial trivial e hl λS a b=>⟨l,us,rfl,a,b,bq,h.step S⟩
theorem Wd.putK(w:Wd K H0 O0 H O σ δ){i:Nat}{l:Yz}{kv:List (aq×V)}{kd kd':List (aq×Yw)}(e:δ[i]?=some (some (.k kd)))(hl:σ[i]?=some (some (.ref l)))(h:bC K H O kv kd'):
 Wd K H0 O0 (ah H l (.dK kv)) O σ (δ.set i (some (.k kd'))):=
 w.putY (y0:= .k kd) (y1:= .k kd') trivial trivial e hl λS a b=>⟨l,kv,rfl,a,b,bq,h.step S⟩
end
abbrev DT:=Dl->(Yw->Prop)->Prop
abbrev DA:=Dl->(List Yw->Prop)->Prop
abbrev DB:=Dl->(Bool->Prop)->Prop
structure dP where
 nx:Dl->Prop
 rt:Yw->Prop
 bk:Dl->Prop:=λ_=>False
 ct:Dl->Prop:=λ_=>False
abbrev DS:=dP->Dl->Prop
section
variable (K:QV) (H0:Hp) (O0:Ex)
inductive up (t:DT) (σ:St) (H:Hp) (R:VK):Prop
 | mk (O:Ex) (δ:Dl) (Qd:Yw->Prop):Wd K H0 O0 H O σ δ->t δ Qd->(∀d v H',Qd d->au H H'->Dt K H' O v d->R v H')->up t σ H R
inductive sE (t:DT) (σ:St) (H:Hp) (R:VK):Prop
 | mk (O:Ex) (δ:Dl) (Qd:Yw->Prop):Wd K H0 O0 H O σ δ->t δ Qd->(∀d v H',Qd d->au H H'->Sh K H' O v d->R v H')->sE t σ H R
inductive fT (t:DA) (σ:St) (H:Hp) (R:List V->Hp->Prop):Prop
 | mk (O:Ex) (δ:Dl) (Qd:List Yw->Prop):Wd K H0 O0 H O σ δ->t δ Qd->(∀ds vs H',Qd ds->au H H'->ai K H' O vs ds->R vs H')->fT t σ H R
inductive bT (t:DB) (σ:St) (H:Hp) (R:Bool->Hp->Prop):Prop
 | mk (O:Ex) (δ:Dl) (Qd:Bool->Prop):Wd K H0 O0 H O σ δ->t δ Qd->(∀b H',Qd b->au H H'->R b H')->bT t σ H R
inductive bf (t:DS) (D:iy) (σ:St) (H:Hp):Prop
 | mk (O:Ex) (δ:Dl) (E:dP):Wd K H0 O0 H O σ δ->t E δ->(∀O' δ' σ' H',E.nx δ'->Wd K H0 O0 H' O' σ' δ'->aH H H' O O'->D.nx σ' H')->(∀d v H',E.rt d->au H0 H'->Dt K H' O0 v d->D.rt v H')->
 (∀O' δ' σ' H',E.bk δ'->Wd K H0 O0 H' O' σ' δ'->aH H H' O O'->D.bk σ' H')->(∀O' δ' σ' H',E.ct δ'->Wd K H0 O0 H' O' σ' δ'->aH H H' O O'->D.ct σ' H')->bf t D σ H
end
theorem PE.imp{X:Cx}{e:YF}{t u:TE}(h:PE X e t)(i:∀σ H Q,u σ H Q->t σ H Q):PE X e u:=λaac s σ H Q I z=>h aac s σ H Q I (i σ H Q z)
theorem PT.imp{X:Cx}{e:YF}{t u:TT}(h:PT X e t)(i:∀σ H Q,u σ H Q->t σ H Q):PT X e u:=λaac s σ H Q I z=>h aac s σ H Q I (i σ H Q z)
theorem PW.imp{X:Cx}{e:YF}{t u:TT}(h:PW X e t)(i:∀σ H Q,u σ H Q->t σ H Q):PW X e u:=λwh aac s σ H Q I z=>h wh aac s σ H Q I (i σ H Q z)
theorem PA.imp{X:Cx}{e:List YF}{t u:TA}(h:PA X e t)(i:∀σ H Q,u σ H Q->t σ H Q):PA X e u:=λpos aac s σ H Q I z=>h pos aac s σ H Q I (i σ H Q z)
theorem PS.imp{X:Cx}{e:YL}{t u:TS}(h:PS X e t)(i:∀D σ H,u D σ H->t D σ H):PS X e u:=λaac s σ H D I z=>h aac s σ H D I (i D σ H z)
theorem bP.imp{X:Cx}{e:List YL}{t u:TS}(h:bP X e t)(i:∀D σ H,u D σ H->t D σ H):bP X e u:=λaac s σ H D I z=>h aac s σ H D I (i D σ H z)
section
variable {X:Cx} {H0:Hp} {O0:Ex}
abbrev DE(X:Cx)(H0:Hp)(O0:Ex)(e:YF)(t:DT):Prop:=PE X e (up X.K H0 O0 t)
abbrev DF(X:Cx)(H0:Hp)(O0:Ex)(e:YF)(t:DT):Prop:=PE X e (sE X.K H0 O0 t)
theorem df{e:YF}{t:DT}(h:DE X H0 O0 e t):DF X H0 O0 e t:=h.imp λσ H Q uu64=>by obtain⟨O,δ,Qd,w,q,k⟩:=uu64;exact⟨O,δ,Qd,w,q,λd v H' a b c=>k d v H' a b (.dt c)⟩
def vC(Q:Yw->Prop):Option (Option Sl)->Prop
 | some (some (.v d))=>Q d
 | _=>False
def bZ(i:Nat):DT:=λδ Q=>vC Q δ[i]?
theorem BW{Q:Yw->Prop}{o:Option (Option Sl)}:vC Q o↔∃d,o=some (some (.v d))/\Q d:=by
 constructor
 ·intro h
  match o,h with
  | some (some (.v d)),h=>exact⟨d,rfl,h⟩
 ·rintro⟨d,rfl,h⟩;exact h
theorem JK{i:Nat}{δ:Dl}{Q:Yw->Prop}(h:bZ i δ Q):∃d,δ[i]?=some (some (.v d))/\Q d:=BW.mp h
def jM(i:Nat):DT:=λδ Q=>∃ds,δ[i]?=some (some (.o ds))/\Q (.list ds)
def dC(d:Yw):DT:=λ_ Q=>Q d
theorem dv(i:Nat){x:Str}{pos:Pos}(hN:X.N[i]?=some x:=by rfl)(hv:qc X.env.scope x:=by first | exact WR rfl | exact VJ (WR rfl) | exact VJ (VJ rfl))
 (hd:(x==("__debug__":Str))=false:=by decide)(hcd:(x==("__classdict__":Str))=false:=by decide):DE X H0 O0 (.Name x pos) (bZ i):=
 (uM hN hv hd hcd).imp λσ H Q uu65=>by
  obtain⟨O,δ,Qd,w,dq,k⟩:=uu65;obtain⟨d,e,q⟩:=JK dq;obtain⟨v,h,r⟩:=w.val e;exact⟨v,h,k d v H q (au.refl _) r⟩
theorem dw(i:Nat){x:Str}{pos:Pos}(hN:X.N[i]?=some x:=by rfl)(hv:qc X.env.scope x:=by first | exact WR rfl | exact VJ (WR rfl) | exact VJ (VJ rfl))
 (hd:(x==("__debug__":Str))=false:=by decide)(hcd:(x==("__classdict__":Str))=false:=by decide):DF X H0 O0 (.Name x pos) (jM i):=
 (uM hN hv hd hcd).imp λσ H Q uu66=>by
  obtain⟨O,δ,Qd,w,⟨ds,e,q⟩,k⟩:=uu66;obtain⟨l,vs,h,_,_,r,rs⟩:=w.own e;exact⟨_,h,k _ _ H q (au.refl _) (.own r rs)⟩
theorem dc{e:YF}{v:V}{d:Yw}(h:PE X e (tC v))(r:∀H O,Dt X.K H O v d):DE X H0 O0 e (dC d):=h.imp λσ H Q uu67=>by obtain⟨O,δ,Qd,w,q,k⟩:=uu67;exact k d v H q (au.refl _) (r H O)
theorem af{i j pos}:DE X H0 O0 (.Constant (.int i) j pos) (dC (.int i)):=dc bL λ_ _=>.int i
theorem vD{b j pos}:DE X H0 O0 (.Constant (.bool b) j pos) (dC (.bool b)):=dc AJ λ_ _=>.bl b
theorem gE{j pos}:DE X H0 O0 (.Constant .none j pos) (dC .none):=dc Hr λ_ _=>.non
theorem aX{x j pos}:DE X H0 O0 (.Constant (.str x) j pos) (dC (.str x)):=dc uN λ_ _=>.str x
def gF:DA:=λ_ Q=>Q []
def hV(t:DT)(u:DA):DA:=λδ Q=>t δ λd=>u δ λds=>Q (d::ds)
theorem aj:PA X [] (fT X.K H0 O0 gF):=b5.imp λσ H Q uu68=>by obtain⟨O,δ,Qd,w,q,k⟩:=uu68;exact k [] [] H q (au.refl _) .nil
theorem aa{e:YF}{es:List YF}{t:DT}{u:DA}(h:DE X H0 O0 e t)(hs:PA X es (fT X.K H0 O0 u))(he:YD (e::es) X.env=(false,eval e X.env)::YD es X.env:=by rfl):PA X (e::es) (fT X.K H0 O0 (hV t u)):=
 (bw h hs he).imp λσ H Q uu69=>by obtain⟨O,δ,Qd,w,q,k⟩:=uu69;exact⟨O,δ,_,w,q,λd v H1 q1 s1 r1=>⟨O,δ,_,w.mono s1,q1,λds vs H2 q2 s2 r2=>k (d::ds) (v::vs) H2 q2 (s1.trans s2) (.cons (r1.mono s2) r2)⟩⟩
def jN(t:DA):DT:=λδ Q=>t δ λds=>ds.length<=YH/\Q (.tuple ds)
theorem sF{H:Hp}{O:Ex}{σ:St}{δ:Dl}{H1:Hp}{p:Yz}{K:QV}(w:Wd K H0 O0 H O σ δ)(s:au H H1)(hp:H1 p=none):¬O p:=λz=>(w.mono s).trk p z hp
theorem bH{es:List YF}{t:DA}{x1}{pos:Pos}(h:PA X es (fT X.K H0 O0 t)):DE X H0 O0 (.Tuple es x1 pos) (jN t):=
 (Br h).imp λσ H Q uu70=>by obtain⟨O,δ,Qd,w,q,k⟩:=uu70;exact⟨O,δ,_,w,q,λds vs H1 q1 s1 r1=>⟨by rw [r1.length];exact q1.1,λp hp=>k _ _ _ q1.2 (s1.trans (au.new hp)) (.tup (.inl bq) (sF w s1 hp) (r1.mono (au.new hp)))⟩⟩
end
theorem aH.refl(H:Hp)(O:Ex):aH H H O O:=⟨λ_ _ e _=>e,λ_ _ n=>n⟩
theorem aH.trans{H H1 H2:Hp}{O O1 O2:Ex}(a:aH H H1 O O1)(b:aH H1 H2 O1 O2):aH H H2 O O2:=by
 refine⟨λc o e n=>?_,λc e n=>?_⟩
 ·have h1:=a.keep c o e n;exact b.keep c o h1 (a.out c (by rw [e];exact λz=>nomatch z) n)
 ·cases q:H c with
  | none=>exact absurd q e
  | some o=>exact b.out c (by rw [a.keep c o q n];exact λz=>nomatch z) (a.out c e n)
section
variable {X:Cx} {H0:Hp} {O0:Ex}
def cw(K:QV)(r:R2)(rd:Yw->Yw->(Yw->Prop)->Prop):Prop:=
 ∀(H:Hp)(O:Ex)(x y:V)(dx dy:Yw)(Qd:Yw->Prop)(R:VK),(∀l,O l->H l≠none)->Sh K H O x dx->Sh K H O y dy->rd dx dy Qd->(∀d v H',Qd d->au H H'->Dt K H' O v d->R v H')->r x y H R
def cC(rd:Yw->Yw->(Yw->Prop)->Prop)(ta tb:DT):DT:=λδ Q=>ta δ λx=>tb δ λy=>rd x y Q
theorem sG{K:QV}{r:R2}{rd:Yw->Yw->(Yw->Prop)->Prop}{ta tb:DT}(hd:cw K r rd):∀σ H Q,up K H0 O0 (cC rd ta tb) σ H Q->oX r (sE K H0 O0 ta) (sE K H0 O0 tb) σ H Q:=
 λσ H Q uu71=>by obtain⟨O,δ,Qd,w,q,k⟩:=uu71;exact⟨O,δ,_,w,q,λx v H1 q1 s1 r1=>⟨O,δ,_,w.mono s1,q1,λy u H2 q2 s2 r2=>hd H2 O v u x y Qd _ (w.mono (s1.trans s2)).trk (r1.mono s2) r2 q2 λd z H3 qd s3 r3=>k d z H3 qd (s1.trans (s2.trans s3)) r3⟩⟩
theorem ar{a b:YF}{ta tb:DT}{op:Operator}{r:R2}{rd:Yw->Yw->(Yw->Prop)->Prop}{pos:Pos}(ho:bG X (Y8 op) r)(hd:cw X.K r rd)(ha:DF X H0 O0 a ta)(hb:DF X H0 O0 b tb):DE X H0 O0 (.BinOp a op b pos) (cC rd ta tb):=(bE ho ha hb).imp (sG hd)
theorem dG{a b:YF}{ta tb:DT}{op:CmpOp}{r:R2}{rd:Yw->Yw->(Yw->Prop)->Prop}{pos:Pos}(ho:bG X (YU op) r)(hd:cw X.K r rd)(ha:DF X H0 O0 a ta)(hb:DF X H0 O0 b tb)(hm:Y3 op b=false):DE X H0 O0 (.Compare a [op] [b] pos) (cC rd ta tb):=(rS ho ha hb hm).imp (sG hd)
def c7(t:DT):DB:=λδ Q=>t δ λd=>∃b,d= .bool b/\Q b
theorem aQ{a b:YF}{ta tb:DT}{op:CmpOp}{r:R2}{rd:Yw->Yw->(Yw->Prop)->Prop}{pos:Pos}(ho:bG X (YU op) r)(hd:cw X.K r rd)(ha:DF X H0 O0 a ta)(hb:DF X H0 O0 b tb)(hm:Y3 op b=false):PT X (.Compare a [op] [b] pos) (bT X.K H0 O0 (c7 (cC rd ta tb))):=
 (nR ho ha hb hm).imp λσ H Q uu72=>by obtain⟨O,δ,Qd,w,q,k⟩:=uu72;exact sG hd σ H _ ⟨O,δ,_,w,q,λd v H' uu73 s r=>by obtain⟨b,e,qb⟩:=uu73;subst e;cases r;exact⟨b,rfl,k b H' qb s⟩⟩
theorem jf{e:YF}{t:DT}(h:DE X H0 O0 e t)(he:∀whole,isTrue e X.env whole=(do let v<-whole;ZR e.pos;ZH [v] (truthy v)):=by intro _;rfl):PT X e (bT X.K H0 O0 (c7 t)):=
 (AL h he).imp λσ H Q uu74=>by obtain⟨O,δ,Qd,w,q,k⟩:=uu74;exact⟨O,δ,_,w,q,λd v H' uu75 s r=>by obtain⟨b,e,qb⟩:=uu75;subst e;cases r;exact⟨b,rfl,k b H' qb s⟩⟩
def gG(t u:DB):DB:=λδ Q=>t δ λc=>if c=true then u δ Q else Q false
def jg(t u:DB):DB:=λδ Q=>t δ λc=>if c=true then Q true else u δ Q
def jO(t:DB):DB:=λδ Q=>t δ λc=>Q (!c)
theorem fB{a:YF}{t:DB}{pos:Pos}(h:PT X a (bT X.K H0 O0 t)):PW X (.BoolOp .And [a] pos) (bT X.K H0 O0 t):=AQ h
theorem sH{a:YF}{t:DB}{pos:Pos}(h:PT X a (bT X.K H0 O0 t)):PW X (.BoolOp .Or [a] pos) (bT X.K H0 O0 t):=Hu h
theorem fC{a b:YF}{rest:List YF}{t u:DB}{pos:Pos}(h:PT X a (bT X.K H0 O0 t))(hb:PW X (.BoolOp .And (b::rest) pos) (bT X.K H0 O0 u)):PW X (.BoolOp .And (a::b::rest) pos) (bT X.K H0 O0 (gG t u)):=
 (AR h hb).imp λσ H Q uu76=>by obtain⟨O,δ,Qd,w,q,k⟩:=uu76;exact⟨O,δ,_,w,q,λc H1 q1 s1=>by
  cases c with
  | true=>exact⟨O,δ,_,w.mono s1,q1,λb H2 q2 s2=>k b H2 q2 (s1.trans s2)⟩
  | false=>exact k false H1 q1 s1⟩
theorem sI{a b:YF}{rest:List YF}{t u:DB}{pos:Pos}(h:PT X a (bT X.K H0 O0 t))(hb:PW X (.BoolOp .Or (b::rest) pos) (bT X.K H0 O0 u)):PW X (.BoolOp .Or (a::b::rest) pos) (bT X.K H0 O0 (jg t u)):=
 (Hv h hb).imp λσ H Q uu77=>by obtain⟨O,δ,Qd,w,q,k⟩:=uu77;exact⟨O,δ,_,w,q,λc H1 q1 s1=>by
  cases c with
  | false=>exact⟨O,δ,_,w.mono s1,q1,λb H2 q2 s2=>k b H2 q2 (s1.trans s2)⟩
  | true=>exact k true H1 q1 s1⟩
theorem pd{a:YF}{t:DB}{pos:Pos}(h:PT X a (bT X.K H0 O0 t)):PT X (.UnaryOp .Not a pos) (bT X.K H0 O0 (jO t)):=
 (Hw h).imp λσ H Q uu78=>by obtain⟨O,δ,Qd,w,q,k⟩:=uu78;exact⟨O,δ,_,w,q,λc H1 q1 s1=>k (!c) H1 q1 s1⟩
def jP(t u:DT):DT:=λδ Q=>t δ λd=>∃c,d= .bool c/\if c=true then u δ Q else Q (.bool false)
def jQ(t u:DT):DT:=λδ Q=>t δ λd=>∃c,d= .bool c/\if c=true then Q (.bool true) else u δ Q
theorem qA{op}{a:YF}{t:DT}{pos:Pos}(h:DE X H0 O0 a t):DE X H0 O0 (.BoolOp op [a] pos) t:=uO h
theorem qB{a b:YF}{rest:List YF}{t u:DT}{pos:Pos}(h:DE X H0 O0 a t)(hb:DE X H0 O0 (.BoolOp .And (b::rest) pos) u):DE X H0 O0 (.BoolOp .And (a::b::rest) pos) (jP t u):=
 (AV h hb).imp λσ H Q ⟨O,δ,Qd,w,q,k⟩=>⟨O,δ,_,w,q,λd v H1 uu80 s1 r=>by
  obtain⟨c,e,q1⟩:=uu80;subst e;cases r;refine⟨c,rfl,?_⟩;cases c with
  | true=>exact⟨O,δ,_,w.mono s1,q1,λd v H2 q2 s2 r2=>k d v H2 q2 (s1.trans s2) r2⟩
  | false=>exact k _ _ H1 q1 s1 (.bl false)⟩
theorem JL{a b:YF}{rest:List YF}{t u:DT}{pos:Pos}(h:DE X H0 O0 a t)(hb:DE X H0 O0 (.BoolOp .Or (b::rest) pos) u):DE X H0 O0 (.BoolOp .Or (a::b::rest) pos) (jQ t u):=
 (AW h hb).imp λσ H Q ⟨O,δ,Qd,w,q,k⟩=>⟨O,δ,_,w,q,λd v H1 uu82 s1 r=>by
  obtain⟨c,e,q1⟩:=uu82;subst e;cases r;refine⟨c,rfl,?_⟩;cases c with
  | false=>exact⟨O,δ,_,w.mono s1,q1,λd v H2 q2 s2 r2=>k d v H2 q2 (s1.trans s2) r2⟩
  | true=>exact k _ _ H1 q1 s1 (.bl true)⟩
def jR(c:DB)(t u:DT):DT:=λδ Q=>c δ λb=>if b=true then t δ Q else u δ Q
theorem qC{c a b:YF}{tc:DB}{t u:DT}{pos:Pos}(hc:PT X c (bT X.K H0 O0 tc))(ha:DE X H0 O0 a t)(hb:DE X H0 O0 b u):DE X H0 O0 (.IfExp c a b pos) (jR tc t u):=
 (AY hc ha hb).imp λσ H Q uu83=>by obtain⟨O,δ,Qd,w,q,k⟩:=uu83;exact⟨O,δ,_,w,q,λc H1 q1 s1=>by
  cases c with
  | true=>exact⟨O,δ,_,w.mono s1,q1,λd v H2 q2 s2 r2=>k d v H2 q2 (s1.trans s2) r2⟩
  | false=>exact⟨O,δ,_,w.mono s1,q1,λd v H2 q2 s2 r2=>k d v H2 q2 (s1.trans s2) r2⟩⟩
inductive aU (K:QV) (F:List Yw->(Yw->Prop)->Prop) (vs:List V) (H:Hp) (Q:VK) (E:XK):Prop
 | mk (O:Ex) (ds:List Yw) (Qd:Yw->Prop):(∀l,O l->H l≠none)->ai K H O vs ds->F ds Qd->(∀d v H',Qd d->au H H'->Dt K H' O v d->Q v H')->aU K F vs H Q E
def gH(F:List Yw->(Yw->Prop)->Prop)(t:DA):DT:=λδ Q=>t δ λds=>F ds Q
theorem aN{K:QV}{F:List Yw->(Yw->Prop)->Prop}{t:DA}{E:XK}:∀σ H Q,up K H0 O0 (gH F t) σ H Q->oZ (aU K F) [] E (fT K H0 O0 t) σ H Q:=
 λσ H Q uu84=>by obtain⟨O,δ,Qd,w,q,k⟩:=uu84;exact⟨O,δ,_,w,q,λds vs H1 q1 s1 r1=>⟨O,ds,Qd,(w.mono s1).trk,by rw [RN];exact r1,q1,λd v H2 q2 s2 r2=>k d v H2 q2 (s1.trans s2) r2⟩⟩
inductive pe (K:QV) (H:Hp) (O:Ex):List V->List Yw->Prop
 | nil:pe K H O [] []
 | cons {v:V} {d:Yw} {vs:List V} {ds:List Yw}:Sh K H O v d->pe K H O vs ds->pe K H O (v::vs) (d::ds)
inductive hZ (K:QV) (H0:Hp) (O0:Ex) (t:DA) (σ:St) (H:Hp) (R:List V->Hp->Prop):Prop
 | mk (O:Ex) (δ:Dl) (Qd:List Yw->Prop):Wd K H0 O0 H O σ δ->t δ Qd->(∀ds vs H',Qd ds->au H H'->pe K H' O vs ds->R vs H')->hZ K H0 O0 t σ H R
theorem br:PA X [] (hZ X.K H0 O0 gF):=b5.imp λσ H Q uu85=>by obtain⟨O,δ,Qd,w,q,k⟩:=uu85;exact k [] [] H q (au.refl _) .nil
theorem bj{e:YF}{es:List YF}{t:DT}{u:DA}(h:DF X H0 O0 e t)(hs:PA X es (hZ X.K H0 O0 u))(he:YD (e::es) X.env=(false,eval e X.env)::YD es X.env:=by rfl):PA X (e::es) (hZ X.K H0 O0 (hV t u)):=
 (bw h hs he).imp λσ H Q uu86=>by obtain⟨O,δ,Qd,w,q,k⟩:=uu86;exact⟨O,δ,_,w,q,λd v H1 q1 s1 r1=>⟨O,δ,_,w.mono s1,q1,λds vs H2 q2 s2 r2=>k (d::ds) (v::vs) H2 q2 (s1.trans s2) (.cons (r1.mono s2) r2)⟩⟩
def jh(K:QV)(r:List V->Hp->VK->Prop)(rd:List Yw->(Yw->Prop)->Prop):Prop:=
 ∀(H:Hp)(O:Ex)(xs:List V)(ds:List Yw)(Qd:Yw->Prop)(R:VK),(∀l,O l->H l≠none)->pe K H O xs ds->rd ds Qd->(∀d v H',Qd d->au H H'->Dt K H' O v d->R v H')->r xs H R
theorem bz{K:QV}{r:List V->Hp->VK->Prop}{rd:List Yw->(Yw->Prop)->Prop}{t:DA}(hd:jh K r rd):∀σ H Q,up K H0 O0 (gH rd t) σ H Q->rY r (hZ K H0 O0 t) σ H Q:=
 λσ H Q uu87=>by obtain⟨O,δ,Qd,w,q,k⟩:=uu87;exact⟨O,δ,_,w,q,λds vs H1 q1 s1 r1=>hd H1 O vs ds Qd _ (w.mono s1).trk r1 q1 λd v H2 q2 s2 r2=>k d v H2 q2 (s1.trans s2) r2⟩
def fg(t u:DS):DS:=λE δ=>t {E with nx:=u E} δ
theorem ao{st:YL}{rest:List YL}{t u:DS}(h:PS X st (bf X.K H0 O0 t))(h2:bP X rest (bf X.K H0 O0 u)):bP X (st::rest) (bf X.K H0 O0 (fg t u)):=
 (cO h h2).imp λD σ H uu88=>by obtain⟨O,δ,E,w,q,k1,k2,k3,k4⟩:=uu88;exact⟨O,δ,_,w,q,λO' δ' σ' H' z w' S=>⟨O',δ',E,w',z,λO2 δ2 σ2 H2 z2 w2 S2=>k1 O2 δ2 σ2 H2 z2 w2 (S.trans S2),k2,λO2 δ2 σ2 H2 z2 w2 S2=>k3 O2 δ2 σ2 H2 z2 w2 (S.trans S2),λO2 δ2 σ2 H2 z2 w2 S2=>k4 O2 δ2 σ2 H2 z2 w2 (S.trans S2)⟩,k2,k3,k4⟩
def ji:DS:=λE δ=>E.nx δ
theorem bI:bP X [] (bf X.K H0 O0 ji):=oR.imp λD σ H uu89=>by obtain⟨O,δ,E,w,q,k1,k2,k3,k4⟩:=uu89;exact k1 O δ σ H q w (aH.refl _ _)
theorem aw{st:YL}{t:DS}(h:PS X st (bf X.K H0 O0 t)):bP X [st] (bf X.K H0 O0 t):=eY h
def fU(i:Nat)(t:DT):DS:=λE δ=>t δ λd=>E.nx (δ.set i (some (.v d)))
theorem bg{i:Nat}{x:Str}{e:YF}{t:DT}{pos pos':Pos}(hN:X.N.Nodup)(hi:X.N[i]?=some x)(hx:g8 X.env.scope x)(he:DE X H0 O0 e t)(hs:YS e (some (.Name x pos')) pos.line X.env=pure false:=by rfl)(hf:X.fn x=true\/X.env.scope.names.lookup x=some .local:=by first | exact .inl rfl | exact .inr rfl | assumption):
 PS X (.Assign [.Name x pos'] e pos) (bf X.K H0 O0 (fU i t)):=
 (d7 hN hi hx he hs hf).imp λD σ H uu90=>by obtain⟨O,δ,E,w,q,k1,k2,k3,k4⟩:=uu90;exact⟨O,δ,_,w,q,λd v H1 q1 s1 r1=>k1 O _ _ H1 q1 ((w.mono s1).set r1) (.same s1)⟩
def jS(t:DT):DS:=λE δ=>t δ E.rt
theorem eD{K:QV}{H:Hp}{O:Ex}{σ:St}{δ:Dl}(w:Wd K H0 O0 H O σ δ):aH H H O O0:=⟨λ_ _ e _=>e,λb _ n z=>n (w.sub b z)⟩
theorem aR{e:YF}{t:DT}{pos:Pos}(he:DE X H0 O0 e t):PS X (.Return (some e) pos) (bf X.K H0 O0 (jS t)):=
 (fN he).imp λD σ H uu91=>by obtain⟨O,δ,E,w,q,k1,k2,k3,k4⟩:=uu91;exact⟨O,δ,_,w,q,λd v H1 q1 s1 r1=>k2 d v H1 q1 (w.same.trans s1) (r1.step (eD (w.mono s1)))⟩
def iE(i:Nat):DS:=λE δ=>∃ds,δ[i]?=some (some (.o ds))/\E.rt (.list ds)
theorem qD{e:YF}{i:Nat}{pos:Pos}(he:PE X e (cK i)):PS X (.Return (some e) pos) (bf X.K H0 O0 (iE i)):=
 (fN he).imp λD σ H uu92=>by
  obtain⟨O,δ,E,w,⟨ds,e,q⟩,k1,k2,k3,k4⟩:=uu92;obtain⟨l,vs,h,a,b,c,r⟩:=w.own e;exact⟨_,h,k2 _ _ H q w.same (.lst (.inl c) b (r.step (eD w)))⟩
def fD(c:DB)(t u:DS):DS:=λE δ=>c δ λb=>if b=true then t E δ else u E δ
theorem bJ{c:YF}{a b:List YL}{tc:DB}{t u:DS}{pos:Pos}(hc:PT X c (bT X.K H0 O0 tc))(ha:bP X a (bf X.K H0 O0 t))(hb:bP X b (bf X.K H0 O0 u)):PS X (.If c a b pos) (bf X.K H0 O0 (fD tc t u)):=
 (oT hc ha hb).imp λD σ H uu93=>by obtain⟨O,δ,E,w,q,k1,k2,k3,k4⟩:=uu93;exact⟨O,δ,_,w,q,λc H1 q1 s1=>by
  have g:∀{t':DS},t' E δ->bf X.K H0 O0 t' D σ H1:=λz=>⟨O,δ,E,w.mono s1,z,λO2 δ2 σ2 H2 z2 w2 S2=>k1 O2 δ2 σ2 H2 z2 w2 (aH.trans (.same s1) S2),k2,λO2 δ2 σ2 H2 z2 w2 S2=>k3 O2 δ2 σ2 H2 z2 w2 (aH.trans (.same s1) S2),λO2 δ2 σ2 H2 z2 w2 S2=>k4 O2 δ2 σ2 H2 z2 w2 (aH.trans (.same s1) S2)⟩;cases c with
  | true=>exact g q1
  | false=>exact g q1⟩
inductive nV (K:QV) (H0:Hp) (O0:Ex) (t:DA) (σ:St) (H:Hp) (R:VK):Prop
 | mk (O:Ex) (δ:Dl) (Qd:List Yw->Prop):Wd K H0 O0 H O σ δ->t δ Qd->(∀ds vs p H',Qd ds->au H H'->H' p=none->ai K H' O vs ds->R (.ref p) (ah H' p (.lst vs)))->nV K H0 O0 t σ H R
abbrev FE(X:Cx)(H0:Hp)(O0:Ex)(e:YF)(t:DA):Prop:=PE X e (nV X.K H0 O0 t)
def dL(t:DA):DT:=λδ Q=>t δ λds=>Q (.list ds)
theorem fe{e:YF}{t:DA}(h:FE X H0 O0 e t):DE X H0 O0 e (dL t):=
 h.imp λσ H Q uu94=>by obtain⟨O,δ,Qd,w,q,k⟩:=uu94;exact⟨O,δ,_,w,q,λds vs p H1 q1 s1 hp r1=>k _ _ _ q1 (s1.trans (au.new hp)) (.lst (.inl bq) (sF w s1 hp) (r1.mono (au.new hp)))⟩
def jj(t:DA):DA:=λδ Q=>t δ λds=>ds.length<=YH/\Q ds
theorem bV{es:List YF}{t:DA}{pos:Pos}(h:PA X es (fT X.K H0 O0 t)):FE X H0 O0 (.List es pos) (jj t):=
 (Ik h).imp λσ H Q uu95=>by obtain⟨O,δ,Qd,w,q,k⟩:=uu95;exact⟨O,δ,_,w,q,λds vs H1 q1 s1 r1=>⟨by rw [r1.length];exact q1.1,λp hp=>k _ _ _ _ q1.2 s1 hp r1⟩⟩
def iF(i:Nat)(t:DA):DS:=λE δ=>t δ λds=>E.nx (δ.set i (some (.o ds)))
theorem iG{i:Nat}{x:Str}{e:YF}{t:DA}{pos pos':Pos}(hN:X.N.Nodup)(hi:X.N[i]?=some x)(hx:g8 X.env.scope x)(he:FE X H0 O0 e t)(hs:YS e (some (.Name x pos')) pos.line X.env=pure false:=by rfl)(hf:X.fn x=true\/X.env.scope.names.lookup x=some .local:=by first | exact .inl rfl | exact .inr rfl | assumption):
 PS X (.Assign [.Name x pos'] e pos) (bf X.K H0 O0 (iF i t)):=
 (d7 hN hi hx he hs hf).imp λD σ H ⟨O,δ,E,w,q,k1,k2,k3,k4⟩=>⟨O,δ,_,w,q,λds vs p H1 q1 s1 hp r1=>k1 _ _ _ _ q1 ((w.mono s1).setO hp r1)
  ⟨λb o e _=>(s1.trans (au.new hp)) b o e,λb e n z=>z.elim n λy=>by
   cases q:H b with
   | none=>exact e q
   | some o=>have:=s1 _ _ q;rw [y,hp] at this;cases this⟩⟩
def jT(i:Nat)(t:DT):DS:=λE δ=>∃ds,δ[i]?=some (some (.o ds))/\t δ λd=>ds.length < YH/\E.nx (δ.set i (some (.o (ds++[d]))))
theorem lU{i:Nat}{o e:YF}{t:DT}{apos cpos pos:Pos}(ho:PE X o (cK i))(he:DE X H0 O0 e t)(hbase:Y4 o "append" X.env (eval o X.env)=eval o X.env:=by rfl)
 (hfew:((YR cpos (YD [e] X.env)).all (λx=>!x.1) && (Zk cpos (Y6 [] X.env)).all (λx=>x.1.isSome) && decide ([e].length+([]:List Zj).length+(if ([]:List Zj).isEmpty then 0 else 1) < 30))=true:=by rfl)
 (hline:(apos.endLine==cpos.line)=true:=by rfl)(hst:YD [e] X.env=(false,eval e X.env)::YD [] X.env:=by rfl)(hplain:(YR cpos (YD [] X.env)).any (·.1)=false:=by rfl)
 (hs:YS (.Call (.Attribute o "append" apos) [e] [] cpos) none pos.line X.env=pure false:=by rfl):PS X (.Expr (.Call (.Attribute o "append" apos) [e] [] cpos) pos) (bf X.K H0 O0 (jT i t)):=
 (qh (sf UJ PySem.F.slot_list_append PySem.F.type_list_append BJ ho (bw he b5 hst) hbase hfew hline hst hplain) hs).imp λD σ H uu0=>by
  obtain⟨O,δ,E,w,⟨ds,e,q⟩,k1,k2,k3,k4⟩:=uu0;obtain⟨l,vs,h,a,b,c,r⟩:=w.own e;refine⟨_,h,.inl ⟨rfl,_,bo.of c⟩,O,δ,_,w,q,λd v H1 q1 s1 r1=>?_⟩;refine⟨l,vs,v,rfl,rfl,s1 _ _ c,by rw [r.length];exact q1.1,?_⟩;exact k1 _ _ _ _ q1.2 ((w.mono s1).putO (vs:=vs) e h ((r.mono s1).append (.cons r1 .nil))) ⟨λb' o' z n=>by rw [az (λy=>n (by rw [y];exact a))];exact s1 _ _ z,λ_ _ n=>n⟩
end
structure cV (J:It) (P:Hp->Prop) (vs:List V):Prop where
 go:∀i H',P H'->i < vs.length->J.go i H'
 yl:∀i H' x H'',P H'->i < vs.length->J.yld i H' x H''->H''=H'/\vs[i]?=some x
 st:∀i H',P H'->vs.length<=i->J.stop i H'
def pf(H1:Hp)(a:Yz)(H':Hp):Prop:=∀o,H1 a=some o->H' a=some o
theorem bo.keep{K:QV}{H H':Hp}{a:Yz}{xs:List V}(s:pf H a H')(h:bo K H a xs):bo K H' a xs:=by
 rcases h with(h | ⟨o,h⟩) | h
 ·exact .inl (.inl (s _ h))
 ·exact .inl (.inr ⟨o,s _ h⟩)
 ·exact .inr h
theorem aZ.keep{K:QV}{H H':Hp}{a:Yz}{xs:List V}(s:pf H a H')(h:aZ K H a xs):aZ K H' a xs:=by
 rcases h with(h | ⟨o,h⟩) | h
 ·exact .inl (.inl (s _ h))
 ·exact .inl (.inr ⟨o,s _ h⟩)
 ·exact .inr h
theorem cV.list{K:QV}{H:Hp}{a:Yz}{vs:List V}(h:bo K H a vs):cV (oV K a) (pf H a) vs:=
 ⟨λi H' s hi=>⟨vs,vs[i],h.keep s,by simp [hi]⟩,λi H' x H'' s _ y=>⟨y.1,y.2 vs (h.keep s)⟩,λi H' s hi=>⟨vs,h.keep s,hi⟩⟩
theorem cV.tup{K:QV}{H:Hp}{a:Yz}{vs:List V}(h:aZ K H a vs):cV (qm K a) (pf H a) vs:=
 ⟨λi H' s hi=>⟨vs,vs[i],h.keep s,by simp [hi]⟩,λi H' x H'' s _ y=>⟨y.1,y.2 vs (h.keep s)⟩,λi H' s hi=>⟨vs,h.keep s,hi⟩⟩
def nW(lo:Int)(n:Nat):List Yw:=(SO n).map λ(k:Nat)=>.int (lo+k)
theorem cV.rng{lo:Int}{n:Nat}:cV (i9 lo n) (λ_=>True) ((SO n).map λ(k:Nat)=>V.int (lo+k)):=by
 refine⟨λi H' s hi=>(by simpa using hi:i < n),λi H' x H'' s hi y=>⟨y.1,?_⟩,λi H' s hi=>(by simpa using hi:n<=i)⟩;obtain⟨_,rfl⟩:=y;have hn:i < n:=by simpa using hi
 simp [hn]
theorem ai.rng{K:QV}{H:Hp}{O:Ex}{lo:Int}:∀(l:List Nat),ai K H O (l.map λ(k:Nat)=>V.int (lo+k)) (l.map λ(k:Nat)=>Rv (lo+k))
 | []=>.nil
 | n::r=>.cons (.int _) (ai.rng r)
abbrev DG:=Yw->Dl->(Dl->Prop)->Prop
def GD(K:QV)(g:TG)(dg:DG):Prop:=∀(H0:Hp)(O0:Ex)(H:Hp)(O:Ex)(σ:St)(δ:Dl)(v:V)(x:Yw)(R:St->Hp->Prop)(Qd:Dl->Prop),Wd K H0 O0 H O σ δ->Dt K H O v x->dg x δ Qd->(∀δ' σ',Qd δ'->Wd K H0 O0 H O σ' δ'->R σ' H)->g v σ H R
def iH(i:Nat):DG:=λx δ Q=>Q (δ.set i (some (.v x)))
theorem aL{K:QV}{i:Nat}:GD K (i8 i) (iH i):=λH0 O0 H O σ δ v x R Qd w r q k=>k _ _ q (w.set r)
abbrev nX:=List Yw->Dl->(Dl->Prop)->Prop
def sJ(K:QV)(g:i7)(dg:nX):Prop:=∀(H0:Hp)(O0:Ex)(H:Hp)(O:Ex)(σ:St)(δ:Dl)(vs:List V)(xs:List Yw)(R:St->Hp->Prop)(Qd:Dl->Prop),Wd K H0 O0 H O σ δ->ai K H O vs xs->dg xs δ Qd->(∀δ' σ',Qd δ'->Wd K H0 O0 H O σ' δ'->R σ' H)->g vs σ H R
def jU:nX:=λxs δ Q=>xs=[]/\Q δ
def jV(t:DG)(u:nX):nX:=λxs δ Q=>∃x r,xs=x::r/\t x δ λδ'=>u r δ' Q
theorem gI{K:QV}:sJ K rL jU:=λH0 O0 H O σ δ vs xs R Qd w r uu1 k=>by obtain⟨e,q⟩:=uu1;subst e;cases r;exact⟨rfl,k _ _ q w⟩
theorem b0{K:QV}{t:TG}{u:i7}{dt:DG}{du:nX}(h:GD K t dt)(h2:sJ K u du):sJ K (qi t u) (jV dt du):=λH0 O0 H O σ δ vs xs R Qd w r uu2 k=>by
 obtain⟨x,rr,e,q⟩:=uu2;subst e;cases r with
 | cons r1 r2=>exact⟨_,_,rfl,h H0 O0 H O σ δ _ _ _ _ w r1 q λδ' σ' q' w'=>h2 H0 O0 H O σ' δ' _ _ R Qd w' r2 q' k⟩
def jW(n:Nat)(t:nX):DG:=λx δ Q=>∃xs,x= .tuple xs/\xs.length=n/\t xs δ Q
theorem gJ{K:QV}{n:Nat}{t:i7}{dt:nX}(h:sJ K t dt):GD K (rM K n t) (jW n dt):=λH0 O0 H O σ δ v x R Qd w r uu3 k=>by
 obtain⟨xs,e,hl,q⟩:=uu3;subst e;obtain⟨a,vs,rfl,hs,rr⟩:=(Sh.dt r).tup;exact⟨a,vs,rfl,hs,by rw [rr.length];exact hl,h H0 O0 H O σ δ _ _ R Qd w rr q k⟩
section
variable {X:Cx} {H0:Hp} {O0:Ex}
def jX(t:DT)(g:DG):DS:=λE δ=>t δ λd=>g d δ E.nx
theorem BX{tg e:YF}{t:DT}{g:TG}{dg:DG}{pos:Pos}(he:DE X H0 O0 e t)(hg:PG X tg g)(gd:GD X.K g dg)(hs:swapsWithSole [tg] e pos.line X.env=pure false:=by rfl)(hw:swappedStores [tg] e X.env=pure none:=by rfl)
 (h1:(ZI [tg] X.env).map (·.2)=[assign tg X.env]:=by rfl):PS X (.Assign [tg] e pos) (bf X.K H0 O0 (jX t dg)):=
 (HA he hg hs hw h1).imp λD σ H uu4=>by obtain⟨O,δ,E,w,q,k1,k2,k3,k4⟩:=uu4;exact⟨O,δ,_,w,q,λd v H1 q1 s1 r1=>gd H0 O0 H1 O σ δ v d _ _ (w.mono s1) r1 q1 λδ' σ' q' w'=>k1 O δ' σ' H1 q' w' (.same s1)⟩
def gK(g:DG)(tb:DS)(E:dP):List Yw->Dl->Prop
 | [],δ=>E.nx δ
 | x::xs,δ=>g x δ λδ2=>tb {E with nx:=gK g tb E xs,ct:=gK g tb E xs,bk:=E.nx} δ2
theorem QQ{K:QV}{J:It}{P:Hp->Prop}{vs:List V}{xs:List Yw}{g:TG}{dg:DG}{tb:DS}{D:iy}{E:dP}{σ:St}{H:Hp}{O:Ex}{δ:Dl}(S:cV J P vs)(gd:GD K g dg)
 (hP:∀H' O',aH H H' O O'->P H')(r:ai K H O vs xs)(w:Wd K H0 O0 H O σ δ)(q:gK dg tb E xs δ)
 (k1:∀O' δ' σ' H',E.nx δ'->Wd K H0 O0 H' O' σ' δ'->aH H H' O O'->D.nx σ' H')(k2:∀d v H',E.rt d->au H0 H'->Dt K H' O0 v d->D.rt v H'):FR J g (bf K H0 O0 tb) D σ H:=by
 refine⟨λi m σ' H'=>∃O' δ',m=vs.length - i/\i<=vs.length/\Wd K H0 O0 H' O' σ' δ'/\aH H H' O O'/\gK dg tb E (xs.drop i) δ',⟨vs.length,O,δ,Yv,RL _,w,aH.refl _ _,by simpa using q⟩,?_⟩;rintro i m σ1 H1 ⟨O1,δ1,rfl,hi,w1,S1,q1⟩;by_cases hlt:i < vs.length
 ·refine .inr ⟨S.go i H1 (hP _ _ S1) hlt,λσ' H'=>∃O' δ',Wd K H0 O0 H' O' σ' δ'/\aH H H' O O'/\gK dg tb E (xs.drop (i+1)) δ',λσ' H' uu5=>by obtain⟨O',δ',w',S',q'⟩:=uu5;exact⟨vs.length - (i+1),Yr,O',δ',rfl,hlt,w',S',q'⟩,λx H' y=>?_⟩;have yy:=S.yl i H1 x H' (hP _ _ S1) hlt y;clear y;obtain⟨e,y⟩:=yy;subst e;obtain⟨d,ed,rd⟩:=r.get y;have hd:xs.drop i=d::xs.drop (i+1):=by
   rw [Vc (h:=(Q7.mp ed).1),(Q7.mp ed).2]
  rw [hd] at q1;refine gd H0 O0 _ O1 σ1 δ1 x d _ _ w1 (rd.step S1) q1 λδ2 σ2 q2 w2=>?_;refine⟨O1,δ2,_,w2,q2,λO' δ' σ' H' z w' S'=>⟨O',δ',w',S1.trans S',z⟩,k2,λO' δ' σ' H' z w' S'=>k1 O' δ' σ' H' z w' (S1.trans S'),λO' δ' σ' H' z w' S'=>⟨O',δ',w',S1.trans S',z⟩⟩
 ·have e:i=vs.length:=Yr
  subst e;refine .inl ⟨S.st _ H1 (hP _ _ S1) (QY _),?_⟩;rw [r.length,US (QY _)] at q1;exact k1 O1 δ1 σ1 H1 q1 w1 S1
def gL(g:DG)(tb:DS)(E:dP)(xs:List Yw)(δ:Dl):Prop:=∃I:Nat->Dl->Prop,I 0 δ/\(∀i x δ,xs[i]?=some x->I i δ->g x δ λδ2=>tb {E with nx:=I (i+1),ct:=I (i+1),bk:=E.nx} δ2)/\∀δ,I xs.length δ->E.nx δ
theorem sL{K:QV}{J:It}{P:Hp->Prop}{vs:List V}{xs:List Yw}{g:TG}{dg:DG}{tb:DS}{D:iy}{E:dP}{σ:St}{H:Hp}{O:Ex}{δ:Dl}(S:cV J P vs)(gd:GD K g dg)
 (hP:∀H' O',aH H H' O O'->P H')(r:ai K H O vs xs)(w:Wd K H0 O0 H O σ δ)(q:gL dg tb E xs δ)
 (k1:∀O' δ' σ' H',E.nx δ'->Wd K H0 O0 H' O' σ' δ'->aH H H' O O'->D.nx σ' H')(k2:∀d v H',E.rt d->au H0 H'->Dt K H' O0 v d->D.rt v H'):FR J g (bf K H0 O0 tb) D σ H:=by
 obtain⟨Iv,q0,qs,qe⟩:=q;refine⟨λi m σ' H'=>∃O' δ',m=vs.length - i/\i<=vs.length/\Wd K H0 O0 H' O' σ' δ'/\aH H H' O O'/\Iv i δ',⟨vs.length,O,δ,Yv,RL _,w,aH.refl _ _,q0⟩,?_⟩;rintro i m σ1 H1 ⟨O1,δ1,rfl,hi,w1,S1,q1⟩;by_cases hlt:i < vs.length
 ·refine .inr ⟨S.go i H1 (hP _ _ S1) hlt,λσ' H'=>∃O' δ',Wd K H0 O0 H' O' σ' δ'/\aH H H' O O'/\Iv (i+1) δ',λσ' H' uu6=>by obtain⟨O',δ',w',S',q'⟩:=uu6;exact⟨vs.length - (i+1),Yr,O',δ',rfl,hlt,w',S',q'⟩,λx H' y=>?_⟩;have yy:=S.yl i H1 x H' (hP _ _ S1) hlt y;clear y;obtain⟨e,y⟩:=yy;subst e;obtain⟨d,ed,rd⟩:=r.get y;refine gd H0 O0 _ O1 σ1 δ1 x d _ _ w1 (rd.step S1) (qs i d δ1 ed q1) λδ2 σ2 q2 w2=>?_;refine⟨O1,δ2,_,w2,q2,λO' δ' σ' H' z w' S'=>⟨O',δ',w',S1.trans S',z⟩,k2,λO' δ' σ' H' z w' S'=>k1 O' δ' σ' H' z w' (S1.trans S'),λO' δ' σ' H' z w' S'=>⟨O',δ',w',S1.trans S',z⟩⟩
 ·have e:i=vs.length:=Yr
  subst e;refine .inl ⟨S.st _ H1 (hP _ _ S1) (QY _),?_⟩;rw [r.length] at q1;exact k1 O1 δ1 σ1 H1 (qe δ1 q1) w1 S1
def jY(t:DT)(g:DG)(tb:DS):DS:=λE δ=>t δ λd=>∃xs,d= .list xs/\gL g tb E xs δ
def jZ(t:DT)(g:DG)(tb:DS):DS:=λE δ=>t δ λd=>∃xs,d= .tuple xs/\gL g tb E xs δ
def j0(t:DA)(g:DG)(tb:DS):DS:=λE δ=>t δ λds=>∃j:Int,ds=[.int j]/\-(2 ^ 62)<=j/\j < 2 ^ 62/\gL g tb E (nW 0 j.toNat) δ
section
variable {tg iter:YF} {body:List YL} {t:DT} {ta:DA} {g:TG} {dg:DG} {tb:DS} {pos p ps:Pos}
theorem nY(hp:Zw (YE X.prog X.w) X.A X.env X.xe)(hc:X.calm=true)(hi:DE X H0 O0 iter t)(hg:PG X tg g)(gd:GD X.K g dg)(hb:bP X body (bf X.K H0 O0 tb))(hs:∀x,YO iter X.env x=pure x:=by intro _;rfl):
 PS X (.For tg iter body [] pos) (bf X.K H0 O0 (jY t dg tb)):=
 (oW hp hc (rN hi) hg hb hs).imp λD σ H uu7=>by obtain⟨O,δ,E,w,q,k1,k2,k3,k4⟩:=uu7;exact⟨O,δ,_,w,q,λd v H1 uu8 s1 r1=>by
  obtain⟨xs,e,q1⟩:=uu8;subst e;cases r1 with
  | lst h n r=>
   refine⟨_,rfl,⟨_,.inl h⟩,sL (cV.list (.inl h)) gd (λH' O' S o e=>S.keep _ _ e n) r (w.mono s1) q1 (λO' δ' σ' H' z w' S=>k1 O' δ' σ' H' z w' (aH.trans (.same s1) S)) k2⟩⟩
theorem ph(hp:Zw (YE X.prog X.w) X.A X.env X.xe)(hc:X.calm=true)(hi:DE X H0 O0 iter t)(hg:PG X tg g)(gd:GD X.K g dg)(hb:bP X body (bf X.K H0 O0 tb))(hs:∀x,YO iter X.env x=pure x:=by intro _;rfl):
 PS X (.For tg iter body [] pos) (bf X.K H0 O0 (jZ t dg tb)):=
 (oW hp hc (uT hi) hg hb hs).imp λD σ H uu9=>by obtain⟨O,δ,E,w,q,k1,k2,k3,k4⟩:=uu9;exact⟨O,δ,_,w,q,λd v H1 uu10 s1 r1=>by
  obtain⟨xs,e,q1⟩:=uu10;subst e;cases r1 with
  | tup h n r=>
   refine⟨_,rfl,⟨_,.inl h⟩,sL (cV.tup (.inl h)) gd (λH' O' S o e=>S.keep _ _ e n) r (w.mono s1) q1 (λO' δ' σ' H' z w' S=>k1 O' δ' σ' H' z w' (aH.trans (.same s1) S)) k2⟩
  | tupK h r=>
   refine⟨_,rfl,⟨_,h.of0⟩,sL (P:=λ_=>True) ⟨λi H' _ hi=>⟨_,_,h.of0,by simp [hi];rfl⟩,λi H' x H'' _ _ y=>⟨y.1,y.2 _ h.of0⟩,λi H' _ hi=>⟨_,h.of0,hi⟩⟩ gd (λ_ _ _=>trivial) r (w.mono s1) q1 (λO' δ' σ' H' z w' S=>k1 O' δ' σ' H' z w' (aH.trans (.same s1) S)) k2⟩⟩
theorem BY(hp:Zw (YE X.prog X.w) X.A X.env X.xe)(hc:X.calm=true){a:YF}(hgl:Gl X "range")(hm:X.mg "range"=none)(ha:PA X [a] (fT X.K H0 O0 ta))(hg:PG X tg g)(gd:GD X.K g dg)(hb:bP X body (bf X.K H0 O0 tb))
 (hst:YD [a] X.env=[(false,eval a X.env)]:=by rfl)(hs:∀x,YO (.Call (.Name "range" p) [a] [] ps) X.env x=pure x:=by intro _;rfl):
 PS X (.For tg (.Call (.Name "range" p) [a] [] ps) body [] pos) (bf X.K H0 O0 (j0 ta dg tb)):=
 (oW hp hc (uW hgl hm ha hst) hg hb hs).imp λD σ H uu11=>by obtain⟨O,δ,E,w,q,k1,k2,k3,k4⟩:=uu11;exact⟨O,δ,_,w,q,λds vs H1 uu12 s1 r1=>by
  obtain⟨j,e,b1,b2,q1⟩:=uu12;subst e;cases r1 with
  | cons r1 r2=>
   cases r2;cases r1;exact⟨j,rfl,b1,b2,sL cV.rng gd (λ_ _ _=>trivial) (ai.rng _) (w.mono s1) q1 (λO' δ' σ' H' z w' S=>k1 O' δ' σ' H' z w' (aH.trans (.same s1) S)) k2⟩⟩
end
theorem Wd.letbe{K:QV}{H:Hp}{O:Ex}{σ:St}{δ:Dl}(w:Wd K H0 O0 H O σ δ){i:Nat}{l:Yz}{y0:Sl}{d:Yw}(e:δ[i]?=some (some y0))(ho:y0.own)(h:σ[i]?=some (some (.ref l)))(hd:∀O',aH H H O O'->¬O' l->Dt K H O' (.ref l) d):
 ∃O',Wd K H0 O0 H O' σ (δ.set i (some (.v d)))/\aH H H O O':=by
 obtain⟨l',x1,a,b⟩:=w.adr e ho;rw [h] at x1;cases x1;have S:aH H H O (λx=>O x/\x≠l):=⟨λ_ _ z _=>z,λ_ _ n z=>n z.1⟩;have li:i < δ.length:=(Q7.mp e).1;have ne:∀{j:Nat}{y:Sl},(δ.set i (some (.v d)))[j]?=some (some y)->y.own->j≠i:=λ{j y} q hy z=>by
  subst z;rw [Ry li] at q;cases q;exact hy
 refine⟨_,⟨w.same,λx z=>⟨w.sub x z,λy=>b (by rw [<-y];exact z)⟩,λx z=>w.new x z.1,λx z=>w.trk x z.1,by simp [w.len],λj y q=>?_,λj k y z l' e1 y1 e2 z2 e3 e4=>?_⟩,S⟩
 ·by_cases hj:j=i
  ·subst hj;rw [Ry li] at q;cases q;exact⟨.ref l,by rw [h];rfl,hd _ S (λz=>z.2 rfl)⟩
  ·rw [Rg (Ne.symm hj)] at q;refine(w.sl j y q).go S (λb o ho' e' a1 a2 a3=>⟨⟨a1,λz=>?_⟩,a3⟩) (λb o u a1 a2 a3=>⟨⟨a1,λz=>w.nofrz e ho h o u (by rw [<-z];exact a3)⟩,a3⟩) λb o a1 a3=>a3;subst z
   match y,ho',q with
   | some z,ho',q=>exact hj (w.dis j i z y0 _ q (by cases z <;> first | trivial | cases ho') e ho (fA e') h)
 ·have n1:=ne e1 y1;have n2:=ne e2 z2;rw [Rg (Ne.symm n1)] at e1;rw [Rg (Ne.symm n2)] at e2;exact w.dis j k _ _ l' e1 y1 e2 z2 e3 e4
theorem Wd.freeze{K:QV}{H:Hp}{O:Ex}{σ:St}{δ:Dl}(w:Wd K H0 O0 H O σ δ){i:Nat}{ds:List Yw}(e:δ[i]?=some (some (.o ds))):∃O',Wd K H0 O0 H O' σ (δ.set i (some (.v (.list ds))))/\aH H H O O':=by
 obtain⟨l,vs,h,a,b,c,r⟩:=w.own e;exact w.letbe (y0:= .o ds) e trivial h λO' S n=>.lst (.inl c) n (r.step S)
def jk(i:Nat)(t:DS):DS:=λE δ=>∃ds,δ[i]?=some (some (.o ds))/\t E (δ.set i (some (.v (.list ds))))
theorem JM(i:Nat){st:YL}{t:DS}(h:PS X st (bf X.K H0 O0 t)):PS X st (bf X.K H0 O0 (jk i t)):=
 h.imp λD σ H uu13=>by
  obtain⟨O,δ,E,w,⟨ds,e,q⟩,k1,k2,k3,k4⟩:=uu13;obtain⟨O',w',S⟩:=w.freeze e;exact⟨O',_,E,w',q,λO2 δ2 σ2 H2 z2 w2 S2=>k1 O2 δ2 σ2 H2 z2 w2 (S.trans S2),k2,λO2 δ2 σ2 H2 z2 w2 S2=>k3 O2 δ2 σ2 H2 z2 w2 (S.trans S2),λO2 δ2 σ2 H2 z2 w2 S2=>k4 O2 δ2 σ2 H2 z2 w2 (S.trans S2)⟩
def dh(k:Nat)(fr:List Nat)(δ:Dl):Dl:=Ri k none++fr.map λj=>(δ[j]?).join
def sM(g:DG)(tc:DB)(te:DT)(δ0:Dl):List Yw->List Yw->(List Yw->Prop)->Prop
 | [],acc,Q=>Q acc
 | x::xs,acc,Q=>g x δ0 λδ2=>tc δ2 λok=>if ok=true then te δ2 λy=>sM g tc te δ0 xs (acc++[y]) Q else sM g tc te δ0 xs acc Q
theorem Wd.comp{K:QV}{H:Hp}{O:Ex}{σ:St}{δ:Dl}(w:Wd K H0 O0 H O σ δ){k:Nat}{fr:List Nat}(hf:fr.Nodup):Wd K H0 O0 H O (bB k fr σ) (dh k fr δ):=by
 have at1:∀{α:Type}(l:List (Option α))(i:Nat),(Ri k none++fr.map λj=>(l[j]?).join)[i]?=if i < k then some none else(fr[i - k]?).map λj=>(l[j]?).join:=by
  intro α l i;by_cases h:i < k
  ·rw [Yt h,R4 (by simpa using h),T9,Yt h]
  ·rw [Ys h,Ss (by simpa using TJ h),Q9];simp
 have un:∀{α:Type}(l:List (Option α))(i:Nat)(x:α),(Ri k none++fr.map λj=>(l[j]?).join)[i]?=some (some x)->∃j,fr[i - k]?=some j/\k<=i/\l[j]?=some (some x):=by
  intro α l i x h;rw [at1] at h;split at h
  ·cases h
  ·cases e:fr[i - k]? with
   | none=>rw [e] at h;cases h
   | some j=>
    rw [e] at h;refine⟨j,rfl,Yr,?_⟩;have h':(l[j]?).join=some x:=R3 h;cases q:l[j]? with
    | none=>rw [q] at h';cases h'
    | some o=>rw [q] at h';rw [show o=some x from h']
 refine⟨w.same,w.sub,w.new,w.trk,by simp [bB,dh],λi y e=>?_,λi j y z l e1 y1 e2 z2 e3 e4=>?_⟩
 ·match y,e with
  | none,_=>exact Tr
  | some x,e=>
   obtain⟨j,hj,hk,ej⟩:=un δ i x e;have q:=w.sl j _ ej;have e2:((bB k fr σ)[i]?).join=(σ[j]?).join:=by
    unfold bB;rw [at1,Ys Yr,hj];rfl
   rw [e2];exact q
 ·obtain⟨a,ha,ka,ea⟩:=un δ i _ e1;obtain⟨b,hb,kb,eb⟩:=un δ j _ e2;obtain⟨a',ha',_,ea'⟩:=un σ i _ e3;obtain⟨b',hb',_,eb'⟩:=un σ j _ e4;rw [ha] at ha';cases ha';rw [hb] at hb';cases hb';have:=w.dis a b y z l ea y1 eb z2 ea' eb';subst this;have e5:=(List.getElem?_inj (l:=fr) (i:=i - k) (j:=j - k) (Q7.mp ha).1 hf).mp (by rw [ha,hb]);omega
theorem QR{K:QV}{J:It}{P:Hp->Prop}{vs:List V}{xs:List Yw}{g:TG}{dg:DG}{tc:TT}{dc:DB}{te:TE}{de:DT}{k:Nat}{fr:List Nat}{σ:St}{H:Hp}{O:Ex}{δ:Dl}{Qd:List Yw->Prop}{Q:VK}(S:cV J P vs)(gd:GD K g dg)(hf:fr.Nodup)
 (hk:∀v:V,∀σ':St,∀H':Hp,∀R:St->Hp->Prop,g v (bB k fr σ) H' R->g v (bB k fr σ) H' λσ2 H2=>nT (bB k fr σ) σ2/\R σ2 H2)
 (hc:∀σ H Q,bT K H0 O0 dc σ H Q->tc σ H Q)(he:∀σ H Q,up K H0 O0 de σ H Q->te σ H Q)
 (hP:∀D H',H D=none->pb D H H'->P H')(r:ai K H O vs xs)(w:Wd K H0 O0 H O σ δ)(hz:vs.length<=YH)(q:sM dg dc de (dh k fr δ) xs [] Qd)
 (k1:∀ds us p H',Qd ds->au H H'->H' p=none->ai K H' O us ds->Q (.ref p) (ah H' p (.lst us))):nU J g tc te k fr σ H Q:=by
 intro D hD;have w0:Wd K H0 O0 H O (bB k fr σ) (dh k fr δ):=w.comp hf;have nD:¬O D:=λz=>w.trk D z hD;have D0:H0 D=none:=by
  cases e:H0 D with
  | none=>rfl
  | some o=>rw [w.same _ _ e] at hD;cases hD
 have ex:∀H',pb D H H'->H' D≠none->Wd K H0 O0 H' (λa=>O a\/a=D) (bB k fr σ) (dh k fr δ):=λH' s' hd=>by
  have S':aH H H' O (λa=>O a\/a=D):=⟨λb o e _=>s' b o e (dZ e hD),λb hb hn z=>z.elim hn λq=>hb (by rw [q];exact hD)⟩;refine⟨λb o e=>s' b o (w.same b o e) (λz=>by rw [z,D0] at e;cases e),λl z=>.inl (w.sub l z),λl z=>z.elim (w.new l) λq=>.inr (by rw [q];exact D0),λl z=>?_,w0.len,λj y e=>?_,w0.dis⟩
  ·by_cases ql:l=D
   ·rw [ql];exact hd
   ·have hl:=w.trk l (z.resolve_right ql);cases e:H l with
    | none=>exact absurd e hl
    | some o=>rw [s' l o e ql];exact λz=>nomatch z
  ·exact(w0.sl j y e).go S' (λl o _ _ a1 _ a3=>⟨.inl a1,s' _ _ a3 (λz=>nD (by rw [<-z];exact a1))⟩) (λa o u a1 _ a3=>⟨.inl a1,s' _ _ a3 (λz=>nD (by rw [<-z];exact a1))⟩) λa o a1 a3=>s' _ _ a3 (λz=>nD (by rw [<-z];exact w.sub _ a1))
 refine⟨λi m H'=>∃acc ys,m=vs.length - i/\i<=vs.length/\pb D H H'/\H' D=some (.lst ys)/\ys.length<=i/\ai K H' (λa=>O a\/a=D) ys acc/\sM dg dc de (dh k fr δ) (xs.drop i) acc Qd,⟨vs.length,[],[],Yv,RL _,λb o e n=>by rw [az n];exact e,bq,RL _,.nil,by simpa using q⟩,?_⟩;rintro i m H1 ⟨acc,ys,rfl,hi,s1,e1,hy,ra,q1⟩;by_cases hlt:i < vs.length
 ·refine .inr ⟨S.go i H1 (hP D H1 hD s1) hlt,λx H' y=>?_⟩;have yy:=S.yl i H1 x H' (hP D H1 hD s1) hlt y;clear y;obtain⟨e,y⟩:=yy;subst e;obtain⟨d,ed,rd⟩:=r.get y;have hd:xs.drop i=d::xs.drop (i+1):=by
   rw [Vc (h:=(Q7.mp ed).1),(Q7.mp ed).2]
  rw [hd] at q1;have w1:=ex _ s1 (by rw [e1];exact λz=>nomatch z);have S':aH H H' O (λa=>O a\/a=D):=⟨λb o e _=>s1 b o e (dZ e hD),λb hb hn z=>z.elim hn λq=>hb (by rw [q];exact hD)⟩;refine hk x σ _ _ (gd H0 O0 _ _ _ _ x d _ _ w1 (rd.step S') q1 λδ2 σ2 q2 w2=>?_);refine hc σ2 _ _ ⟨_,δ2,_,w2,q2,λok H3 q3 s3=>?_⟩;cases ok with
  | true=>
   rw [Yt rfl];refine he σ2 H3 _ ⟨_,δ2,_,w2.mono s3,q3,λd' v H4 q4 s4 r4=>?_⟩;have e4:=s4 _ _ (s3 _ _ e1);have sD:aH H4 (ah H4 D (.lst (ys++[v]))) (λa=>O a\/a=D) (λa=>O a\/a=D):=⟨λb o e n=>by rw [az (λz=>n (.inr z))];exact e,λ_ _ n=>n⟩;refine⟨ys,e4,Yr,vs.length - (i+1),Yr,acc++[d'],ys++[v],rfl,hlt,λb o e n=>by rw [az n];exact s4 _ _ (s3 _ _ (s1 b o e n)),bq,by simpa using hy,?_,q4⟩;exact((ra.mono (s3.trans s4)).append (.cons r4 .nil)).step sD
  | false=>
   rw [Ys Yq];exact⟨vs.length - (i+1),Yr,acc,ys,rfl,hlt,λb o e n=>s3 _ _ (s1 b o e n),s3 _ _ e1,Yr,ra.mono s3,q3⟩
 ·have e:i=vs.length:=Yr
  subst e;refine .inl ⟨S.st _ H1 (hP D H1 hD s1) (QY _),?_⟩;rw [r.length,US (QY _)] at q1;have hrest:∃H2:Hp,H2 D=none/\au H H2/\H1=ah H2 D (.lst ys):=by
   refine⟨λb=>if b=D then none else H1 b,Yv,λb o e=>?_,?_⟩
   ·have n:=dZ e hD;show(if b=D then none else H1 b)=some o;rw [Ys n];exact s1 b o e n
   ·funext b;by_cases z:b=D
    ·rw [z,bq];exact e1
    ·rw [az z];show H1 b=if b=D then none else H1 b;rw [Ys z]
  obtain⟨H2,h2,s2,rfl⟩:=hrest;refine k1 acc ys D H2 q1 s2 h2 (ra.step ⟨λb o e n=>?_,λb _ n z=>n (.inl z)⟩);rw [az (λz=>n (.inr z))] at e;exact e
def jm(g:DG)(tc:DB)(te:DT)(δ0:Dl)(xs:List Yw)(Q:List Yw->Prop):Prop:=∃I:Nat->List Yw->Prop,I 0 []/\(∀i x acc,xs[i]?=some x->I i acc->g x δ0 λδ2=>tc δ2 λok=>if ok=true then te δ2 λy=>I (i+1) (acc++[y]) else I (i+1) acc)/\∀acc,I xs.length acc->Q acc
theorem pj{K:QV}{J:It}{P:Hp->Prop}{vs:List V}{xs:List Yw}{g:TG}{dg:DG}{tc:TT}{dc:DB}{te:TE}{de:DT}{k:Nat}{fr:List Nat}{σ:St}{H:Hp}{O:Ex}{δ:Dl}{Qd:List Yw->Prop}{Q:VK}(S:cV J P vs)(gd:GD K g dg)(hf:fr.Nodup)
 (hk:∀v:V,∀σ':St,∀H':Hp,∀R:St->Hp->Prop,g v (bB k fr σ) H' R->g v (bB k fr σ) H' λσ2 H2=>nT (bB k fr σ) σ2/\R σ2 H2)
 (hc:∀σ H Q,bT K H0 O0 dc σ H Q->tc σ H Q)(he:∀σ H Q,up K H0 O0 de σ H Q->te σ H Q)
 (hP:∀D H',H D=none->pb D H H'->P H')(r:ai K H O vs xs)(w:Wd K H0 O0 H O σ δ)(hz:vs.length<=YH)(q:jm dg dc de (dh k fr δ) xs Qd)
 (k1:∀ds us p H',Qd ds->au H H'->H' p=none->ai K H' O us ds->Q (.ref p) (ah H' p (.lst us))):nU J g tc te k fr σ H Q:=by
 obtain⟨Iv,q0,qs,qe⟩:=q;intro D hD;have w0:Wd K H0 O0 H O (bB k fr σ) (dh k fr δ):=w.comp hf;have nD:¬O D:=λz=>w.trk D z hD;have D0:H0 D=none:=by
  cases e:H0 D with
  | none=>rfl
  | some o=>rw [w.same _ _ e] at hD;cases hD
 have ex:∀H',pb D H H'->H' D≠none->Wd K H0 O0 H' (λa=>O a\/a=D) (bB k fr σ) (dh k fr δ):=λH' s' hd=>by
  have S':aH H H' O (λa=>O a\/a=D):=⟨λb o e _=>s' b o e (dZ e hD),λb hb hn z=>z.elim hn λq=>hb (by rw [q];exact hD)⟩;refine⟨λb o e=>s' b o (w.same b o e) (λz=>by rw [z,D0] at e;cases e),λl z=>.inl (w.sub l z),λl z=>z.elim (w.new l) λq=>.inr (by rw [q];exact D0),λl z=>?_,w0.len,λj y e=>?_,w0.dis⟩
  ·by_cases ql:l=D
   ·rw [ql];exact hd
   ·have hl:=w.trk l (z.resolve_right ql);cases e:H l with
    | none=>exact absurd e hl
    | some o=>rw [s' l o e ql];exact λz=>nomatch z
  ·exact(w0.sl j y e).go S' (λl o _ _ a1 _ a3=>⟨.inl a1,s' _ _ a3 (λz=>nD (by rw [<-z];exact a1))⟩) (λa o u a1 _ a3=>⟨.inl a1,s' _ _ a3 (λz=>nD (by rw [<-z];exact a1))⟩) λa o a1 a3=>s' _ _ a3 (λz=>nD (by rw [<-z];exact w.sub _ a1))
 refine⟨λi m H'=>∃acc ys,m=vs.length - i/\i<=vs.length/\pb D H H'/\H' D=some (.lst ys)/\ys.length<=i/\ai K H' (λa=>O a\/a=D) ys acc/\Iv i acc,⟨vs.length,[],[],Yv,RL _,λb o e n=>by rw [az n];exact e,bq,RL _,.nil,q0⟩,?_⟩;rintro i m H1 ⟨acc,ys,rfl,hi,s1,e1,hy,ra,q1⟩;by_cases hlt:i < vs.length
 ·refine .inr ⟨S.go i H1 (hP D H1 hD s1) hlt,λx H' y=>?_⟩;have yy:=S.yl i H1 x H' (hP D H1 hD s1) hlt y;clear y;obtain⟨e,y⟩:=yy;subst e;obtain⟨d,ed,rd⟩:=r.get y;have w1:=ex _ s1 (by rw [e1];exact λz=>nomatch z);have S':aH H H' O (λa=>O a\/a=D):=⟨λb o e _=>s1 b o e (dZ e hD),λb hb hn z=>z.elim hn λq=>hb (by rw [q];exact hD)⟩;refine hk x σ _ _ (gd H0 O0 _ _ _ _ x d _ _ w1 (rd.step S') (qs i d acc ed q1) λδ2 σ2 q2 w2=>?_);refine hc σ2 _ _ ⟨_,δ2,_,w2,q2,λok H3 q3 s3=>?_⟩;cases ok with
  | true=>
   rw [Yt rfl];refine he σ2 H3 _ ⟨_,δ2,_,w2.mono s3,q3,λd' v H4 q4 s4 r4=>?_⟩;have e4:=s4 _ _ (s3 _ _ e1);have sD:aH H4 (ah H4 D (.lst (ys++[v]))) (λa=>O a\/a=D) (λa=>O a\/a=D):=⟨λb o e n=>by rw [az (λz=>n (.inr z))];exact e,λ_ _ n=>n⟩;refine⟨ys,e4,Yr,vs.length - (i+1),Yr,acc++[d'],ys++[v],rfl,hlt,λb o e n=>by rw [az n];exact s4 _ _ (s3 _ _ (s1 b o e n)),bq,by simpa using hy,?_,q4⟩;exact((ra.mono (s3.trans s4)).append (.cons r4 .nil)).step sD
  | false=>
   rw [Ys Yq];exact⟨vs.length - (i+1),Yr,acc,ys,rfl,hlt,λb o e n=>s3 _ _ (s1 b o e n),s3 _ _ e1,Yr,ra.mono s3,q3⟩
 ·have e:i=vs.length:=Yr
  subst e;refine .inl ⟨S.st _ H1 (hP D H1 hD s1) (QY _),?_⟩;rw [r.length] at q1;have hrest:∃H2:Hp,H2 D=none/\au H H2/\H1=ah H2 D (.lst ys):=by
   refine⟨λb=>if b=D then none else H1 b,Yv,λb o e=>?_,?_⟩
   ·have n:=dZ e hD;show(if b=D then none else H1 b)=some o;rw [Ys n];exact s1 b o e n
   ·funext b;by_cases z:b=D
    ·rw [z,bq];exact e1
    ·rw [az z];show H1 b=if b=D then none else H1 b;rw [Ys z]
  obtain⟨H2,h2,s2,rfl⟩:=hrest;refine k1 acc ys D H2 (qe acc q1) s2 h2 (ra.step ⟨λb o e n=>?_,λb _ n z=>n (.inl z)⟩);rw [az (λz=>n (.inr z))] at e;exact e
def h7:DB:=λ_ Q=>Q true
def j1(g:TG)(k:Nat):Prop:=∀(fr:List Nat)(σ:St)(v:V)(H':Hp)(R:St->Hp->Prop),g v (bB k fr σ) H' R->g v (bB k fr σ) H' λσ2 H2=>nT (bB k fr σ) σ2/\R σ2 H2
theorem bM:j1 (i8 0) 1:=λfr σ v H' R h=>⟨BS,h⟩
def iI(t:DT)(g:DG)(tc:DB)(te:DT)(k:Nat)(fr:List Nat):DA:=λδ Q=>t δ λd=>∃xs,d= .list xs/\xs.length<=YH/\jm g tc te (dh k fr δ) xs Q
def iJ(t:DT)(g:DG)(tc:DB)(te:DT)(k:Nat)(fr:List Nat):DA:=λδ Q=>t δ λd=>∃xs,d= .tuple xs/\xs.length<=YH/\jm g tc te (dh k fr δ) xs Q
def jn(ta:DA)(g:DG)(tc:DB)(te:DT)(k:Nat)(fr:List Nat):DA:=λδ Q=>ta δ λds=>∃j:Int,ds=[.int j]/\-(2 ^ 62)<=j/\j < YH/\jm g tc te (dh k fr δ) (nW 0 j.toNat) Q
section
variable {tg iter elt:YF} {ifs:List YF} {scope:Za} {N':List Str} {k:Nat} {fr:List Nat} {g:TG} {dg:DG} {t:DT} {ta:DA} {tc:DB} {te:DT} {pos p ps:Pos}
theorem eF(hc:X.calm=true)(S:bb X.env.scope X.N N' k fr scope)(hi:DF X H0 O0 iter t)(gd:GD X.K g dg)(hk:j1 g k)(hfr:fr.Nodup)
 (hg:∀fp C s H,PG (bF X scope N' fp C s H) tg g)(hf:∀fp C s H,fy (bF X scope N' fp C s H) ifs (bT X.K H0 O0 tc))(he:∀fp C s H,PE (bF X scope N' fp C s H) elt (up X.K H0 O0 te))
 (hs:∀x,YO iter X.env x=pure x:=by intro _;rfl):FE X H0 O0 (.ListComp elt [⟨tg,iter,ifs,0⟩] scope pos) (iI t dg tc te k fr):=
 (su hc S (rN hi) hg hf he hs).imp λσ H Q uu14=>by obtain⟨O,δ,Qd,w,q,kk⟩:=uu14;exact⟨O,δ,_,w,q,λd v H1 uu15 s1 r1=>by
  obtain⟨xs,e,hz,q1⟩:=uu15;subst e;obtain⟨a,vs,rfl,hq,rr⟩:=r1.lst;refine⟨a,rfl,⟨_,hq⟩,λD hD=>pj (cV.list hq) gd hfr (λv _ H' R h=>hk fr σ v H' R h) (λ_ _ _ z=>z) (λ_ _ _ z=>z) (λD H' hD s' o e=>s' _ _ e (dZ e hD)) rr (w.mono s1) (by rw [rr.length];exact hz) q1 (λds us p H' z s' hp r'=>kk ds us p H' z (s1.trans s') hp r') D hD⟩⟩
theorem j2(hc:X.calm=true)(S:bb X.env.scope X.N N' k fr scope)(hi:DF X H0 O0 iter t)(gd:GD X.K g dg)(hk:j1 g k)(hfr:fr.Nodup)
 (hg:∀fp C s H,PG (bF X scope N' fp C s H) tg g)(hf:∀fp C s H,fy (bF X scope N' fp C s H) ifs (bT X.K H0 O0 tc))(he:∀fp C s H,PE (bF X scope N' fp C s H) elt (up X.K H0 O0 te))
 (hs:∀x,YO iter X.env x=pure x:=by intro _;rfl):FE X H0 O0 (.ListComp elt [⟨tg,iter,ifs,0⟩] scope pos) (iJ t dg tc te k fr):=
 (su hc S (uT hi) hg hf he hs).imp λσ H Q uu16=>by obtain⟨O,δ,Qd,w,q,kk⟩:=uu16;exact⟨O,δ,_,w,q,λd v H1 uu17 s1 r1=>by
  obtain⟨xs,e,hz,q1⟩:=uu17;subst e;obtain⟨a,vs,rfl,hq,rr⟩:=r1.tup;refine⟨a,rfl,⟨_,hq⟩,λD hD=>pj (cV.tup hq) gd hfr (λv _ H' R h=>hk fr σ v H' R h) (λ_ _ _ z=>z) (λ_ _ _ z=>z) (λD H' hD s' o e=>s' _ _ e (dZ e hD)) rr (w.mono s1) (by rw [rr.length];exact hz) q1 (λds us p H' z s' hp r'=>kk ds us p H' z (s1.trans s') hp r') D hD⟩⟩
theorem JN(hc:X.calm=true){a:YF}(S:bb X.env.scope X.N N' k fr scope)(hgl:Gl X "range")(hm:X.mg "range"=none)(ha:PA X [a] (hZ X.K H0 O0 ta))(gd:GD X.K g dg)(hk:j1 g k)(hfr:fr.Nodup)
 (hg:∀fp C s H,PG (bF X scope N' fp C s H) tg g)(hf:∀fp C s H,fy (bF X scope N' fp C s H) ifs (bT X.K H0 O0 tc))(he:∀fp C s H,PE (bF X scope N' fp C s H) elt (up X.K H0 O0 te))
 (hst:YD [a] X.env=[(false,eval a X.env)]:=by rfl)(hs:∀x,YO (.Call (.Name "range" p) [a] [] ps) X.env x=pure x:=by intro _;rfl):
 FE X H0 O0 (.ListComp elt [⟨tg,(.Call (.Name "range" p) [a] [] ps),ifs,0⟩] scope pos) (jn ta dg tc te k fr):=
 (su hc S (uW hgl hm ha hst) hg hf he hs).imp λσ H Q uu18=>by obtain⟨O,δ,Qd,w,q,kk⟩:=uu18;exact⟨O,δ,_,w,q,λds vs H1 uu19 s1 r1=>by
  obtain⟨j,e,b1,b2,q1⟩:=uu19;subst e;cases r1 with
  | cons r1 r2=>
   cases r2;cases r1.int;have hb:(YH:Int) < 2 ^ 62:=Yq
   exact⟨j,rfl,b1,Yr,λD hD=>pj (P:=λ_=>True) cV.rng gd hfr (λv _ H' R h=>hk fr σ v H' R h) (λ_ _ _ z=>z) (λ_ _ _ z=>z) (λ_ _ _ _=>trivial) (ai.rng _) (w.mono s1) (by rw [QW,UY];omega) q1 (λds us p H' z s' hp r'=>kk ds us p H' z (s1.trans s') hp r') D hD⟩⟩
end
end
section
variable {K:QV}
def dI(g:Int->Int->Yw):Yw->Yw->(Yw->Prop)->Prop:=λx y Q=>∃i j,x= .int i/\y= .int j/\Q (g i j)
def j3(C:Int->Int->Prop)(g:Int->Int->Yw):Yw->Yw->(Yw->Prop)->Prop:=λx y Q=>∃i j,x= .int i/\y= .int j/\C i j/\Q (g i j)
theorem bN{g:Int->Int->Int}:cw K (iA λi j=>.int (g i j)) (dI λi j=>.int (g i j)):=λH O x y dx dy Qd R _ hx hy uu20 k=>by
 obtain⟨i,j,e1,e2,q⟩:=uu20;subst e1 e2;cases hx.int;cases hy.int;exact⟨i,j,rfl,rfl,k _ _ H q (au.refl _) (.int _)⟩
theorem di{g:Int->Int->Bool}:cw K (iA λi j=>.bl (g i j)) (dI λi j=>.bool (g i j)):=λH O x y dx dy Qd R _ hx hy uu21 k=>by
 obtain⟨i,j,e1,e2,q⟩:=uu21;subst e1 e2;cases hx.int;cases hy.int;exact⟨i,j,rfl,rfl,k _ _ H q (au.refl _) (.bl _)⟩
theorem aD{C:Int->Int->Prop}{g:Int->Int->Int}:cw K (rI C λi j=>.int (g i j)) (j3 C λi j=>.int (g i j)):=λH O x y dx dy Qd R _ hx hy uu22 k=>by
 obtain⟨i,j,e1,e2,c,q⟩:=uu22;subst e1 e2;cases hx.int;cases hy.int;exact⟨i,j,rfl,rfl,c,k _ _ H q (au.refl _) (.int _)⟩
def BZ(K:QV):R2:=λx y H Q=>∃O dx dy,Sh K H O x dx/\Sh K H O y dy/\cy dx/\cy dy/\Q (.bl (Rr dx dy)) H
def B0(K:QV):R2:=λx y H Q=>∃O dx dy,Sh K H O x dx/\Sh K H O y dy/\cy dx/\cy dy/\Q (.bl (!Rr dx dy)) H
theorem cD{X:Cx}(hu:X.A.units+64 < Y0):bG X (YU .Eq) (BZ X.K):=by
 intro aac s σ H x y v u Q I rx ry h;obtain⟨O,dx,dy,hx,hy,sx,sy,q⟩:=h;obtain⟨as,ra⟩:=iC I hx.all (Sq sx) rx;obtain⟨bs,rb⟩:=iC I hy.all (Sq sy) ry;exact SeqAt.compareEq_shaped ra rb sx sy hu (bD I q rfl)
theorem JO{X:Cx}(hu:X.A.units+64 < Y0):bG X (YU .NotEq) (B0 X.K):=by
 intro aac s σ H x y v u Q I rx ry h;obtain⟨O,dx,dy,hx,hy,sx,sy,q⟩:=h;obtain⟨as,ra⟩:=iC I hx.all (Sq sx) rx;obtain⟨bs,rb⟩:=iC I hy.all (Sq sy) ry;exact SeqAt.compareNe_shaped ra rb sx sy hu (bD I q rfl)
def j4:Yw->Yw->(Yw->Prop)->Prop:=λx y Q=>cy x/\cy y/\Q (.bool (Rr x y))
def j5:Yw->Yw->(Yw->Prop)->Prop:=λx y Q=>cy x/\cy y/\Q (.bool (!Rr x y))
theorem cE:cw K (BZ K) j4:=λH O x y dx dy Qd R _ hx hy uu23 k=>by obtain⟨a,b,q⟩:=uu23;exact⟨O,dx,dy,hx,hy,a,b,k _ _ H q (au.refl _) (.bl _)⟩
theorem JP:cw K (B0 K) j5:=λH O x y dx dy Qd R _ hx hy uu24 k=>by obtain⟨a,b,q⟩:=uu24;exact⟨O,dx,dy,hx,hy,a,b,k _ _ H q (au.refl _) (.bl _)⟩
def j6:Yw->Yw->(Yw->Prop)->Prop:=λx y Q=>∃ds i d,x= .list ds/\y= .int i/\atI ds i=some d/\Q d
def gM:Yw->Yw->(Yw->Prop)->Prop:=λx y Q=>∃ds i d,x= .tuple ds/\y= .int i/\atI ds i=some d/\Q d
theorem ai.atI{H:Hp}{O:Ex}{vs:List V}{ds:List Yw}{i:Int}{d:Yw}(r:ai K H O vs ds)(e:L2.atI ds i=some d):∃v,L2.atI vs i=some v/\Dt K H O v d:=by
 unfold L2.atI at e⊢;rw [r.length];cases q:jc ds.length i with
 | none=>rw [q] at e;cases e
 | some j=>rw [q] at e;exact r.getD e
theorem aS:cw K (vg K) j6:=λH O x y dx dy Qd R _ hx hy uu25 k=>by
 obtain⟨ds,i,d,e1,e2,e3,q⟩:=uu25;subst e1 e2;obtain⟨a,vs,rfl,hs,r⟩:=hx.lst;cases hy.int;obtain⟨v,hv,rv⟩:=r.atI e3;exact⟨a,vs,i,v,rfl,rfl,hs,hv,k d v H q (au.refl _) rv⟩
theorem aM:cw K (se K) gM:=λH O x y dx dy Qd R _ hx hy uu26 k=>by
 obtain⟨ds,i,d,e1,e2,e3,q⟩:=uu26;subst e1 e2;obtain⟨a,vs,rfl,hs,r⟩:=hx.tup;cases hy.int;obtain⟨v,hv,rv⟩:=r.atI e3;exact⟨a,vs,i,v,rfl,rfl,hs,hv,k d v H q (au.refl _) rv⟩
end
section
variable {X:Cx} {H0:Hp} {O0:Ex}
def JQ:R2:=λx y H Q=>∃l b xs zs,x= .ref l/\y= .ref b/\Rd H l (.lst xs)/\Rd H b (.lst zs)/\xs.length+zs.length<=YH/\∀p,H p=none->Q (.ref p) (ah H p (.lst (xs++zs)))
theorem JR:bG X (Y8 .Add) JQ:=by
 intro aac s σ H x y v u Q I rx ry h;obtain⟨l,b,xs,zs,rfl,rfl,hH,hB,hz,q⟩:=h;cases rx;cases ry;obtain⟨z,its,n,r,e⟩:=hH.ok I.hok;obtain⟨z2,its2,n2,r2,e2⟩:=hB.ok I.hok;have l1:=r.length;have l2:=r2.length;refine PySem.P.add_list e e2 ?_ (by rw [Rc,Rc];omega);have ea:its.toArray++its2.toArray=(its++its2).toArray:=Yv
 rw [ea];exact⟨.ref _,_,I.lnew (t':=s.toks) (r.append r2) (by rw [Ra];omega),rfl,q _ I.fresh⟩
def j7(ta tb:DT):DA:=λδ Q=>ta δ λx=>tb δ λy=>∃xs ys,x= .list xs/\y= .list ys/\xs.length+ys.length<=YH/\Q (xs++ys)
theorem nZ{a b:YF}{ta tb:DT}{pos:Pos}(ha:DF X H0 O0 a ta)(hb:DF X H0 O0 b tb):FE X H0 O0 (.BinOp a .Add b pos) (j7 ta tb):=
 (bE JR ha hb).imp λσ H Q uu27=>by obtain⟨O,δ,Qd,w,q,k⟩:=uu27;exact⟨O,δ,_,w,q,λx v H1 q1 s1 r1=>⟨O,δ,_,w.mono s1,q1,λy u H2 uu28 s2 r2=>by
  obtain⟨xs,ys,e1,e2,hz,q2⟩:=uu28;subst e1 e2;obtain⟨a,vs,rfl,h1,d1⟩:=(r1.mono s2).lstR;obtain⟨b,us,rfl,h2,d2⟩:=r2.lstR;exact⟨a,b,vs,us,rfl,rfl,h1,h2,by rw [d1.length,d2.length];exact hz,λp hp=>k _ _ _ _ q2 (s1.trans s2) hp (d1.append d2)⟩⟩⟩
def j8:Yw->Yw->(Yw->Prop)->Prop:=λx y Q=>∃xs ys,x= .tuple xs/\y= .tuple ys/\xs≠[]/\xs.length+ys.length<=YH/\Q (.tuple (xs++ys))
theorem JS{K:QV}:cw K (vd K) j8:=λH O x y dx dy Qd R tr hx hy uu29 k=>by
 obtain⟨xs,ys,e1,e2,hn,hz,q⟩:=uu29;subst e1 e2;have hx0:=hx;obtain⟨a,vs,rfl,h1,d1⟩:=hx.tup;obtain⟨b,us,rfl,h2,d2⟩:=hy.tup;refine⟨a,b,vs,us,rfl,rfl,h1,h2,λz=>?_,by rw [d1.length,d2.length];exact hz,λz=>?_,λ_ p hp=>?_⟩
 ·subst z;cases d1;exact hn rfl
 ·subst z;cases d2;rw [RN] at q;cases hx0 with
  | dt hx0=>exact k _ _ H q (au.refl _) hx0
 ·exact k _ _ _ q (au.new hp) (.tup (.inl bq) (λz=>tr p z hp) ((d1.append d2).mono (au.new hp)))
def cW(xs:List Yw)(lo hi:Option Int):List Yw:=(xs.drop (HT.sIx xs.length 0 lo)).take (HT.sIx xs.length xs.length hi - HT.sIx xs.length 0 lo)
theorem ai.cut{K:QV}{H:Hp}{O:Ex}{vs:List V}{ds:List Yw}(r:ai K H O vs ds)(lo hi:Option Int):ai K H O (jK vs lo hi) (cW ds lo hi):=by
 unfold jK cW;rw [r.length];exact(r.drop _).take _
abbrev DO:=Dl->(Option Int->Prop)->Prop
inductive j9 (K:QV) (H0:Hp) (O0:Ex) (t:DO) (σ:St) (H:Hp) (R:Option Int->Hp->Prop):Prop
 | mk (O:Ex) (δ:Dl) (Qd:Option Int->Prop):Wd K H0 O0 H O σ δ->t δ Qd->(∀d H',Qd d->au H H'->R d H')->j9 K H0 O0 t σ H R
def kc:DO:=λ_ Q=>Q none
def ke(t:DT):DO:=λδ Q=>t δ λd=>∃i,d= .int i/\Q (some i)
theorem PO.imp{X:Cx}{e:Option YF}{t u:TO}(h:PO X e t)(i:∀σ H Q,u σ H Q->t σ H Q):PO X e u:=λaac s σ H Q I z=>h aac s σ H Q I (i σ H Q z)
theorem ia:PO X none (j9 X.K H0 O0 kc):=IB.imp λσ H Q uu30=>by obtain⟨O,δ,Qd,w,q,k⟩:=uu30;exact k none H q (au.refl _)
theorem cq{e:YF}{t:DT}(h:DE X H0 O0 e t):PO X (some e) (j9 X.K H0 O0 (ke t)):=(IC h).imp λσ H Q uu31=>by obtain⟨O,δ,Qd,w,q,k⟩:=uu31;exact⟨O,δ,_,w,q,λd v H1 uu32 s1 r1=>by obtain⟨i,e,q1⟩:=uu32;subst e;cases r1;exact⟨i,rfl,k _ H1 q1 s1⟩⟩
def kg(t:DT)(tl th:DO):DA:=λδ Q=>t δ λd=>tl δ λl=>th δ λu=>∃xs,d= .list xs/\Q (cW xs l u)
theorem iK{e:YF}{lo hi:Option YF}{t:DT}{tl th:DO}{pos p2:Pos}(h:DF X H0 O0 e t)(hl:PO X lo (j9 X.K H0 O0 tl))(hu:PO X hi (j9 X.K H0 O0 th)):FE X H0 O0 (.Subscript e (.Slice lo hi none p2) pos) (kg t tl th):=
 (vc BG h hl hu).imp λσ H Q uu33=>by obtain⟨O,δ,Qd,w,q,k⟩:=uu33;exact⟨O,δ,_,w,q,λd v H1 q1 s1 r1=>⟨O,δ,_,w.mono s1,q1,λl H2 q2 s2=>⟨O,δ,_,w.mono (s1.trans s2),q2,λu H3 uu34 s3=>by
  obtain⟨xs,e,q3⟩:=uu34;subst e;obtain⟨a,vs,rfl,h1,d1⟩:=(r1.mono (s2.trans s3)).lst;exact⟨a,vs,rfl,h1,λp hp=>k _ _ _ _ q3 (s1.trans (s2.trans s3)) hp (d1.cut l u)⟩⟩⟩⟩
theorem ak{a b:YF}{ta tb:DT}{r:R2}{rd:Yw->Yw->(Yw->Prop)->Prop}{pos:Pos}(ho:qx X r)(hd:cw X.K r rd)(ha:DF X H0 O0 a ta)(hb:DF X H0 O0 b tb)(hs:∀v u,Z3 b false v u=operate [v,u] (ZC v u):=by intro _ _;rfl):DE X H0 O0 (.Subscript a b pos) (cC rd ta tb):=(jL ho ha hb hs).imp (sG hd)
def kh:List Yw->(Yw->Prop)->Prop:=λds Q=>∃xs,(ds=[.list xs]\/ds=[.tuple xs])/\Q (.int xs.length)
def ki:List Yw->(Yw->Prop)->Prop:=λds Q=>∃xs,ds=[fS xs]/\Q (.int xs.length)
theorem eG{K:QV}:jh K (λxs H Q=>∃p ys,xs=[.ref p]/\(bo K H p ys\/aZ K H p ys)/\Q (.int ys.length) H) kh:=λH O xs ds Qd R _ hs uu35 k=>by
 obtain⟨ys,e,q⟩:=uu35;rcases e with e | e <;> subst e
 ·cases hs with
  | cons h r=>
   cases r;obtain⟨a,vs,rfl,h1,d1⟩:=h.lst;exact⟨a,vs,rfl,.inl h1,by rw [d1.length];exact k _ _ H q (au.refl _) (.int _)⟩
 ·cases hs with
  | cons h r=>
   cases r;obtain⟨a,vs,rfl,h1,d1⟩:=h.tup;exact⟨a,vs,rfl,.inr h1,by rw [d1.length];exact k _ _ H q (au.refl _) (.int _)⟩
theorem JT{K:QV}:jh K (λxs H Q=>∃p ys,xs=[.ref p]/\(bo K H p ys\/aZ K H p ys)/\Q (.int ys.length) H) ki:=λH O xs ds Qd R _ hs uu36 k=>by
 obtain⟨ys,e,q⟩:=uu36;subst e;cases hs with
 | cons h r=>
  cases r;obtain⟨a,vs,rfl,h1,d1⟩:=h.scr;exact⟨a,vs,rfl,.inl h1,by rw [d1.length];exact k _ _ H q (au.refl _) (.int _)⟩
def kj:List Yw->(Yw->Prop)->Prop:=λds Q=>∃xs,ds=[.list xs]/\Q (.tuple xs)
theorem fV{K:QV}:jh K (λxs H Q=>∃p ys,xs=[.ref p]/\((bo K H p ys/\∀l,H l=none->Q (.ref l) (ah H l (.tup ys)))\/(aZ K H p ys/\Q (.ref p) H))) kj:=λH O xs ds Qd R tr hs uu37 k=>by
 obtain⟨ys,e,q⟩:=uu37;subst e;cases hs with
 | cons h r=>
  cases r;obtain⟨a,vs,rfl,h1,d1⟩:=h.lst;exact⟨a,vs,rfl,.inl ⟨h1,λl hl=>k _ _ _ q (au.new hl) (.tup (.inl bq) (λz=>tr l z hl) (d1.mono (au.new hl)))⟩⟩
theorem ai.bools{K:QV}{H:Hp}{O:Ex}:∀{bs:List Bool}{vs:List V},ai K H O vs (bs.map UT)->vs=bs.map V.bl
 | [],_,r=>by rw [RW] at r;cases r;rfl
 | b::bs,_,r=>by
  rw [Q0] at r;cases r with
  | cons h r=>cases h;rw [Q0,ai.bools r]
def km(g:List Bool->Bool):List Yw->(Yw->Prop)->Prop:=λds Q=>∃bs:List Bool,ds=[.list (bs.map .bool)]/\Q (.bool (g bs))
theorem vE{K:QV}{g:List Bool->Bool}:jh K (λxs H Q=>∃(a:Yz)(bs:List Bool),xs=[.ref a]/\bo K H a (bs.map V.bl)/\Q (.bl (g bs)) H) (km g):=λH O xs ds Qd R tr hs uu38 k=>by
 obtain⟨bs,e,q⟩:=uu38;subst e;cases hs with
 | cons h r=>
  cases r;obtain⟨a,vs,rfl,h1,d1⟩:=h.lst;cases d1.bools;exact⟨a,bs,rfl,h1,k _ _ H q (au.refl _) (.bl _)⟩
def kn(g:Int->Int->Int):List Yw->(Yw->Prop)->Prop:=λds Q=>∃i j,ds=[.int i,.int j]/\Q (.int (g i j))
theorem JU{K:QV}{g:Int->Int->Int}:jh K (λxs H Q=>∃i j,xs=[.int i,.int j]/\Q (.int (g i j)) H) (kn g):=λH O xs ds Qd R tr hs uu39 k=>by
 obtain⟨i,j,e,q⟩:=uu39;subst e;cases hs with
 | cons h r=>
  cases r with
  | cons h2 r=>
   cases r;cases h.int;cases h2.int;exact⟨i,j,rfl,k _ _ H q (au.refl _) (.int _)⟩
end
section
variable {P:YI} {w:YJ} {K:QV} {mg:Str->Option Yx} {base:YK}
def eJ(N:List Str)(ds:List Yw):Dl:=ds.map (λd=>some (.v d))++Ri (N.length - ds.length) none
theorem B1{H:Hp}{O:Ex}{N:List Str}{vs:List V}{ds:List Yw}(tr:∀l,O l->H l≠none)(r:ai K H O vs ds):Wd K H O H O (start N vs) (eJ N ds):=by
 have hl:=r.length;have at1:∀(i:Nat) y,(eJ N ds)[i]?=some y->(∃d,ds[i]?=some d/\y=some (.v d))\/y=none:=λi y e=>by
  unfold eJ at e;by_cases h:i < ds.length
  ·rw [R4 (by simpa using h),Q9] at e;cases q:ds[i]? with
   | none=>rw [q] at e;cases e
   | some d=>rw [q] at e;exact .inl ⟨d,rfl,(R3 e).symm⟩
  ·rw [Ss (by simpa using TJ h),T9] at e;split at e
   ·exact .inr (R3 e).symm
   ·cases e
 refine⟨au.refl _,λ_ z=>z,λ_ z=>.inl z,tr,by simp [start,eJ,hl],λi y e=>?_,λi j ds' es l e1=>?_⟩
 ·rcases at1 i y e with⟨d,hd,rfl⟩ | rfl
  ·obtain⟨v,hv,rv⟩:=r.getD hd;refine⟨v,?_,rv⟩;unfold start;rw [R4 (by simpa using(Q7.mp hv).1),Q9,hv];rfl
  ·exact Tr
 ·rcases at1 i _ e1 with⟨d,_,z⟩ | z
  ·cases z;intro h;exact h.elim
  ·cases z
theorem eB.okD{x qual:Str}{st:YL}{f:Yz}{fd:YG}{N ps:List Str}{k:Nat}{F:List Yw->(Yw->Prop)->Prop}(Fu:eB K x qual st f fd)(S:aO N ps (av st))(len:∀ds Q,F ds Q->ds.length=ps.length)
 (hbody:∀(cdv:Yx) (A:YN) (outer:List Env) (s:YA) (H:Hp) (O:Ex) (ds:List Yw) (Q:Yw->Prop) (E:XK),bp k (A.deeper (Zx qual (av st) s.heap.objs.size f cdv))->F ds Q->
  ∃t,bP (iB CX0 P w K mg base N qual (av st) f cdv A outer s H E).nox (fu st) (bf K H O t)/\t {nx:=λ_=>Q .none,rt:=Q} (eJ N ds)):aA P w K mg base CX0 (k+1) f fd ps (aU K F):=by
 refine Fu.ok S (λvs H Q E h=>?_) (λcdv A outer s H vs Q E hr h=>?_)
 ·obtain⟨O,ds,Qd,_,r,q,_⟩:=h;rw [r.length];exact len _ _ q
 ·obtain⟨O,ds,Qd,tr,r,q,k⟩:=h;obtain⟨t,ht,q'⟩:=hbody cdv A outer s H O ds Qd E hr q;refine⟨_,ht,O,_,_,B1 tr r,q',λO' δ' σ' H' z w' S'=>?_,λd v H' z s' r'=>k d v H' z s' r',λ_ _ _ _ z=>z.elim,λ_ _ _ _ z=>z.elim⟩;exact k _ _ _ z w'.same .non
end
section
variable {X:Cx} {H0:Hp} {O0:Ex}
theorem dj:fy X [] (bT X.K H0 O0 h7):=λaac s σ H Q I h=>by
 obtain⟨O,δ,Qd,w,q,k⟩:=h;exact BP aac s σ H Q I (k true H q (au.refl _))
def ko:Yw->Yw->(Yw->Prop)->Prop:=λx y Q=>∃i j,x= .str i/\y= .str j/\i.length+j.length<=YH/\Q (.str (i++j))
theorem B2{K:QV}:cw K (λx y H Q=>∃i j,x= .str i/\y= .str j/\i.length+j.length<=YH/\Q (.str (i++j)) H) ko:=λH O x y dx dy Qd R tr hx hy uu40 k=>by
 obtain⟨i,j,e1,e2,hz,q⟩:=uu40;subst e1 e2;cases hx.str;cases hy.str;exact⟨i,j,rfl,rfl,hz,k _ _ H q (au.refl _) (.str _)⟩
def kq:Yw->Yw->(Yw->Prop)->Prop:=λx y Q=>∃z i c,x= .str z/\y= .int i/\z.length<=YH/\atI z.cps.toList i=some c/\Q (.str ⟨#[c]⟩)
theorem B3{K:QV}:cw K BE kq:=λH O x y dx dy Qd R tr hx hy uu41 k=>by
 obtain⟨z,i,c,e1,e2,hz,e3,q⟩:=uu41;subst e1 e2;cases hx.str;cases hy.int;exact⟨z,i,c,rfl,rfl,hz,e3,k _ _ H q (au.refl _) (.str _)⟩
theorem JV{K:QV}{F:List Yw->(Yw->Prop)->Prop}{E:XK}:∀σ H Q,up K H0 O0 (gH F gF) σ H Q->oZ (aU K F) [] E oY σ H Q:=
 λσ H Q uu42=>by obtain⟨O,δ,Qd,w,q,k⟩:=uu42;exact⟨O,[],Qd,w.trk,.nil,q,λd v H2 q2 s2 r2=>k d v H2 q2 s2 r2⟩
def kr:List Yw->(Yw->Prop)->Prop:=λds Q=>(∃i,ds=[.int i]/\Q (.int i))\/∃b,ds=[.bool b]/\Q (.int (if b then 1 else 0))
theorem qE{K:QV}:jh K (λxs H Q=>(∃i,xs=[.int i]/\Q (.int i) H)\/∃k,xs=[.bl k]/\Q (.int (if k then 1 else 0)) H) kr:=λH O xs ds Qd R tr hs h k=>by
 rcases h with⟨i,e,q⟩ | ⟨b,e,q⟩ <;> subst e
 ·cases hs with
  | cons h r=>cases r;cases h.int;exact .inl ⟨i,rfl,k _ _ H q (au.refl _) (.int _)⟩
 ·cases hs with
  | cons h r=>cases r;cases h.bl;exact .inr ⟨b,rfl,k _ _ H q (au.refl _) (.int _)⟩
def ku(t:DA):DA:=λδ Q=>t δ λds=>∃xs,(ds=[.list xs]\/ds=[.tuple xs])/\Q xs
theorem JW{a:YF}{t:DA}{np p:Pos}(hg:Gl X "list")(hm:X.mg "list"=none)(hv:YX "list"=some (.type "list"))(ha:PA X [a] (hZ X.K H0 O0 t))(he:YD [a] X.env=(false,eval a X.env)::YD [] X.env:=by rfl)(hpl:(YR p (YD [] X.env)).any (·.1)=false:=by rfl):FE X H0 O0 (.Call (.Name "list" np) [a] [] p) (ku t):=
 (cU IP hg hm hv ha (he:=he) (hpl:=hpl)).imp λσ H Q uu43=>by obtain⟨O,δ,Qd,w,q,k⟩:=uu43;exact⟨O,δ,_,w,q,λds vs H1 uu44 s1 r1=>by
  obtain⟨xs,e,q1⟩:=uu44;rcases e with e | e <;> subst e
  ·cases r1 with
   | cons h r=>
    cases r;obtain⟨a,us,rfl,h1,d1⟩:=h.lst;exact⟨a,us,rfl,.inl h1,λl hl=>k _ _ _ _ q1 s1 hl d1⟩
  ·cases r1 with
   | cons h r=>
    cases r;obtain⟨a,us,rfl,h1,d1⟩:=h.tup;exact⟨a,us,rfl,.inr h1,λl hl=>k _ _ _ _ q1 s1 hl d1⟩⟩
end
theorem dH{α:Type}{a:α}{l:List α}:atI (a::l) 0=some a:=fO (j:=0) rfl
theorem eM{α:Type}{a b:α}{l:List α}:atI (a::b::l) 1=some b:=fO (j:=1) rfl
theorem ib{α:Type}{a b c:α}{l:List α}:atI (a::b::c::l) 2=some c:=fO (j:=2) rfl
theorem fE{α:Type}{a b c d:α}{l:List α}:atI (a::b::c::d::l) 3=some d:=fO (j:=3) rfl
theorem kx{α:Type}{a b c d e:α}{l:List α}:atI (a::b::c::d::e::l) 4=some e:=fO (j:=4) rfl
theorem lV{i:Int}:cy (.int i):=rfl
theorem lW{i:Bool}:cy (.bool i):=rfl
theorem lX:cy .none:=rfl
theorem dQ{x y:Str}:Rr (.str x) (.str y)=(x==y):=by simp [Rr]
theorem lY{x y:Int}:Rr (.int x) (.int y)=(x==y):=by simp [Rr]
theorem cL{x:Str}:cy (.str x)↔Q2 x=true:=by
 unfold cy Tz;simp [RS,U3]
theorem rZ{n d:Nat}:HT.sIx n d none=d:=rfl
theorem sN{n d:Nat}{i:Int}(h0:0<=i)(h1:i<=n):HT.sIx n d (some i)=i.toNat:=by
 obtain⟨j,rfl⟩:=SY h0;rw [HT.sIx_nat,Sk];omega
theorem sO{xs:List Yw}{i:Int}(h0:0<=i)(h1:i<=xs.length):cW xs none (some i)=xs.take i.toNat:=by
 unfold cW;rw [rZ,sN h0 h1];simp
theorem B4{xs:List Yw}{i:Int}(h0:0<=i)(h1:i<=xs.length):cW xs (some i) none=xs.drop i.toNat:=by
 unfold cW;rw [rZ,sN h0 h1,Rz (by rw [TH];exact QY _)]
theorem qF{lo:Int}{n i:Nat}{x:Yw}(h:(nW lo n)[i]?=some x):i < n/\x= .int (lo+i):=by
 unfold nW at h;rw [Q9] at h;by_cases hi:i < n
 ·rw [List.getElem?_range hi] at h;exact⟨hi,(R3 h).symm⟩
 ·rw [SF (by simpa using hi)] at h;cases h
theorem vF{lo:Int}{n:Nat}:(nW lo n).length=n:=by unfold nW;simp
section
variable {κ:Type} [DecidableEq κ]
def dJ(kvs:List (κ×V))(k:κ):Option V:=(kvs.find? λkv=>decide (kv.1=k)).map (·.2)
def putK(kvs:List (κ×V))(k:κ)(v:V):List (κ×V):=
 if (kvs.any λkv=>decide (kv.1=k))=true then kvs.map (λkv=>if kv.1=k then(kv.1,v) else kv) else kvs++[(k,v)]
theorem qG{p:κ×V}{r:List (κ×V)}{k:κ}(e:p.1=k):dJ (p::r) k=some p.2:=by simp [dJ,Sa,e]
theorem pk{p:κ×V}{r:List (κ×V)}{k:κ}(e:¬p.1=k):dJ (p::r) k=dJ r k:=by simp [dJ,Sa,e]
theorem B5(k:κ):∀kvs:List (κ×V),(kvs.any λkv=>decide (kv.1=k))=(dJ kvs k).isSome
 | []=>rfl
 | p::r=>by
  rw [Se];by_cases e:p.1=k
  ·simp only [qG e,decide_eq_true e,Bool.true_or,Xe]
  ·rw [pk e,decide_eq_false e,S6];exact B5 k r
theorem B6(kvs:List (κ×V))(k:κ)(v:V):(putK kvs k v).length<=kvs.length+1:=by
 unfold putK;split
 ·rw [QW];omega
 ·rw [Ra,Q8,RR];omega
theorem dN.isSome_eq{o:Option V}{u:Option Yx}(r:dN o u):o.isSome=u.isSome:=by
 cases o with
 | none=>cases u with
  | none=>rfl
  | some _=>exact(show False from r).elim
 | some _=>cases u with
  | none=>exact(show False from r).elim
  | some _=>rfl
theorem dN.getD{o:Option V}{u:Option Yx}{d:V}{d':Yx}(r:dN o u)(rd:aJ d d'):aJ (o.getD d) (u.getD d'):=by
 cases o with
 | none=>cases u with
  | none=>exact rd
  | some _=>exact(show False from r).elim
 | some _=>cases u with
  | none=>exact(show False from r).elim
  | some _=>exact r
theorem KV.val{kvs:List (κ×V)}{vs:List (κ×Yx)}(r:KV kvs vs)(k:κ):dN (dJ kvs k) (valueAt vs k):=by
 unfold KV at r
 induction r with
 | nil=>exact Tr
 | @cons p q ps qs h t ih=>
  obtain⟨h1,h2⟩:=h;by_cases e:p.1=k
  ·have e':q.1=k:=h1.symm.trans e;have b:valueAt (q::qs) k=some q.2:=by simp [valueAt,Sa,e']
   rw [qG e,b];exact h2
  ·have e':¬q.1=k:=λz=>e (h1.trans z);have b:valueAt (q::qs) k=valueAt qs k:=by simp [valueAt,Sa,e']
   rw [pk e,b];exact ih
theorem KV.any{kvs:List (κ×V)}{vs:List (κ×Yx)}(r:KV kvs vs)(k:κ):(kvs.any λkv=>decide (kv.1=k))=vs.any λkv=>decide (kv.1=k):=by
 unfold KV at r
 induction r with
 | nil=>rfl
 | cons h t ih=>rw [Se,Se,ih,h.1]
theorem KV.repl{kvs:List (κ×V)}{vs:List (κ×Yx)}(r:KV kvs vs)(k:κ){y:V}{u:Yx}(ry:aJ y u):
 KV (kvs.map λkv=>if kv.1=k then(kv.1,y) else kv) (vs.map λkv=>if kv.1=k then(kv.1,u) else kv):=by
 unfold KV at r⊢
 induction r with
 | nil=>exact .nil
 | @cons p q ps qs h t ih=>
  rw [Q0,Q0];refine .cons ?_ ih;obtain⟨h1,h2⟩:=h;by_cases e:p.1=k
  ·rw [Yt e,Yt (h1.symm.trans e)];exact⟨h1,ry⟩
  ·rw [Ys e,Ys (λz=>e (h1.trans z))];exact⟨h1,h2⟩
theorem KV.put{kvs:List (κ×V)}{vs:List (κ×Yx)}(r:KV kvs vs)(k:κ){y:V}{u:Yx}(ry:aJ y u):KV (putK kvs k y) (stored vs k u):=by
 unfold putK stored;rw [r.any k];by_cases e:(vs.any λkv=>decide (kv.1=k))=true
 ·rw [Yt e,Yt e];exact r.repl k ry
 ·rw [Ys e,Ys e];exact Yf r ⟨rfl,ry⟩
theorem KV.keys{kvs:List (κ×V)}{vs:List (κ×Yx)}(r:KV kvs vs):kvs.map (·.1)=vs.map (·.1):=by
 unfold KV at r
 induction r with
 | nil=>rfl
 | cons h t ih=>rw [Q0,Q0,ih,h.1]
theorem KV.length{kvs:List (κ×V)}{vs:List (κ×Yx)}(r:KV kvs vs):kvs.length=vs.length:=V0 r
end
theorem n8{P:YI}{w:YJ}{k:aq}{u:Yx}(r:aJ (kV k) u):(dF P w).is k u=true:=by
 cases k with
 | inl i=>obtain⟨t,e⟩:=(show ∃t,u=TL i t from r);subst e;exact Hh P w i t
 | inr x=>obtain⟨t,e⟩:=(show ∃t,u=UK x t from r);subst e;exact Hi P w x t
theorem B7{P:YI}{w:YJ}:∀{ks:List aq}{us:List Yx},aI (ks.map kV) us->ItemsAre (dF P w) ks us
 | [],_,r=>by rw [RW] at r;cases r;exact .nil
 | k::ks,_,r=>by
  rw [Q0] at r;cases r with
  | cons h t=>exact .cons (n8 h) (B7 t)
abbrev KT(H:Hp):List (List aq×V)->List (List aq×Yz×Yx)->Prop:=Paired λp q=>p.1=q.1/\H q.2.1=some (.tup (p.1.map kV))/\aJ p.2 q.2.2
theorem KT.val{H:Hp}{kvs:List (List aq×V)}{xs:List (List aq×Yz×Yx)}(r:KT H kvs xs)(k:List aq):dN (dJ kvs k) ((atKey xs k).map (·.2)):=by
 induction r with
 | nil=>exact Tr
 | @cons p q ps qs h t ih=>
  obtain⟨h1,_,h2⟩:=h;by_cases e:p.1=k
  ·have e':q.1=k:=h1.symm.trans e;have b:atKey (q::qs) k=some q.2:=by simp [atKey,Sa,e']
   rw [qG e,b];exact h2
  ·have e':¬q.1=k:=λz=>e (h1.trans z);have b:atKey (q::qs) k=atKey qs k:=by simp [atKey,Sa,e']
   rw [pk e,b];exact ih
theorem KT.repl{H:Hp}{kvs:List (List aq×V)}{xs:List (List aq×Yz×Yx)}(r:KT H kvs xs)(k:List aq){y:V}{u:Yx}(ry:aJ y u):
 KT H (kvs.map λkv=>if kv.1=k then(kv.1,y) else kv) (xs.map (putAt k u)):=by
 induction r with
 | nil=>exact .nil
 | @cons p q ps qs h t ih=>
  rw [Q0,Q0];refine .cons ?_ ih;obtain⟨h1,h2,h3⟩:=h;unfold putAt;by_cases e:p.1=k
  ·rw [Yt e,Yt (h1.symm.trans e)];exact⟨h1,h2,ry⟩
  ·rw [Ys e,Ys (λz=>e (h1.trans z))];exact⟨h1,h2,h3⟩
theorem KT.put{H:Hp}{kvs:List (List aq×V)}{xs:List (List aq×Yz×Yx)}(r:KT H kvs xs)(k:List aq){b:Yz}{y:V}{u:Yx}(hb:H b=some (.tup (k.map kV)))(ry:aJ y u):
 KT H (putK kvs k y) (storedH xs k b u):=by
 have e:(kvs.any λkv=>decide (kv.1=k))=(atKey xs k).isSome:=by
  rw [B5,(r.val k).isSome_eq,Vu]
 unfold putK storedH;rw [e];by_cases q:(atKey xs k).isSome=true
 ·rw [Yt q,Yt q];exact r.repl k ry
 ·rw [Ys q,Ys q];exact Yf r ⟨rfl,hb,ry⟩
theorem KT.keeps{H H':Hp}{kvs:List (List aq×V)}{xs:List (List aq×Yz×Yx)}(r:KT H kvs xs)(ht:∀b ys,H b=some (.tup ys)->H' b=some (.tup ys)):KT H' kvs xs:=
 Paired.mapP r λ_ _ z=>⟨z.1,ht _ _ z.2.1,z.2.2⟩
section
variable {P:YI} {w:YJ} {H:Hp} {h:YK} {a:Yz}
theorem B8{u:HO}(ok:bK P w H h)(e:Rd H a u):cj P w H h a u:=e.ok ok
theorem kz{kvs:List (aq×V)}(ok:bK P w H h)(e:Rd H a (.dK kvs)):kvs.length<=YH/\(a==Ze)=false/\∃vs,KV kvs vs/\h.DictOf (dF P w) a vs:=
 show cj P w H h a (.dK kvs) from B8 ok e
theorem JX{kvs:List (aq×V)}(ok:bK P w H h)(e:H a=some (.dK kvs)):kvs.length<=YH/\(a==Ze)=false/\∃vs,KV kvs vs/\h.DictOf (dF P w) a vs:=kz ok (.inl e)
theorem n9{ks:List aq}(ok:bK P w H h)(e:H a=some (.tup (ks.map kV))):(ZP (dF P w)).is h ks a:=by
 obtain⟨_,its,r,o,h1,h2,n,h3⟩:=(show cj P w H h a (.tup (ks.map kV)) from ok a _ e);exact⟨o,its.toArray,n,h1,h2,h3,by simpa using B7 r⟩
theorem lZ{kvs:List (List aq×V)}(ok:bK P w H h)(e:Rd H a (.dT kvs)):kvs.length<=YH/\(a==Ze)=false/\
 ∃xs,KT H kvs xs/\h.DictOfH (ZP (dF P w)) a xs:=by
 obtain⟨z,y,xs,r,o,es,ep,h1,h2,h3,h4,h5⟩:=(show cj P w H h a (.dT kvs) from B8 ok e);refine⟨z,y,xs,r,o,es,ep,h1,h2,h3,h4,λx hx=>?_,h5⟩;have all:∀{l:List (List aq×V)}{m:List (List aq×Yz×Yx)},KT H l m->∀x∈m,(ZP (dF P w)).is h x.1 x.2.1:=by
  intro l m q
  induction q with
  | nil=>intro x hx;exact nomatch hx
  | @cons p q ps qs hq t ih=>
   intro x hx;rcases Q4.mp hx with e | hx
   ·subst e;exact n9 ok (by rw [<-hq.1];exact hq.2.1)
   ·exact ih x hx
 exact all r x hx
theorem JY{kvs:List (List aq×V)}(ok:bK P w H h)(e:H a=some (.dT kvs)):kvs.length<=YH/\(a==Ze)=false/\
 ∃xs,KT H kvs xs/\h.DictOfH (ZP (dF P w)) a xs:=lZ ok (.inl e)
end
def cF(H:Hp)(a:Yz)(y:V)(r:Option V):Prop:=
 (∃kvs k,Rd H a (.dK kvs)/\y=kV k/\r=dJ kvs k)\/∃kvs k b,Rd H a (.dT kvs)/\y= .ref b/\H b=some (.tup (k.map kV))/\r=dJ kvs k
def oe(H:Hp)(a:Yz)(y v:V)(H':Hp):Prop:=
 (∃kvs k,H a=some (.dK kvs)/\y=kV k/\kvs.length < YH/\H'=ah H a (.dK (putK kvs k v)))\/
 ∃kvs k b,H a=some (.dT kvs)/\y= .ref b/\H b=some (.tup (k.map kV))/\kvs.length < YH/\H'=ah H a (.dT (putK kvs k v))
theorem cF.k{H:Hp}{a:Yz}{kvs:List (aq×V)}{k:aq}(e:H a=some (.dK kvs)):cF H a (kV k) (dJ kvs k):= .inl ⟨kvs,k,.inl e,rfl,rfl⟩
theorem oe.k{H:Hp}{a:Yz}{kvs:List (aq×V)}{k:aq}{v:V}(e:H a=some (.dK kvs))(hl:kvs.length < YH):oe H a (kV k) v (ah H a (.dK (putK kvs k v))):= .inl ⟨kvs,k,e,rfl,hl,rfl⟩
section
variable {X:Cx} {aac:List (Yz×Obj)} {σ:St} {H:Hp} {s:YA} {a:Yz} {y v:V} {u r:Yx} {o:Option V} {A:YN} {E:Yx->YA->Prop}
theorem ag.big(I:ag X aac σ H s):Ze < s.heap.objs.size:=by
 have h:YM < s.heap.objs.size:=(I.mod.glob.keeps I.bk).lt;exact X9 Yq h
theorem JZ{Q:Yx->YA->Prop}(hu:A.units+1 < Y0)(I:ag X aac σ H s)(g:cF H a y (some v))(ry:aJ y u)(h:∀w' s',ag X aac σ H s'->aJ v w'->Q w' s'):
 YC (YE X.prog X.w) A (ZC (.ref a) u) Q E s:=by
 rcases g with⟨kvs,k,e,ey,l⟩ | ⟨kvs,k,b,e,ey,eb,l⟩
 ·subst ey;obtain⟨z,hd,vs,rel,dd⟩:=kz I.hok e;obtain⟨w',hw,rw'⟩:=dN.some_of (v:=v) (o:=valueAt vs k) (by rw [l];exact rel.val k);exact wpAny_getItem_of (n8 ry) dd.mapOf hw (h w' _ (I.tok _) rw')
 ·subst ey;cases (show u=RM b from ry);obtain⟨z,hd,xs,rel,dd⟩:=lZ I.hok e;obtain⟨w',hw,rw'⟩:=dN.some_of (v:=v) (o:=(atKey xs k).map (·.2)) (by rw [l];exact rel.val k);obtain⟨p,hp,hp2⟩:=TC.mp hw;refine wpAny_getItem_heap (Zh hu) (n9 I.hok eb) dd hp ?_;rw [hp2];exact h w' _ (I.tok _) rw'
theorem J0{Q:Yx->YA->Prop}(hu:A.units+1 < Y0)(I:ag X aac σ H s)(g:cF H a y o)(ry:aJ y u)(h:∀s',ag X aac σ H s'->Q (.bool o.isSome) s'):
 YC (YE X.prog X.w) A (YU .In u (.ref a)) Q E s:=by
 rcases g with⟨kvs,k,e,ey,l⟩ | ⟨kvs,k,b,e,ey,eb,l⟩
 ·subst ey;obtain⟨z,hd,vs,rel,dd⟩:=kz I.hok e;refine wpAny_in_of (n8 ry) hd dd.mapOf ?_;rw [<-(rel.val k).isSome_eq,<-l];exact h _ (I.tok _)
 ·subst ey;cases (show u=RM b from ry);obtain⟨z,hd,xs,rel,dd⟩:=lZ I.hok e;refine wpAny_in_heap (Zh hu) (n9 I.hok eb) hd dd ?_;have q:=(rel.val k).isSome_eq;rw [Vu] at q;rw [<-q,<-l];exact h _ (I.tok _)
theorem J1{Q:Yx->YA->Prop}(hu:A.units+1 < Y0)(I:ag X aac σ H s)(g:cF H a y o)(ry:aJ y u)(h:∀s',ag X aac σ H s'->Q (.bool (!o.isSome)) s'):
 YC (YE X.prog X.w) A (YU .NotIn u (.ref a)) Q E s:=by
 rcases g with⟨kvs,k,e,ey,l⟩ | ⟨kvs,k,b,e,ey,eb,l⟩
 ·subst ey;obtain⟨z,hd,vs,rel,dd⟩:=kz I.hok e;refine wpAny_notIn_of (n8 ry) hd dd.mapOf ?_;rw [<-(rel.val k).isSome_eq,<-l];exact h _ (I.tok _)
 ·subst ey;cases (show u=RM b from ry);obtain⟨z,hd,xs,rel,dd⟩:=lZ I.hok e;refine wpAny_notIn_heap (Zh hu) (n9 I.hok eb) hd dd ?_;have q:=(rel.val k).isSome_eq;rw [Vu] at q;rw [<-q,<-l];exact h _ (I.tok _)
theorem B9{h':YK}{t':Nat}{ob:HO}(I:ag X aac σ H s)(mu:qa (H a))(hs:Tx a s.heap h')(he:∃q,h'.get? a=some q)(new:cj X.prog X.w (ah H a ob) h' a ob):
 ag X aac σ (ah H a ob) {s with heap:=h',toks:=t'}:=
 I.write (x:=a) (e:=a) mu (.inl rfl) (λb q hb z=>(hs.2 b hb).trans z) he new
theorem J3{P:YI}{w:YJ}{H':Hp}{h':YK}{kvs:List (aq×V)}{vs:List (aq×Yx)}(z:kvs.length<=YH)(hd:(a==Ze)=false)(rel:KV kvs vs)(dd:h'.DictOf (dF P w) a vs):
 cj P w H' h' a (.dK kvs):=⟨z,hd,vs,rel,dd⟩
theorem J4{H':Hp}{Q:Unit->YA->Prop}(hu:A.units+1 < Y0)(I:ag X aac σ H s)(g:oe H a y v H')(ry:aJ y u)(rv:aJ v r)(h:∀s',ag X aac σ H' s'->Q () s'):
 YC (YE X.prog X.w) A (setItem (.ref a) u r) Q E s:=by
 rcases g with⟨kvs,k,e,ey,l,eH⟩ | ⟨kvs,k,b,e,ey,eb,l,eH⟩
 ·subst ey eH;obtain⟨z,hd,vs,rel,dd⟩:=JX I.hok e;have hz:vs.length<=YH:=by rw [<-rel.length];exact z
  have hl:(putK kvs k v).length<=YH:=by have:=B6 kvs k v;omega
  refine wpAny_setItem_pairs (hsz:=hz) (n8 ry) dd λh' dd' hs=>h _ ?_;have he:∃q,h'.get? a=some q:=let ⟨q,_,_,hq,_⟩:=dd';⟨q,hq⟩
  exact B9 I (by rw [e];exact Tr) hs he (J3 hl hd (rel.put k rv) dd')
 ·subst ey eH;cases (show u=RM b from ry);obtain⟨z,hd,xs,rel,dd⟩:=JY I.hok e;have hz:xs.length<=YH:=by rw [<-V0 rel];exact z
  have hl:(putK kvs k v).length<=YH:=by have:=B6 kvs k v;omega
  refine wpAny_setItem_heap (hsz:=hz) (Zh hu) (n9 I.hok eb) dd λh' dd' hs=>h _ ?_;obtain⟨q,es,ep,hq,h2,h3,h4,_,h5⟩:=dd';refine B9 I (by rw [e];exact Tr) hs ⟨q,hq⟩ ⟨hl,hd,_,(rel.put k eb rv).keeps λc ys ec=>?_,q,es,ep,hq,h2,h3,h4,h5⟩;rw [az (Hk ec e (λz=>nomatch z))];exact ec
end
def sP(i:YF):Prop:=∀ov iv,Z3 i false ov iv=operate [ov,iv] (ZC ov iv)
theorem J5{prog:YI}{w:YJ}{A:YN}{E:Yx->YA->Prop}{s:YA}{env:Env}{value slice:YF}{pos:Pos}{T id:String}{Q:Yx->YA->Prop}
 (hl:typeLookup (.type T) "__getitem__"=pure (some (.builtin id)))(hs:sP slice)
 (h:YC (YE prog w) A (eval value env) (λo s₁=>YC (YE prog w) A (eval slice env) (λi s₂=>s₂.TypeIs o T/\YC (YE prog w) A (ZC o i) Q E s₂) E s₁) E s):
 YC (YE prog w) A (eval (.Subscript value slice pos) env) Q E s:=by
 refine Subscript_ (YY h (λo s₁ h₁=>YY h₁ (λi s₂ h₂=>?_) λ_ _ x=>x) λ_ _ x=>x);obtain⟨hT,h₂⟩:=h₂;unfold subscriptTail;refine Yy ?_;rw [getitemInPython_of_ne hT.not_modules];refine Yy (wpAny_specialOf hT hl ?_);have fin:YC (YE prog w) A (Z3 slice false o i) (λr s₃=>YC (YE prog w) A (letTemporaryGo value o r >>=λ_=>pure r) Q E s₃) E s₂:=by
  rw [hs o i];exact wpAny_operating (YY h₂ (λr s₃ h₃=>Yy (wpAny_letTemporaryGo (YB h₃))) λ_ _ x=>x)
 first
  | exact YB (Yy fin)
  | exact Yy (YB (Yy fin))
  | exact Yy fin
theorem J6{X:Cx}{aac:List (Yz×Obj)}{σ:St}{H:Hp}{s:YA}{a:Yz}{y:V}{o:Option V}(I:ag X aac σ H s)(g:cF H a y o):s.TypeIs (.ref a) "dict":=by
 rcases g with⟨kvs,k,e,_,_⟩ | ⟨kvs,k,b,e,_,_,_⟩
 ·obtain⟨_,_,vs,_,dd⟩:=kz I.hok e;exact dd.typeIs
 ·obtain⟨_,_,xs,_,dd⟩:=lZ I.hok e;exact dd.typeIs
def J7(td ty:TE):TE:=λσ H Q=>td σ H λx H1=>ty σ H1 λy H2=>∃a v,x= .ref a/\cF H2 a y (some v)/\Q v H2
def J8(ty td:TE):TE:=λσ H Q=>ty σ H λy H1=>td σ H1 λx H2=>∃a o,x= .ref a/\cF H2 a y o/\Q (.bl o.isSome) H2
def J9(ty td:TE):TE:=λσ H Q=>ty σ H λy H1=>td σ H1 λx H2=>∃a o,x= .ref a/\cF H2 a y o/\Q (.bl (!o.isSome)) H2
def Ca(td ty tv:TE):TS:=λD σ H=>tv σ H λv H1=>td σ H1 λx H2=>ty σ H2 λy H3=>∃a H4,x= .ref a/\oe H3 a y v H4/\D.nx σ H4
section
variable {X:Cx} {o i e value:YF} {pos pos' tpos:Pos} {td ty tv:TE}
theorem Cb(hu:X.A.units+1 < Y0)(ho:PE X o td)(hi:PE X i ty)(hs:sP i):PE X (.Subscript o i pos) (J7 td ty):=by
 intro aac s σ H Q I h;refine J5 PySem.F.slot_dict_getitem.lookup hs (aB (ho aac s σ H _ I h) λu s1 ⟨x,H1,I1,rx,q1⟩=>aB (hi aac s1 σ H1 _ I1 q1) λiv s2 ⟨y,H2,I2,ry,a,v,ex,g,q2⟩=>?_);subst ex;obtain rfl:u=RM a:=rx;exact⟨J6 I2 g,JZ hu I2 g ry λw' s3 I3 rw'=>⟨v,H2,I3,rw',q2⟩⟩
theorem Ka(hu:X.A.units+1 < Y0)(hi:PE X i ty)(ho:PE X o td):PC X .In i o (J8 ty td):=by
 intro aac s σ H Q I h;refine aB (hi aac s σ H _ I h) λiv s1 ⟨y,H1,I1,ry,q1⟩=>aB (ho aac s1 σ H1 _ I1 q1) λu s2 ⟨x,H2,I2,rx,a,ov,ex,g,q2⟩=>?_;subst ex;obtain rfl:u=RM a:=rx;exact J0 hu I2 g ry λs3 I3=>⟨.bl ov.isSome,H2,I3,rfl,q2⟩
theorem Cc(hu:X.A.units+1 < Y0)(hi:PE X i ty)(ho:PE X o td):PC X .NotIn i o (J9 ty td):=by
 intro aac s σ H Q I h;refine aB (hi aac s σ H _ I h) λiv s1 ⟨y,H1,I1,ry,q1⟩=>aB (ho aac s1 σ H1 _ I1 q1) λu s2 ⟨x,H2,I2,rx,a,ov,ex,g,q2⟩=>?_;subst ex;obtain rfl:u=RM a:=rx;exact J1 hu I2 g ry λs3 I3=>⟨.bl (!ov.isSome),H2,I3,rfl,q2⟩
theorem vG(hu:X.A.units+1 < Y0)(ho:PE X o td)(hi:PE X i ty)(hv:PE X value tv)(hs:YS value (some (.Subscript o i pos')) pos.line X.env=pure false):
 PS X (.Assign [.Subscript o i pos'] value pos) (Ca td ty tv):=by
 intro aac s σ H D I h;refine wpAny_Assign_Subscript (aB (hv aac s σ H _ I h) λr s1 ⟨v,H1,I1,rv,q1⟩=>aB (ho aac s1 σ H1 _ I1 q1) λu s2 ⟨x,H2,I2,rx,q2⟩=>aB (hi aac s2 σ H2 _ I2 q2) λiv s3 ⟨y,H3,I3,ry,a,H4,ex,g,q3⟩=>?_) hs;subst ex;obtain rfl:u=RM a:=rx;exact J4 hu I3 g ry rv λs4 I4=>⟨σ,H4,I4,q3⟩
end
theorem Cd{P:YI}{w:YJ}{H:Hp}(h:YK)(hb:Ze < h.objs.size):cj P w H (h.push {cls:= .type "dict",data:= .dict #[]}) h.objs.size (.dK []):=
 ⟨RL _,beq_eq_false_iff_ne.mpr (Ne.symm (RH hb)),[],.nil,Yo h⟩
def Kb:TE:=λ_ H Q=>∀p,H p=none->Q (.ref p) (ah H p (.dK []))
section
variable {X:Cx} {pos:Pos}
theorem Kc:PE X (.Dict [] [] pos) Kb:=λaac s σ H Q I h=>
 wpAny_Dict_empty ⟨.ref s.heap.objs.size,_,I.laid (a:=s.heap.objs.size) (o:= .dK []) (t':=s.toks) (λ_ _ q=>Q1 _ q) (QY _) (Cd s.heap I.big),rfl,h _ (I.hok.fresh (QY _))⟩
end
structure M1 (X:Cx) (o:YF) (m:Str) (apos:Pos) (e:YF) (cpos:Pos):Prop where
 base:Y4 o m X.env (eval o X.env)=eval o X.env
 few:((YR cpos (YD [e] X.env)).all (λx=>!x.1) && (Zk cpos (Y6 [] X.env)).all (λx=>x.1.isSome)
  && decide (([e]:List YF).length+([]:List Zj).length+(if ([]:List Zj).isEmpty then 0 else 1) < 30))=true
 line:(apos.endLine==cpos.line)=true
 trees:YR cpos (YD [e] X.env)=[(false,eval e X.env)]
structure M2 (X:Cx) (o:YF) (m:Str) (apos:Pos) (e f:YF) (cpos:Pos):Prop where
 base:Y4 o m X.env (eval o X.env)=eval o X.env
 few:((YR cpos (YD [e,f] X.env)).all (λx=>!x.1) && (Zk cpos (Y6 [] X.env)).all (λx=>x.1.isSome)
  && decide (([e,f]:List YF).length+([]:List Zj).length+(if ([]:List Zj).isEmpty then 0 else 1) < 30))=true
 line:(apos.endLine==cpos.line)=true
 trees:YR cpos (YD [e,f] X.env)=[(false,eval e X.env),(false,eval f X.env)]
def vH(H:Hp)(a:Yz):Prop:=(∃kvs,Rd H a (.dK kvs))\/∃kvs,Rd H a (.dT kvs)
theorem Ce{X:Cx}{aac:List (Yz×Obj)}{σ:St}{H:Hp}{s:YA}{a:Yz}(I:ag X aac σ H s)(d:vH H a):
 s.TypeIs (.ref a) "dict"/\(∀b,RM a= .ref b->∃ob,s.heap.get? b=some ob/\ob.dict=none)/\(a==Ze)=false:=by
 rcases d with⟨kvs,e⟩ | ⟨kvs,e⟩
 ·obtain⟨_,hd,vs,_,dd⟩:=kz I.hok e;refine⟨dd.typeIs,λb q=>?_,hd⟩;cases q;obtain⟨ob,_,_,h1,h2,_⟩:=dd;exact⟨ob,h1,h2.2.1⟩
 ·obtain⟨_,hd,xs,_,dd⟩:=lZ I.hok e;refine⟨dd.typeIs,λb q=>?_,hd⟩;cases q;obtain⟨ob,_,_,h1,h2,_⟩:=dd;exact⟨ob,h1,h2.2.1⟩
section
variable {X:Cx} {aac:List (Yz×Obj)} {σ:St} {H:Hp} {s:YA} {a:Yz} {y d:V} {u r:Yx} {o:Option V} {A:YN} {E:Yx->YA->Prop}
theorem Kd{Q:Yx->YA->Prop}(hu:A.units+1 < Y0)(I:ag X aac σ H s)(g:cF H a y o)(ry:aJ y u)(h:∀w' s',ag X aac σ H s'->aJ (o.getD .non) w'->Q w' s'):
 YC (YE X.prog X.w) A (call (.builtin "dict.get") [.ref a,u]) Q E s:=by
 rcases g with⟨kvs,k,e,ey,l⟩ | ⟨kvs,k,b,e,ey,eb,l⟩
 ·subst ey;obtain⟨z,hd,vs,rel,dd⟩:=kz I.hok e;refine call_meetsIn TN dd.typeIs UU (Wz _ _) (meets_dict_get (dF X.prog X.w) a (n8 ry) hd) ⟨_,dd.mapOf,h _ _ (I.tok _) ?_⟩;rw [l];exact(rel.val k).getD rfl
 ·subst ey;cases (show u=RM b from ry);obtain⟨z,hd,xs,rel,dd⟩:=lZ I.hok e;refine call_meetsIn TN dd.typeIs UU (Wz _ _) (meetsH_dict_get (ZP (dF X.prog X.w)) a b hd) ⟨Zh hu,k,xs,n9 I.hok eb,dd,h _ _ (I.tok _) ?_⟩;rw [l];exact(rel.val k).getD rfl
theorem Ke{Q:Yx->YA->Prop}(hu:A.units+1 < Y0)(I:ag X aac σ H s)(g:cF H a y o)(ry:aJ y u)(rd:aJ d r)(h:∀w' s',ag X aac σ H s'->aJ (o.getD d) w'->Q w' s'):
 YC (YE X.prog X.w) A (call (.builtin "dict.get") [.ref a,u,r]) Q E s:=by
 rcases g with⟨kvs,k,e,ey,l⟩ | ⟨kvs,k,b,e,ey,eb,l⟩
 ·subst ey;obtain⟨z,hd,vs,rel,dd⟩:=kz I.hok e;refine call_meetsIn TN dd.typeIs UU (WA _ _ _) (meets_dict_get_default (dF X.prog X.w) a (n8 ry) hd r) ⟨_,dd.mapOf,h _ _ (I.tok _) ?_⟩;rw [l];exact(rel.val k).getD rd
 ·subst ey;cases (show u=RM b from ry);obtain⟨z,hd,xs,rel,dd⟩:=lZ I.hok e;refine call_meetsIn TN dd.typeIs UU (WA _ _ _) (meetsH_dict_get_default (ZP (dF X.prog X.w)) a b hd r) ⟨Zh hu,k,xs,n9 I.hok eb,dd,h _ _ (I.tok _) ?_⟩;rw [l];exact(rel.val k).getD rd
end
def Kf(td ty:TE):TE:=λσ H Q=>td σ H λx H1=>∃a,x= .ref a/\vH H1 a/\ty σ H1 λy H2=>∃o,cF H2 a y o/\Q (o.getD .non) H2
def Kg(td ty tx:TE):TE:=λσ H Q=>td σ H λx H1=>∃a,x= .ref a/\vH H1 a/\ty σ H1 λy H2=>tx σ H2 λz H3=>∃o,cF H3 a y o/\Q (o.getD z) H3
section
variable {X:Cx} {o e f:YF} {apos cpos:Pos} {td ty tx:TE}
theorem Cf(hu:X.A.units+1 < Y0)(ho:PE X o td)(he:PE X e ty)(m:M1 X o "get" apos e cpos):PE X (.Call (.Attribute o "get" apos) [e] [] cpos) (Kf td ty):=by
 intro aac s σ H Q I h;refine wpAny_Call_method m.base m.few m.line WB TN WS (aB (ho aac s σ H _ I h) λu s1 ⟨x,H1,I1,rx,a,ex,d,q1⟩=>?_);subst ex;obtain rfl:u=RM a:=rx;obtain⟨t1,t2,_⟩:=Ce I1 d;refine⟨t1,t2,?_⟩;rw [m.trees];refine Vy rfl (VI (Vi (aB (he aac s1 σ H1 _ I1 q1) λiv s2 ⟨y,H2,I2,ry,ov,g,q2⟩=>Wf ?_)));exact Kd hu I2 g ry λw' s3 I3 rw'=>⟨_,H2,I3,rw',q2⟩
theorem Kh(hu:X.A.units+1 < Y0)(ho:PE X o td)(he:PE X e ty)(hf:PE X f tx)(m:M2 X o "get" apos e f cpos):PE X (.Call (.Attribute o "get" apos) [e,f] [] cpos) (Kg td ty tx):=by
 intro aac s σ H Q I h;refine wpAny_Call_method m.base m.few m.line WB TN WS (aB (ho aac s σ H _ I h) λu s1 ⟨x,H1,I1,rx,a,ex,d,q1⟩=>?_);subst ex;obtain rfl:u=RM a:=rx;obtain⟨t1,t2,_⟩:=Ce I1 d;refine⟨t1,t2,?_⟩;rw [m.trees];refine Vy rfl (VI (Vi (aB (he aac s1 σ H1 _ I1 q1) λiv s2 ⟨y,H2,I2,ry,q2⟩=>
  Vi (aB (hf aac s2 σ H2 _ I2 q2) λfv s3 ⟨z,H3,I3,rz,ov,g,q3⟩=>Wf ?_))))
 exact Ke hu I3 g ry rz λw' s4 I4 rw'=>⟨_,H3,I4,rw',q3⟩
end
section
variable {X:Cx} {H0:Hp} {O0:Ex}
def litsOf:List YF->Option (List Yw)
 | []=>some []
 | .Constant (.int i) _ _::r=>(litsOf r).map (.int i::·)
 | .Constant (.str x) _ _::r=>(litsOf r).map (.str x::·)
 | _::_=>none
def jo(ds:List Yw):DA:=λ_ Q=>Q ds
theorem l4:∀{es:List YF}{ds:List Yw},litsOf es=some ds->PA X es (fT X.K H0 O0 (jo ds))
 | [],ds,h=>by cases h;exact aj
 | e::r,ds,h=>by
  cases e with
  | Constant c j p=>
   cases c with
   | int i=>
    have h':(litsOf r).map (.int i::·)=some ds:=h;cases q:litsOf r with
    | none=>rw [q] at h';cases h'
    | some ms=>rw [q] at h';cases h';exact aa af (l4 q)
   | str x=>
    have h':(litsOf r).map (.str x::·)=some ds:=h;cases q:litsOf r with
    | none=>rw [q] at h';cases h'
    | some ms=>rw [q] at h';cases h';exact aa aX (l4 q)
   | _=>cases h
  | _=>cases h
def litsE:YF->Option (List Yw)
 | .List es _=>litsOf es
 | _=>none
theorem vI{e:YF}{ds:List Yw}(h:litsE e=some ds):FE X H0 O0 e (jj (jo ds)):=by
 cases e with
 | List es p=>exact bV (l4 h)
 | _=>cases h
theorem Ki{e:YF}{ds:List Yw}{x:Option YF}{n:Nat}{env:Env}(h:litsE e=some ds):YS e x n env=pure false:=by
 cases e with
 | List es p=>rfl
 | _=>cases h
end
structure l5 (n:Nat) (x:Str):Prop where
 ok:Q2 x=true
 le:x.length<=n
theorem qH{x:Str}:Q2 x=true↔∀c∈x.cps.toList,c < 0x110000:=by
 unfold Q2;rw [<-Array.all_toList,Wt];simp
theorem Kj(x y:Str):(x++y).cps=x.cps++y.cps:=rfl
theorem Cg(x y:Str):(x++y).length=x.length+y.length:=by
 show(x.cps++y.cps).size=_;rw [Array.size_append];rfl
theorem l5.append{a b:Nat}{x y:Str}(h:l5 a x)(h':l5 b y):l5 (a+b) (x++y):=by
 refine⟨qH.mpr λc hc=>?_,by rw [Cg];have:=h.le;have:=h'.le;omega⟩;rw [Kj,Array.toList_append] at hc;rcases Rj.mp hc with z | z
 ·exact qH.mp h.ok c z
 ·exact qH.mp h'.ok c z
theorem l5.chr{c:Nat}(h:c < 0x110000):l5 1 ⟨#[c]⟩:=⟨qH.mpr λd hd=>by
 have:d=c:=by simpa using hd
 rw [this];exact h,QY _⟩
def pq:Str:="abcdefghijklmnopqrstuvwxyz"
theorem Kk:pq.cps.toList.length=26:=Yp
theorem Kl:∀c∈pq.cps.toList,c < 0x110000:=Yp
theorem Ci{j:Int}(h0:0<=j)(h1:j < 26):∃c,atI pq.cps.toList j=some c/\pq.cps.toList[j.toNat]?=some c/\c < 0x110000:=by
 obtain⟨k,rfl⟩:=SY h0;have hk:k < pq.cps.toList.length:=by rw [Kk];omega
 refine⟨pq.cps.toList[k],fO (by simp [hk]),by simp [hk],Kl _ (Tg hk)⟩
structure bQ (n:Nat) (d:Yw):Prop where
 can:d.canLay0=true
 dep:d.depth<=n
theorem bQ.shp{n:Nat}{d:Yw}(h:bQ n d)(hn:n<=64):Tz d=true:=by
 unfold Tz;rw [h.can,decide_eq_true (Rx h.dep hn)];rfl
theorem bQ.mono{n m:Nat}{d:Yw}(h:bQ n d)(hn:n<=m):bQ m d:=⟨h.can,Rx h.dep hn⟩
theorem iL{x:Str}(h:Q2 x=true):bQ 1 (.str x):=⟨by simpa [RS] using h,by simp [U3]⟩
theorem qI{i:Int}:bQ 1 (.int i):=⟨by simp [RS],by simp [U3]⟩
theorem Km{i:Bool}:bQ 1 (.bool i):=⟨by simp [RS],by simp [U3]⟩
theorem qJ{n:Nat}:∀{ds:List Yw},(∀d∈ds,bQ n d)->SH ds=true/\Vd ds<=n
 | [],_=>⟨by simp [SH],by simp [Vd]⟩
 | d::r,h=>by
  obtain⟨a,b⟩:=qJ (ds:=r) λe he=>h e (by simp [he]);have c:=h d Yv;refine⟨by rw [SH,c.can,a];rfl,?_⟩;rw [Vd];exact Nat.max_le.mpr ⟨c.dep,b⟩
theorem fh{n:Nat}{ds:List Yw}(h:∀d∈ds,bQ n d):bQ (n+1) (.tuple ds):=by
 obtain⟨a,b⟩:=qJ h;refine⟨by simpa [RS] using a,?_⟩;rw [U3];omega
def PU(X:Cx)(e:YF)(te:TE):Prop:=∀(i:Nat)(x:Str)(pos' spos:Pos)(hN:X.N.Nodup)(hxi:X.N[i]?=some x)(hx:g8 X.env.scope x)(hsw:YS e (some (.Name x pos')) spos.line X.env=pure true)
 (hfn:X.fn x=true\/X.env.scope.names.lookup x=some .local),PS X (.Assign [.Name x pos'] e spos) (qj te (i8 i))
theorem PU.imp{X:Cx}{e:YF}{t u:TE}(h:PU X e t)(i:∀σ H Q,u σ H Q->t σ H Q):PU X e u:=λi' x p1 p2 hN hxi hx hsw hfn=>(h i' x p1 p2 hN hxi hx hsw hfn).imp λD σ H z=>i σ H _ z
section
variable {X:Cx} {H0:Hp} {O0:Ex}
section
variable {tg iter elt:YF} {ifs:List YF} {scope:Za} {N':List Str} {k:Nat} {fr:List Nat} {g:TG} {dg:DG} {t:DT} {ta:DA} {tc:DB} {te:DT} {pos p ps:Pos}
theorem vJ{wi:TI}{tc:TT}{te:TE}(hc:X.calm=true)(S:bb X.env.scope X.N N' k fr scope)(hi:PI X tg iter wi)
 (hg:∀fp C s H,PG (bF X scope N' fp C s H) tg g)(hf:∀fp C s H,fy (bF X scope N' fp C s H) ifs tc)(he:∀fp C s H,PE (bF X scope N' fp C s H) elt te)
 (hs:∀x,YO iter X.env x=pure x:=by intro _;rfl):PU X (.ListComp elt [⟨tg,iter,ifs,0⟩] scope pos) (lT wi g tc te k fr):=
 λ_ _ _ _ hN hxi hx hsw hfn=>Jm hN hxi hx hc S hi hg hf he hsw hs hfn
theorem sQ(hc:X.calm=true)(S:bb X.env.scope X.N N' k fr scope)(hi:DF X H0 O0 iter t)(gd:GD X.K g dg)(hk:j1 g k)(hfr:fr.Nodup)
 (hg:∀fp C s H,PG (bF X scope N' fp C s H) tg g)(hf:∀fp C s H,fy (bF X scope N' fp C s H) ifs (bT X.K H0 O0 tc))(he:∀fp C s H,PE (bF X scope N' fp C s H) elt (up X.K H0 O0 te))
 (hs:∀x,YO iter X.env x=pure x:=by intro _;rfl):PU X (.ListComp elt [⟨tg,iter,ifs,0⟩] scope pos) (nV X.K H0 O0 (iI t dg tc te k fr)):=
 (vJ hc S (rN hi) hg hf he hs).imp λσ H Q uu59=>by obtain⟨O,δ,Qd,w,q,kk⟩:=uu59;exact⟨O,δ,_,w,q,λd v H1 uu60 s1 r1=>by
  obtain⟨xs,e,hz,q1⟩:=uu60;subst e;obtain⟨a,vs,rfl,hq,rr⟩:=r1.lst;refine⟨a,rfl,⟨_,hq⟩,λD hD=>pj (cV.list hq) gd hfr (λv _ H' R h=>hk fr σ v H' R h) (λ_ _ _ z=>z) (λ_ _ _ z=>z) (λD H' hD s' o e=>s' _ _ e (dZ e hD)) rr (w.mono s1) (by rw [rr.length];exact hz) q1 (λds us p H' z s' hp r'=>kk ds us p H' z (s1.trans s') hp r') D hD⟩⟩
theorem Cj(hc:X.calm=true){a:YF}(S:bb X.env.scope X.N N' k fr scope)(hgl:Gl X "range")(hm:X.mg "range"=none)(ha:PA X [a] (hZ X.K H0 O0 ta))(gd:GD X.K g dg)(hk:j1 g k)(hfr:fr.Nodup)
 (hg:∀fp C s H,PG (bF X scope N' fp C s H) tg g)(hf:∀fp C s H,fy (bF X scope N' fp C s H) ifs (bT X.K H0 O0 tc))(he:∀fp C s H,PE (bF X scope N' fp C s H) elt (up X.K H0 O0 te))
 (hst:YD [a] X.env=[(false,eval a X.env)]:=by rfl)(hs:∀x,YO (.Call (.Name "range" p) [a] [] ps) X.env x=pure x:=by intro _;rfl):
 PU X (.ListComp elt [⟨tg,(.Call (.Name "range" p) [a] [] ps),ifs,0⟩] scope pos) (nV X.K H0 O0 (jn ta dg tc te k fr)):=
 (vJ hc S (uW hgl hm ha hst) hg hf he hs).imp λσ H Q uu61=>by obtain⟨O,δ,Qd,w,q,kk⟩:=uu61;exact⟨O,δ,_,w,q,λds vs H1 uu62 s1 r1=>by
  obtain⟨j,e,b1,b2,q1⟩:=uu62;subst e;cases r1 with
  | cons r1 r2=>
   cases r2;cases r1.int;have hb:(YH:Int) < 2 ^ 62:=Yq
   exact⟨j,rfl,b1,Yr,λD hD=>pj (P:=λ_=>True) cV.rng gd hfr (λv _ H' R h=>hk fr σ v H' R h) (λ_ _ _ z=>z) (λ_ _ _ z=>z) (λ_ _ _ _=>trivial) (ai.rng _) (w.mono s1) (by rw [QW,UY];omega) q1 (λds us p H' z s' hp r'=>kk ds us p H' z (s1.trans s') hp r') D hD⟩⟩
end
theorem ic{i:Nat}{x:Str}{e:YF}{t:DA}{pos pos':Pos}(hN:X.N.Nodup)(hi:X.N[i]?=some x)(hx:g8 X.env.scope x)(he:PU X e (nV X.K H0 O0 t))(hs:YS e (some (.Name x pos')) pos.line X.env=pure true:=by rfl)(hf:X.fn x=true\/X.env.scope.names.lookup x=some .local:=by first | exact .inl rfl | exact .inr rfl | assumption):
 PS X (.Assign [.Name x pos'] e pos) (bf X.K H0 O0 (fU i (dL t))):=
 (he _ _ _ _ hN hi hx hs hf).imp λD σ H ⟨O,δ,E,w,q,k1,k2,k3,k4⟩=>⟨O,δ,_,w,q,λds vs p H1 q1 s1 hp r1=>
  k1 O _ _ _ q1 ((w.mono (s1.trans (au.new hp))).set (.lst (.inl bq) (sF w s1 hp) (r1.mono (au.new hp)))) (.same (s1.trans (au.new hp)))⟩
def vK(K:QV)(neg:Bool):R2:=λx y H Q=>∃O dx ds dy,Sh K H O x dx/\Sh K H O y dy/\(dy= .list ds\/dy= .tuple ds)/\cy dx/\SH ds=true/\Q (.bl (if neg then !(ds.any λd=>Rr d dx) else ds.any λd=>Rr d dx)) H
theorem sR{A:YN}{k:Nat}{xs:List Yw}{d:Yw}(hd:cy d)(hr:bp k A):A.units+1+min (Vd xs) d.depth < Y0:=by
 have:=SeqAt.depth_of_shaped hd;have h1:min (Vd xs) d.depth<=d.depth:=Wr _ _;have:=hr.un;omega
theorem Ck{k:Nat}(hr:bp k X.A):bG X (YU .In) (vK X.K false):=by
 intro aac s σ H x y v u Q I rx ry h;obtain⟨O,dx,ds,dy,hx,hy,e,sx,sy,q⟩:=h;obtain⟨as,ra⟩:=iC I hx.all (Sq sx) rx;rcases e with e | e <;> subst e
 ·obtain⟨bs,rb⟩:=iC I hy.all (by simpa [RS] using sy) ry;exact SeqAt.in_list_reads rb ra sy (Sq sx) (sR sx hr) (bD I q rfl)
 ·obtain⟨bs,rb⟩:=iC I hy.all (by simpa [RS] using sy) ry;exact SeqAt.in_tuple_reads rb ra sy (Sq sx) (sR sx hr) (bD I q rfl)
theorem Kn{k:Nat}(hr:bp k X.A):bG X (YU .NotIn) (vK X.K true):=by
 intro aac s σ H x y v u Q I rx ry h;obtain⟨O,dx,ds,dy,hx,hy,e,sx,sy,q⟩:=h;obtain⟨as,ra⟩:=iC I hx.all (Sq sx) rx;rcases e with e | e <;> subst e
 ·obtain⟨bs,rb⟩:=iC I hy.all (by simpa [RS] using sy) ry;exact SeqAt.notIn_list_reads rb ra sy (Sq sx) (sR sx hr) (bD I q rfl)
 ·obtain⟨bs,rb⟩:=iC I hy.all (by simpa [RS] using sy) ry;exact SeqAt.notIn_tuple_reads rb ra sy (Sq sx) (sR sx hr) (bD I q rfl)
def kA(neg:Bool):Yw->Yw->(Yw->Prop)->Prop:=λx y Q=>∃ds,(y= .list ds\/y= .tuple ds)/\cy x/\SH ds=true/\Q (.bool (if neg then !(ds.any λd=>Rr d x) else ds.any λd=>Rr d x))
theorem vL{K:QV}{neg:Bool}:cw K (vK K neg) (kA neg):=λH O x y dx dy Qd R _ hx hy uu64 k=>by obtain⟨ds,e,a,b,q⟩:=uu64;exact⟨O,dx,ds,dy,hx,hy,e,a,b,k _ _ H q (au.refl _) (.bl _)⟩
theorem Ko{prog:YI}{w:YJ}{A:YN}{E:Yx->YA->Prop}{s:YA}{t sl:Yz}{items:Array Yx}{vl vu:Yx}{lo hi:Option Int}{Q:Yx->YA->Prop}(ht:IsTup s.heap t items)(hs:s.heap.IsSliceOf sl vl vu .none)(pl:IsPart vl lo)(pu:IsPart vu hi)
 (hw:HT.sIx items.size 0 lo=0/\HT.sIx items.size items.size hi=items.size)(h:Q (.ref t) s):YC (YE prog w) A (ZC (.ref t) (.ref sl)) Q E s:=by
 obtain⟨os,hos,hcs,hds⟩:=id hs;have hTs:s.TypeIs (.ref sl) "slice":=⟨os,hos,hcs⟩;unfold ZC
 try with_reducible refine Y2 ?_
 first | refine Yy (YB ?_) | skip
 refine Yy (wpAny_sequenceKey ht.typeIs Yq ?_);refine Yy (YW (name:=QU "__getitem__") ht.typeIs TR
  (YV TR ht.typeIs XB ?_ (XI _ _)))
 show YC _ _ (V5 (.ref t) >>=_) _ _ s;refine Yy (tupleItemsOf_ ht ?_);refine Yy (ZV hTs ?_);rw [Yt Yq];refine Yy (HT.sliceApplied_gen hs pl pu ?_);show YC _ _ (if (((HT.sIx items.size 0 lo:Nat):Int)==0 && (1:Int)==1 && (HT.sIx items.size items.size hi - HT.sIx items.size 0 lo)==items.size)=true then _ else _) _ _ s;rw [Yt (by rw [hw.1,hw.2];simp)];unfold Builtin.Tuple.tupleIsExact;refine Yy (Yy (ZV ht.typeIs (YB ?_)));rw [Yt Yq];exact Yy (ZX (YB ⟨_,rfl,YB h⟩))
def Kp(K:QV):V->Option Int->Option Int->Hp->VK->Prop:=λx lo hi H Q=>∃a xs,x= .ref a/\aZ K H a xs/\
 ((HT.sIx xs.length 0 lo=0/\HT.sIx xs.length xs.length hi=xs.length)->Q x H)/\(¬(HT.sIx xs.length 0 lo=0/\HT.sIx xs.length xs.length hi=xs.length)->∀p,H p=none->Q (.ref p) (ah H p (.tup (jK xs lo hi))))
theorem Kq:sd X (Kp X.K):=by
 intro aac s σ H x v vl vu lo hi sl Q I rx hs pl pu h;obtain⟨a,xs,rfl,hx,q1,q2⟩:=h;by_cases hw:HT.sIx xs.length 0 lo=0/\HT.sIx xs.length xs.length hi=xs.length
 ·cases rx;obtain⟨its,r,ht,hz⟩:=I.tuple hx;have hlen:its.toArray.size=xs.length:=by rw [Rc];exact r.length.symm
  refine⟨"tuple",_,TR.lookup,ht.typeIs,?_⟩;exact Ko ht hs pl pu (by rw [hlen];exact hw) ⟨.ref a,H,I,rfl,q1 hw⟩
 ·exact IF aac s σ H _ v vl vu lo hi sl Q I rx hs pl pu ⟨a,xs,rfl,hx,hw,q2 hw⟩
theorem Kr{xs:List Yw}{l u:Option Int}(h:HT.sIx xs.length 0 l=0/\HT.sIx xs.length xs.length u=xs.length):cW xs l u=xs:=by
 unfold cW;rw [h.1,h.2];simp
def kB(t:DT)(tl th:DO):DT:=λδ Q=>t δ λd=>tl δ λl=>th δ λu=>∃xs,d= .tuple xs/\Q (.tuple (cW xs l u))
theorem oh{e:YF}{lo hi:Option YF}{t:DT}{tl th:DO}{pos p2:Pos}(h:DF X H0 O0 e t)(hl:PO X lo (j9 X.K H0 O0 tl))(hu:PO X hi (j9 X.K H0 O0 th)):DE X H0 O0 (.Subscript e (.Slice lo hi none p2) pos) (kB t tl th):=
 (vc Kq h hl hu).imp λσ H Q ⟨O,δ,Qd,w,q,k⟩=>⟨O,δ,_,w,q,λd v H1 q1 s1 r1=>⟨O,δ,_,w.mono s1,q1,λl H2 q2 s2=>⟨O,δ,_,w.mono (s1.trans s2),q2,λu H3 uu66 s3=>by
  obtain⟨xs,e,q3⟩:=uu66;subst e;have r3:=r1.mono (s2.trans s3);have r4:=r3;obtain⟨a,vs,rfl,h1,d1⟩:=r4.tup;refine⟨a,vs,rfl,h1,λhw=>?_,λ_ p hp=>k _ _ _ q3 (s1.trans (s2.trans (s3.trans (au.new hp)))) (.tup (.inl bq) (sF w (s1.trans (s2.trans s3)) hp) ((d1.cut l u).mono (au.new hp)))⟩;rw [d1.length] at hw;rw [Kr hw] at q3;cases r3 with
  | dt r3=>exact k _ _ _ q3 (s1.trans (s2.trans s3)) r3⟩⟩⟩
def dn(a b:Str):Bool:=decide (a.cps.toList<=b.cps.toList)
def fi(l:List Str):List Str:=l.mergeSort dn
theorem Cm(a b c:Str)(h:dn a b=true)(h':dn b c=true):dn a c=true:=
 decide_eq_true (List.le_trans (of_decide_eq_true h) (of_decide_eq_true h'))
theorem Ks(a b:Str):(dn a b || dn b a)=true:=by
 rcases List.le_total a.cps.toList b.cps.toList with h | h
 ·unfold dn;rw [decide_eq_true h];rfl
 ·unfold dn;rw [decide_eq_true h,Bool.or_true]
theorem Cn{a b:Str}(h:a.cps.toList=b.cps.toList):a=b:=by
 cases a;cases b;congr 1;exact Array.ext' h
theorem vM{a b:Str}(h:dn a b=true)(h':dn b a=true):a=b:=Cn (XC (of_decide_eq_true h) (of_decide_eq_true h'))
theorem kC(l:List Str):(fi l).Perm l:=List.mergeSort_perm l dn
theorem Co(l:List Str):(fi l).Pairwise λa b=>dn a b=true:=List.pairwise_mergeSort Cm Ks l
theorem Cp{l m:List Str}(h:m.Perm l)(p:m.Pairwise λa b=>dn a b=true):m=fi l:=
 List.Perm.eq_of_pairwise (λa b _ _ x y=>vM x y) p (Co l) (h.trans (kC l).symm)
theorem Cq:∀(p:Str)(l:List Str),risingS p l=true->(p::l).Pairwise λa b=>dn a b=true
 | p,[],_=>by simp
 | p,x::r,h=>by
  rw [risingS,R5,Sw,ltCps_eq,decide_eq_false_iff_not] at h;have h1:dn p x=true:=decide_eq_true (Xy.mp h.1);have h2:=Cq x r h.2;rw [Sy];refine⟨λy hy=>?_,h2⟩;rcases Q4.mp hy with z | z
  ·rw [z];exact h1
  ·exact Cm p x y h1 ((Sy.mp h2).1 y z)
theorem Cr:∀(l:List Str),sortedS l=true->l.Pairwise λa b=>dn a b=true
 | [],_=>.nil
 | x::r,h=>Cq x r h
theorem Cs:∀{ys:List Str}{us:List Yx},aI (ys.map V.str) us->StrsAre us ys:=by
 intro ys
 induction ys with
 | nil=>intro us rv;cases rv;exact .nil
 | cons y ys ih=>
  intro us rv;rw [Q0] at rv;cases rv with
  | cons r1 r2=>obtain⟨t,rfl⟩:=r1;exact .cons y t (ih r2)
theorem vN:∀{ys:List Str}{us:List Yx},StrsAre us ys->aI (ys.map V.str) us
 | _,_,.nil=>.nil
 | _,_,.cons y t r=>.cons ⟨t,rfl⟩ (vN r)
theorem Kt:d8 X (.builtin "sorted") (λxs H Q=>∃p ss,xs=[.ref p]/\bo X.K H p (ss.map V.str)/\ss.length < 64/\∀l,H l=none->Q (.ref l) (ah H l (.lst ((fi ss).map V.str)))):=by
 intro aac s σ H xs us Q I r h;obtain⟨p,ss,rfl,hq,h64,q⟩:=h;obtain⟨u,rfl,rx⟩:=ft r;cases rx;obtain⟨its,rv,pl,hz⟩:=I.list hq;have hlen:=rv.length;rw [QW] at hlen;refine sorted_strs pl.isList (Cs rv) Yr λout ss' a1 a2 a3=>?_;obtain⟨e,he⟩:=sortedAll_at s.heap its out;have es:ss'=fi ss:=Cp a2 (Cr _ a3);subst es;have hl2:(fi ss).length=ss.length:=a2.length_eq;refine⟨.ref _,_,I.laid (t':=s.toks) (o:= .lst ((fi ss).map V.str)) (λb ob q=>sortedAll_old q) (Sr _) ?_,rfl,q _ (I.hok.fresh (Sr _))⟩;refine⟨by rw [QW,hl2];exact Rx (TV h64) Yq,out.toList,e,vN a1,?_⟩;rw [he]
theorem ai.strs{K:QV}{H:Hp}{O:Ex}:∀{ss:List Str}{vs:List V},ai K H O vs (ss.map QZ)->vs=ss.map V.str
 | [],_,r=>by rw [RW] at r;cases r;rfl
 | b::bs,_,r=>by
  rw [Q0] at r;cases r with
  | cons h r=>cases h;rw [Q0,ai.strs r]
theorem ai.ofStrs{K:QV}{H:Hp}{O:Ex}:∀(ss:List Str),ai K H O (ss.map V.str) (ss.map QZ)
 | []=>.nil
 | s::r=>.cons (.str s) (ai.ofStrs r)
def kD(t:DA):DA:=λδ Q=>t δ λds=>∃ss:List Str,ds=[.list (ss.map .str)]/\ss.length < 64/\Q ((fi ss).map .str)
theorem Ku{a:YF}{t:DA}{np p:Pos}(hg:Gl X "sorted")(hm:X.mg "sorted"=none)(hv:YX "sorted"=some (.builtin "sorted"))(ha:PA X [a] (hZ X.K H0 O0 t))(he:YD [a] X.env=(false,eval a X.env)::YD [] X.env:=by rfl)(hpl:(YR p (YD [] X.env)).any (·.1)=false:=by rfl):FE X H0 O0 (.Call (.Name "sorted" np) [a] [] p) (kD t):=
 (bU Kt hg hm hv ha (he:=he) (hpl:=hpl)).imp λσ H Q uu67=>by obtain⟨O,δ,Qd,w,q,k⟩:=uu67;exact⟨O,δ,_,w,q,λds vs H1 uu68 s1 r1=>by
  obtain⟨ss,e,h64,q1⟩:=uu68;subst e;cases r1 with
  | cons h r=>
   cases r;obtain⟨a,us,rfl,h1,d1⟩:=h.lst;cases d1.strs;exact⟨a,ss,rfl,h1,h64,λl hl=>k _ _ _ _ q1 s1 hl (ai.ofStrs _)⟩⟩
end
end L2
namespace PySem.SeqAt
open AutoSeq1 (wpAny_loadPart')
open MeetsSeq
theorem Ct(l:Yz)(es:Array Z4)(n:Nat)(dd:Option Yz)(sl:Array (Option Yx))(b:Str)(u:Tok):
 Meets (Builtin.«dict.__eq__» ⟨[.ref l,.str b u],[]⟩) (λ_ R s=>s.heap.get? l=some {cls:= .type "dict",dict:=dd,data:= .dict es n,slots:=sl}/\R (.ok (.ret .notImplemented)) s):=
 .of_wp λprog w A R s h=>by obtain⟨hp,g,d,tk,os⟩:=s;obtain⟨hl,h⟩:=h;have f1:=F.sub_str_dict;wp_walk using Zb hl;exact⟨_,rfl,h⟩
theorem Cu(b:Str)(u:Tok)(l:Yz)(c:Yx)(es:Array Z4)(n:Nat)(dd:Option Yz)(sl:Array (Option Yx)):
 Meets (Builtin.«str.__eq__» ⟨[.str b u,.ref l],[]⟩) (λ_ R s=>s.heap.get? l=some {cls:=c,dict:=dd,data:= .dict es n,slots:=sl}/\R (.ok (.ret .notImplemented)) s):=
 .of_wp λprog w A R s h=>by obtain⟨hp,g,d,tk,os⟩:=s;obtain⟨hl,h⟩:=h;wp_walk using Zb hl,wpAny_load hl;exact⟨_,rfl,h⟩
section
variable {A:YN} {s:YA}
theorem RcAt.dict_str{l:Yz}{es:Array Z4}{n:Nat}{o:Obj}(b:Str)(u:Tok)(ho:s.heap.get? l=some o)(hc:o.cls= .type "dict")(hd:o.data= .dict es n)(hu:A.units < Y0):RcAt A s (.ref l) (.str b u) false:=λprog w E Q h=>by
 obtain⟨cls,dd,data,sl⟩:=o;simp only at hc hd;subst hc hd;exact rc_eq_decline_or (k:=false) ⟨_,ho,rfl⟩ (ZW s b u) Yq F.sub_str_dict F.slot_dict_eq F.slot_str_eq_refl
  (λ_ hq=>Zm F.slot_dict_eq ⟨_,ho,rfl⟩ F.entry_dict_eq (F.args_dict_eq_2 _ _) (Ct l es n dd sl b u) ⟨ho,hq⟩)
  (λ_ hq=>Zm F.slot_str_eq_refl (ZW s b u) F.entry_str_eq (F.args_str_eq_2 _ _) (Cu b u l (.type "dict") es n dd sl) ⟨ho,hq⟩)
  (λ_ hq=>ZL (rfl:isSame (.ref l) (.str b u)=pure false) hq) (.inr hu) h
theorem RcAt.str_dict{l:Yz}{es:Array Z4}{n:Nat}{o:Obj}(b:Str)(u:Tok)(ho:s.heap.get? l=some o)(hc:o.cls= .type "dict")(hd:o.data= .dict es n)(hu:A.units < Y0):RcAt A s (.str b u) (.ref l) false:=λprog w E Q h=>by
 obtain⟨cls,dd,data,sl⟩:=o;simp only at hc hd;subst hc hd;exact rc_eq_decline_or (k:=false) (ZW s b u) ⟨_,ho,rfl⟩ Yq F.sub_dict_str F.slot_str_eq F.slot_dict_eq_refl
  (λ_ hq=>Zm F.slot_str_eq (ZW s b u) F.entry_str_eq (F.args_str_eq_2 _ _) (Cu b u l (.type "dict") es n dd sl) ⟨ho,hq⟩)
  (λ_ hq=>Zm F.slot_dict_eq_refl ⟨_,ho,rfl⟩ F.entry_dict_eq (F.args_dict_eq_2 _ _) (Ct l es n dd sl b u) ⟨ho,hq⟩)
  (λ_ hq=>ZL (rfl:isSame (.str b u) (.ref l)=pure false) hq) (.inr hu) h
theorem EqAt.str_dict{l:Yz}{es:Array Z4}{n:Nat}{o:Obj}(b:Str)(u:Tok)(ho:s.heap.get? l=some o)(hc:o.cls= .type "dict")(hd:o.data= .dict es n)(hu:A.units < Y0):EqAt A s (.str b u) (.ref l) false:=λprog w E Q h=>by
 unfold eqBool;refine Y2 ?_;refine ZY (λhab=>absurd (eq_of_beq hab) nofun) (λ_=>?_);exact Yy (RcAt.str_dict b u ho hc hd hu prog w E _ (Y7 h))
end
end PySem.SeqAt
namespace L2
open PySem PySem.Spec PyProof.Rows PySem.W
section
variable {X:Cx} {aac:List (Yz×Obj)} {σ:St} {H:Hp} {s:YA}
def dA:Yw->Bool
 | .dict [(.none,_)]=>false
 | _=>true
theorem Kv(I:ag X aac σ H s){O:Ex}{v:V}{d:Yw}{u:Yx}(h:Dt X.K H O v d)(ht:dA d=true)(r:aJ v u)(y:Str)(t:Tok)(hu:X.A.units < Y0):SeqAt.RcAt X.A s u (.str y t) (Rr d (.str y)):=by
 cases h with
 | non=>cases (show u=SS from r);simpa [Rr] using SeqAt.RcAt.none_str y t
 | bl b=>cases (show u=UL b from r);simpa [Rr] using SeqAt.RcAt.bool_str b y t
 | int i=>obtain⟨k,e⟩:=(show ∃t,u=TL i t from r);cases e;simpa [Rr] using SeqAt.RcAt.int_str i k y t
 | str x=>obtain⟨k,e⟩:=(show ∃t,u=UK x t from r);cases e;simpa [Rr] using SeqAt.RcAt.str_str x k y t
 | @tup a xs ds h n rr=>
  cases (show u=RM a from r);obtain⟨its,rv,p,_⟩:=I.tuple (.inl h);simpa [Rr] using WY y t (show s.heap.IsTuple a its.toArray from p) hu
 | @tupK a xs ds h rr=>
  cases (show u=RM a from r);obtain⟨its,rv,p,_⟩:=I.tuple h.of0;simpa [Rr] using WY y t (show s.heap.IsTuple a its.toArray from p) hu
 | @lst a xs ds h n rr=>
  cases (show u=RM a from r);obtain⟨its,rv,p,_⟩:=I.list (.inl h);simpa [Rr] using SeqAt.RcAt.list_str y t p.isList hu
 | pack h n=>exact absurd ht (by simp [dA])
 | purse h n=>exact absurd ht (by simp [dA])
 | scr h r=>exact absurd ht (by simp [dA])
 | obj h e n r=>exact absurd ht (by simp [dA])
 | @dct0 a h n=>
  cases (show u=RM a from r);obtain⟨_,_,_,_,o,es,ep,e,c,dd,_⟩:=(show cj X.prog X.w H s.heap a (.dK []) from I.hok a _ h);simpa [Rr] using SeqAt.RcAt.dict_str y t e c.1 dd hu
 | @dic a ob kv ks kp ds h e1 e2 n rr=>
  cases (show u=RM a from r);obtain⟨_,_,_,_,o,es,ep,e,c,dd,_⟩:=(show cj X.prog X.w H s.heap a (.dK kv) from(I.hok a _ h).2);simpa [Rr] using SeqAt.RcAt.dict_str y t e c.1 dd hu
theorem Kw(I:ag X aac σ H s){A:YN}{O:Ex}{v:V}{d:Yw}{u:Yx}(h:Dt X.K H O v d)(ht:dA d=true)(r:aJ v u)(y:Str)(t:Tok)(hu:A.units < Y0):Yk A s (.str y t) u (Rr (.str y) d):=by
 cases h with
 | non=>cases (show u=SS from r);simpa [Rr] using Yk.str_none y t
 | bl b=>cases (show u=UL b from r);simpa [Rr] using Yk.str_bool y t b
 | int i=>obtain⟨k,e⟩:=(show ∃t,u=TL i t from r);cases e;simpa [Rr] using W8 y t i k
 | str x=>obtain⟨k,e⟩:=(show ∃t,u=UK x t from r);cases e;simpa [Rr] using Yk.str_str y t x k
 | @tup a xs ds h n rr=>
  cases (show u=RM a from r);obtain⟨its,rv,p,_⟩:=I.tuple (.inl h);simpa [Rr] using WZ y t (show s.heap.IsTuple a its.toArray from p) hu
 | @tupK a xs ds h rr=>
  cases (show u=RM a from r);obtain⟨its,rv,p,_⟩:=I.tuple h.of0;simpa [Rr] using WZ y t (show s.heap.IsTuple a its.toArray from p) hu
 | @lst a xs ds h n rr=>
  cases (show u=RM a from r);obtain⟨its,rv,p,_⟩:=I.list (.inl h);simpa [Rr] using Yk.str_list y t p.isList hu
 | pack h n=>exact absurd ht (by simp [dA])
 | purse h n=>exact absurd ht (by simp [dA])
 | scr h r=>exact absurd ht (by simp [dA])
 | obj h e n r=>exact absurd ht (by simp [dA])
 | @dct0 a h n=>
  cases (show u=RM a from r);obtain⟨_,_,_,_,o,es,ep,e,c,dd,_⟩:=(show cj X.prog X.w H s.heap a (.dK []) from I.hok a _ h);simpa [Rr] using Yk.str_dict y t e c.1 dd hu
 | @dic a ob kv ks kp ds h e1 e2 n rr=>
  cases (show u=RM a from r);obtain⟨_,_,_,_,o,es,ep,e,c,dd,_⟩:=(show cj X.prog X.w H s.heap a (.dK kv) from(I.hok a _ h).2);simpa [Rr] using Yk.str_dict y t e c.1 dd hu
end
section
variable {X:Cx} {H0:Hp} {O0:Ex}
def Cv(K:QV):R2:=λx y H Q=>∃O dx z,Dt K H O x dx/\dA dx=true/\y= .str z/\Q (.bl (Rr dx (.str z))) H
theorem cz{k:Nat}(hr:bp k X.A):bG X (YU .Eq) (Cv X.K):=by
 intro aac s σ H x y v u Q I rx ry h;obtain⟨O,dx,z,hx,ht,rfl,q⟩:=h;obtain⟨t,rfl⟩:=ry;have hc:YU .Eq v (.str z t)=richCompare .Eq v (.str z t):=rfl;rw [hc];exact Kv I hx ht rx z t hr.units0 X.prog X.w X.xe _ (bD I q rfl)
def gN:Yw->Yw->(Yw->Prop)->Prop:=λx y Q=>∃z,y= .str z/\dA x=true/\Q (.bool (Rr x (.str z)))
theorem cA{K:QV}:cw K (Cv K) gN:=λH O x y dx dy Qd R _ hx hy uu69 k=>by
 obtain⟨z,e,ht,q⟩:=uu69;subst e;cases hy.str;exact⟨_,dx,z,hx.all,ht,rfl,k _ _ H q (au.refl _) (.bl _)⟩
theorem Kx(dx:Yw){its:List Yx}{zs:List Str}(hS:StrsAre its zs):its.any (λy=>Rr (.str (strOf y)) dx)=zs.any λz=>Rr (.str z) dx:=by
 induction hS with
 | nil=>rfl
 | cons y t r ih=>rw [Se,Se,ih];rfl
def Cw(K:QV):R2:=λx y H Q=>∃(O:Ex)(dx:Yw)(zs:List Str)(a:Yz),Dt K H O x dx/\dA dx=true/\y= .ref a/\aZ K H a (zs.map V.str)/\Q (.bl (zs.any λz=>Rr (.str z) dx)) H
theorem oj{k:Nat}(hr:bp k X.A):bG X (YU .In) (Cw X.K):=by
 intro aac s σ H x y v u Q I rx ry h;obtain⟨O,dx,zs,a,hx,ht,rfl,ha,q⟩:=h;cases ry;obtain⟨its,rv,p,_⟩:=I.tuple ha;have hS:=Cs rv;have hl:=Kx dx hS;refine SeqAt.in_tupleAt (λy=>Rr (.str (strOf y)) dx) (show s.heap.IsTuple a its.toArray from p) (λy hy=>?_) (by rw [List.any_toArray,hl];exact bD I q rfl);obtain⟨z,t,rfl⟩:=hS.all y (by simpa using hy);exact Kw I hx ht rx z t (by show X.A.units+1 < Y0;have:=hr.un;omega)
def kE:Yw->Yw->(Yw->Prop)->Prop:=λx y Q=>∃zs:List Str,y= .tuple (zs.map .str)/\dA x=true/\Q (.bool (zs.any λz=>Rr (.str z) x))
theorem om{K:QV}:cw K (Cw K) kE:=λH O x y dx dy Qd R _ hx hy uu70 k=>by
 obtain⟨zs,e,ht,q⟩:=uu70;subst e;obtain⟨a,vs,rfl,hs,r⟩:=hy.tup;cases r.strs;exact⟨_,dx,zs,a,hx.all,ht,rfl,hs,k _ _ H q (au.refl _) (.bl _)⟩
end
theorem Ky{g:DG}{te:DT}{δ0:Dl}{xs:List Yw}{Q:List Yw->Prop}(f:Yw->Yw)
 (h:∀x∈xs,∀R:Yw->Prop,R (f x)->g x δ0 λδ2=>te δ2 R)(q:Q (xs.map f)):jm g h7 te δ0 xs Q:=by
 refine⟨λi acc=>acc=(xs.take i).map f,rfl,?_,?_⟩
 ·rintro i x acc hx rfl;have:=h x (RA hx) (λy=>(xs.take i).map f++[y]=(xs.take (i+1)).map f) (by rw [RT,hx];simp);simpa [h7] using this
 ·rintro acc rfl;rw [Rz (QY _)];exact q
theorem Kz{g:DG}{tc:DB}{te:DT}{δ0:Dl}{xs:List Yw}{Q:List Yw->Prop}(f:Yw->Option Yw)
 (h:∀x∈xs,∀(R:Yw->Prop) (S:Prop),(match f x with | some y=>R y | none=>S)->g x δ0 λδ2=>tc δ2 λok=>if ok=true then te δ2 R else S)(q:Q (xs.filterMap f)):jm g tc te δ0 xs Q:=by
 refine⟨λi acc=>acc=(xs.take i).filterMap f,rfl,?_,?_⟩
 ·rintro i x acc hx rfl;refine h x (RA hx) (λy=>(xs.take i).filterMap f++[y]=(xs.take (i+1)).filterMap f) ((xs.take i).filterMap f=(xs.take (i+1)).filterMap f) ?_;rw [RT,hx];cases e:f x with
  | none=>simp [e]
  | some y=>simp [e]
 ·rintro acc rfl;rw [Rz (QY _)];exact q
theorem l6{a b:Str}{P:List Str->Prop}:(∃zs,[QZ a,QZ b]=RZ QZ zs/\P zs)↔P [a,b]:=by
 refine⟨λ⟨zs,e,h⟩=>?_,λh=>⟨_,rfl,h⟩⟩
 match zs,e with
 | [x,y],e=>simp at e;rw [e.1,e.2];exact h
theorem l7{a b c:Str}{P:List Str->Prop}:(∃zs,[QZ a,QZ b,QZ c]=RZ QZ zs/\P zs)↔P [a,b,c]:=by
 refine⟨λ⟨zs,e,h⟩=>?_,λh=>⟨_,rfl,h⟩⟩
 match zs,e with
 | [x,y,z],e=>simp at e;rw [e.1,e.2.1,e.2.2];exact h
theorem l8{x:Str}:dA (.str x)=true:=rfl
theorem l9{x:Int}:dA (.int x)=true:=rfl
theorem md{x:Bool}:dA (.bool x)=true:=rfl
theorem me{x:List Yw}:dA (.tuple x)=true:=rfl
theorem mf{x:List Yw}:dA (.list x)=true:=rfl
def units:List Str:=["days","months","years"]
theorem fF{n:Nat}:∀d∈([]:List Yw),bQ n d:=λd hd=>by simp at hd
theorem bR{n:Nat}{d:Yw}{r:List Yw}(h:bQ n d)(hr:∀e∈r,bQ n e):∀e∈d::r,bQ n e:=λe he=>by
 rcases Q4.mp he with z | z
 ·rw [z];exact h
 ·exact hr e z
theorem fG{n:Nat}{x:Str}(h:Q2 x=true)(hn:1<=n:=by decide):bQ n (.str x):=(iL h).mono hn
theorem Cy{n:Nat}{x:Int}(hn:1<=n:=by decide):bQ n (.int x):=qI.mono hn
theorem sS{n:Nat}{ms:List Str}(h:∀m∈ms,Q2 m=true)(hn:1<=n:=by decide):∀d∈ms.map QZ,bQ n d:=λd hd=>by
 obtain⟨m,hm,rfl⟩:=Rf.mp hd;exact(iL (h m hm)).mono hn
theorem mh{a b c:Yw}{l:List Yw}:cW (a::b::c::l) (some 3) none=l:=by
 rw [B4 Yq (by simp only [Q8];omega)];rfl
theorem mi{a b c:Yw}{l:List Yw}:cW (a::b::c::l) (some 1) (some 3)=[b,c]:=by
 unfold cW;rw [sN Yq (by simp only [Q8];omega),sN Yq (by simp only [Q8];omega)];rfl
end L2
namespace PySem
open Builtin
open AutoSeq1 (wpAny_loadPart')
end PySem
namespace L2
open PySem PySem.Spec PyProof.Rows PySem.W
section
variable {X:Cx} {H0:Hp} {O0:Ex}
def kF(t:DT):DT:=λδ Q=>t δ λd=>∃i,d= .int i/\Q (.int (-i))
theorem KA{e:YF}{t:DT}{pos:Pos}(h:DE X H0 O0 e t):DE X H0 O0 (.UnaryOp .USub e pos) (kF t):=
 (HI HK h).imp λσ H Q uu73=>by obtain⟨O,δ,Qd,w,q,k⟩:=uu73;exact⟨O,δ,_,w,q,λd v H1 uu74 s1 r1=>by obtain⟨i,e,q1⟩:=uu74;subst e;cases r1;exact⟨i,rfl,k _ _ H1 q1 s1 (.int _)⟩⟩
end
section
variable {x:Option YF} {n:Nat} {env:Env}
theorem KC{a b}:YS (.List a b) x n env=pure false:=rfl
theorem iM{a b c d}:YS (.BinOp a b c d) x n env=pure false:=rfl
theorem qK{a b c d}:YS (.Call a b c d) x n env=pure false:=rfl
theorem oo{a b c}:YS (.Subscript a b c) x n env=pure false:=rfl
theorem KD{a b c}:YS (.BoolOp a b c) x n env=pure false:=rfl
theorem KH{a b c d}:YS (.IfExp a b c d) x n env=pure false:=rfl
end
theorem mj:(QU "paper"==QU "happens")=false:=Yp
theorem mq:(QU "paper"==QU "rule")=false:=Yp
theorem mr:(QU "paper"==QU "leave")=false:=Yp
section
variable {X:Cx} {H0:Hp} {O0:Ex}
def kG:DS:=λ_ _=>False
theorem KI{st:YL}:PS X st (bf X.K H0 O0 kG):=Hz.imp λD σ H uu75=>by obtain⟨O,δ,E,w,q,_,_,_,_⟩:=uu75;exact q.elim
end
section
variable {α:Type} {P:α->Prop}
theorem kH{a:Yw}{r:Dl}{P:Yw->Prop}:bZ 0 (some (Sl.v a)::r) P=P a:=rfl
theorem mw{x:Option Sl}{r:Dl}{i:Nat}{P:Yw->Prop}:bZ (i+1) (x::r) P=bZ i r P:=rfl
theorem QS{a:Yw}{l:Dl}{i:Nat}{P:Yw->Prop}:bZ i (l.set i (some (Sl.v a))) P=(i < l.length/\P a):=by
 apply propext;show vC P _↔_;rw [BW,WC];constructor
 ·rintro⟨d,e,p⟩;by_cases h:i < l.length
  ·rw [RF h] at e;cases e;exact⟨h,p⟩
  ·rw [SF Yr] at e;cases e
 ·rintro⟨h,p⟩;exact⟨a,by rw [RF h];rfl,p⟩
theorem mx{a:List Yw}{r:Dl}{P:List Yw->Prop}:(∃d,(some (Sl.o a)::r)[0]?=some (some (Sl.o d))/\P d)=P a:=Yv
theorem my{x:Option Sl}{r:Dl}{i:Nat}{P:List Yw->Prop}:(∃d,(x::r)[i+1]?=some (some (Sl.o d))/\P d)=(∃d,r[i]?=some (some (Sl.o d))/\P d):=Yv
theorem mz{a:List Yw}{l:Dl}{i:Nat}{P:List Yw->Prop}:(∃d,(l.set i (some (Sl.o a)))[i]?=some (some (Sl.o d))/\P d)=(i < l.length/\P a):=by
 apply propext;rw [WC];constructor
 ·rintro⟨d,e,p⟩;by_cases h:i < l.length
  ·rw [RF h] at e;cases e;exact⟨h,p⟩
  ·rw [SF Yr] at e;cases e
 ·rintro⟨h,p⟩;exact⟨a,by rw [RF h];rfl,p⟩
theorem mB{x:Option Sl}{l:Dl}{i j:Nat}{P:List Yw->Prop}(h:i≠j):(∃d,(l.set i x)[j]?=some (some (Sl.o d))/\P d)=(∃d,l[j]?=some (some (Sl.o d))/\P d):=by rw [Rg h]
theorem mC{a:Bool}{P:Bool->Prop}:(∃b,UT a= .bool b/\P b)=P a:=Yv
theorem mD{a:Int}{P:Int->Prop}:(∃b,Rv a= .int b/\P b)=P a:=Yv
theorem mE{a:Str}{P:Str->Prop}:(∃b,QZ a= .str b/\P b)=P a:=Yv
theorem mF{a:List Yw}{P:List Yw->Prop}:(∃b,RB a= .tuple b/\P b)=P a:=Yv
theorem mG{a:List Yw}{P:List Yw->Prop}:(∃b,SI a= .list b/\P b)=P a:=Yv
theorem mH{a b:Int}{P:Int->Int->Prop}:(∃i j,Rv a= .int i/\Rv b= .int j/\P i j)=P a b:=Yv
theorem mI{a b:Str}{P:Str->Str->Prop}:(∃i j,QZ a= .str i/\QZ b= .str j/\P i j)=P a b:=Yv
theorem mJ{a b:List Yw}{P:List Yw->List Yw->Prop}:(∃i j,RB a= .tuple i/\RB b= .tuple j/\P i j)=P a b:=Yv
theorem mK{a b:List Yw}{P:List Yw->List Yw->Prop}:(∃i j,SI a= .list i/\SI b= .list j/\P i j)=P a b:=Yv
theorem mL{a:Yw}{r:List Yw}{P:Yw->List Yw->Prop}:(∃x y,a::r=x::y/\P x y)=P a r:=propext ⟨λuu76=>by obtain⟨_,_,e,p⟩:=uu76;cases e;exact p,λp=>⟨_,_,rfl,p⟩⟩
theorem mM{a:Yw}{r:List Yw}{P:Yw->Prop}:(∃ds i d,RB (a::r)= .tuple ds/\Rv 0= .int i/\atI ds i=some d/\P d)=P a:=by simp [dH]
theorem mN{a b:Yw}{r:List Yw}{P:Yw->Prop}:(∃ds i d,RB (a::b::r)= .tuple ds/\Rv 1= .int i/\atI ds i=some d/\P d)=P b:=by simp [eM]
theorem mO{a b c:Yw}{r:List Yw}{P:Yw->Prop}:(∃ds i d,RB (a::b::c::r)= .tuple ds/\Rv 2= .int i/\atI ds i=some d/\P d)=P c:=by simp [ib]
theorem mP{a b c e:Yw}{r:List Yw}{P:Yw->Prop}:(∃ds i d,RB (a::b::c::e::r)= .tuple ds/\Rv 3= .int i/\atI ds i=some d/\P d)=P e:=by simp [fE]
theorem mQ{a b:Yw}{r:List Yw}{P:Yw->Prop}:(∃ds i d,SI (a::b::r)= .list ds/\Rv 1= .int i/\atI ds i=some d/\P d)=P b:=by simp [eM]
theorem mR{a b c:Yw}{r:List Yw}{P:Yw->Prop}:(∃ds i d,SI (a::b::c::r)= .list ds/\Rv 2= .int i/\atI ds i=some d/\P d)=P c:=by simp [ib]
theorem mS{xs:List Yw}{k:Int}{P:Yw->Prop}:(∃ds i d,RB xs= .tuple ds/\Rv k= .int i/\atI ds i=some d/\P d)=(∃d,atI xs k=some d/\P d):=Yv
theorem mT{xs:List Yw}{k:Int}{P:Yw->Prop}:(∃ds i d,SI xs= .list ds/\Rv k= .int i/\atI ds i=some d/\P d)=(∃d,atI xs k=some d/\P d):=Yv
end
theorem mU{w v:Str}{r:List Yw}{l:Dl}{Q:Bool->Prop}:c7 (cC gN (cC gM (bZ 0) (dC (.int 0))) (dC (.str v))) (some (.v (.tuple (.str w::r)))::l) Q=Q (w==v):=by
 simp [c7,cC,gN,gM,kH,dC,dH,dA,dQ]
theorem mV{v:Str}{x:Option Sl}{l:Dl}{k:Nat}{Q:Bool->Prop}:c7 (cC gN (cC gM (bZ 0) (dC (.int 0))) (dC (.str v))) (l.set (k+1) x) Q=c7 (cC gN (cC gM (bZ 0) (dC (.int 0))) (dC (.str v))) l Q:=by
 simp only [c7,cC,bZ,dC,Rg (show k+1≠0 by omega)]
def qL:aq->Yw
 | .inl i=>.int i
 | .inr x=>.str x
def fH(kd:List (aq×Yw))(k:aq):Option Yw:=(kd.find? λp=>decide (p.1=k)).map (·.2)
def fW(kd:List (aq×Yw))(k:aq)(d:Yw):List (aq×Yw):=if (kd.any λp=>decide (p.1=k))=true then kd.map (λp=>if p.1=k then(p.1,d) else p) else kd++[(k,d)]
section
variable {K:QV} {H:Hp} {O:Ex}
theorem Dt.key{v:V}{k:aq}(h:Dt K H O v (qL k)):v=kV k:=by
 cases k with
 | inl i=>cases h;rfl
 | inr x=>cases h;rfl
theorem bC.val{kv:List (aq×V)}{kd:List (aq×Yw)}(h:bC K H O kv kd)(k:aq):(dJ kv k=none/\fH kd k=none)\/∃v d,dJ kv k=some v/\fH kd k=some d/\Dt K H O v d:=by
 induction h with
 | nil=>exact .inl ⟨rfl,rfl⟩
 | @cons j v d r s a _ ih=>
  by_cases e:j=k
  ·exact .inr ⟨v,d,qG e,by simp [fH,Sa,e],a⟩
  ·rw [pk e,show fH ((j,d)::s) k=fH s k by simp [fH,Sa,e]];exact ih
theorem bC.any{kv:List (aq×V)}{kd:List (aq×Yw)}(h:bC K H O kv kd)(k:aq):(kv.any λp=>decide (p.1=k))=(kd.any λp=>decide (p.1=k)):=by
 induction h with
 | nil=>rfl
 | cons a _ ih=>simp only [Se,ih]
theorem bC.length{kv:List (aq×V)}{kd:List (aq×Yw)}(h:bC K H O kv kd):kv.length=kd.length:=by
 induction h with
 | nil=>rfl
 | cons a _ ih=>simp only [Q8,ih]
theorem bC.append{kv kv':List (aq×V)}{kd kd':List (aq×Yw)}(h:bC K H O kv kd)(h':bC K H O kv' kd'):bC K H O (kv++kv') (kd++kd'):=by
 induction h with
 | nil=>exact h'
 | cons a _ ih=>exact .cons a ih
theorem bC.repl{kv:List (aq×V)}{kd:List (aq×Yw)}(h:bC K H O kv kd)(k:aq){v:V}{d:Yw}(hv:Dt K H O v d):bC K H O (kv.map λp=>if p.1=k then(p.1,v) else p) (kd.map λp=>if p.1=k then(p.1,d) else p):=by
 induction h with
 | nil=>exact .nil
 | @cons j u e r s a _ ih=>
  simp only [Q0];by_cases z:j=k
  ·rw [Yt z,Yt z];exact .cons hv ih
  ·rw [Ys z,Ys z];exact .cons a ih
theorem bC.put{kv:List (aq×V)}{kd:List (aq×Yw)}(h:bC K H O kv kd)(k:aq){v:V}{d:Yw}(hv:Dt K H O v d):bC K H O (putK kv k v) (fW kd k d):=by
 unfold putK fW;rw [h.any k];split
 ·exact h.repl k hv
 ·exact h.append (.cons hv .nil)
end
section
variable {X:Cx} {H0:Hp} {O0:Ex}
abbrev qM:=Dl->(List (aq×Yw)->Prop)->Prop
inductive Cz (K:QV) (H0:Hp) (O0:Ex) (t:qM) (σ:St) (H:Hp) (R:VK):Prop
 | mk (O:Ex) (δ:Dl) (Qd:List (aq×Yw)->Prop):Wd K H0 O0 H O σ δ->t δ Qd->(∀kd kv p H',Qd kd->au H H'->H' p=none->bC K H' O kv kd->R (.ref p) (ah H' p (.dK kv)))->Cz K H0 O0 t σ H R
abbrev KE(X:Cx)(H0:Hp)(O0:Ex)(e:YF)(t:qM):Prop:=PE X e (Cz X.K H0 O0 t)
def kI:qM:=λ_ Q=>Q []
theorem vO{pos:Pos}:KE X H0 O0 (.Dict [] [] pos) kI:=Kc.imp λσ H Q uu77=>by obtain⟨O,δ,Qd,w,q,k⟩:=uu77;exact λp hp=>k [] [] p H q (au.refl _) hp .nil
def kJ(i:Nat)(t:qM):DS:=λE δ=>t δ λkd=>E.nx (δ.set i (some (.k kd)))
theorem vP{i:Nat}{x:Str}{e:YF}{t:qM}{pos pos':Pos}(hN:X.N.Nodup)(hi:X.N[i]?=some x)(hx:g8 X.env.scope x)(he:KE X H0 O0 e t)(hs:YS e (some (.Name x pos')) pos.line X.env=pure false:=by rfl)(hf:X.fn x=true\/X.env.scope.names.lookup x=some .local:=by first | exact .inl rfl | exact .inr rfl | assumption):
 PS X (.Assign [.Name x pos'] e pos) (bf X.K H0 O0 (kJ i t)):=
 (d7 hN hi hx he hs hf).imp λD σ H ⟨O,δ,E,w,q,k1,k2,k3,k4⟩=>⟨O,δ,_,w,q,λds vs p H1 q1 s1 hp r1=>k1 _ _ _ _ q1 ((w.mono s1).setK hp r1)
  ⟨λb o e _=>(s1.trans (au.new hp)) b o e,λb e n z=>z.elim n λy=>by
   cases q:H b with
   | none=>exact e q
   | some o=>have:=s1 _ _ q;rw [y,hp] at this;cases this⟩⟩
def kK(i:Nat)(tk tv:DT):DS:=λE δ=>tv δ λd=>∃kd,δ[i]?=some (some (.k kd))/\tk δ λy=>∃k,y=qL k/\kd.length < YH/\E.nx (δ.set i (some (.k (fW kd k d))))
theorem vQ{i:Nat}{o e v:YF}{tk tv:DT}{pos pos':Pos}(hu:X.A.units+64 < Y0)(ho:PE X o (cK i))(he:DE X H0 O0 e tk)(hv:DE X H0 O0 v tv)(hs:YS v (some (.Subscript o e pos')) pos.line X.env=pure false:=by rfl):
 PS X (.Assign [.Subscript o e pos'] v pos) (bf X.K H0 O0 (kK i tk tv)):=
 (vG Yr ho he hv hs).imp λD σ H ⟨O,δ,E,w,q,k1,k2,k3,k4⟩=>⟨O,δ,_,w,q,λd u H1 uu80 s1 r1=>by
  obtain⟨kd,e,qk⟩:=uu80;have w1:=w.mono s1;obtain⟨l,kv,h,a,b,c,r⟩:=w1.ownK e;refine⟨.ref l,h,O,δ,_,w1,qk,λy uy H2 ⟨k,ek,hl,q2⟩ s2 r2=>?_⟩;subst ek;obtain rfl:=r2.key;refine⟨l,_,rfl,oe.k (s2 _ _ c) (by rw [r.length];exact hl),k1 _ _ _ _ q2 ((w1.mono s2).putK e h ((r.mono s2).put k (r1.mono s2))) ⟨λb' o' z n=>?_,λ_ _ n=>n⟩⟩;rw [az (λy=>n (by rw [y];exact a))];exact(s1.trans s2) _ _ z⟩
def kL(i:Nat)(tk:DT):DT:=λδ Q=>∃kd,δ[i]?=some (some (.k kd))/\tk δ λy=>∃k d,y=qL k/\fH kd k=some d/\Q d
theorem bC.got{K:QV}{H:Hp}{O:Ex}{kv:List (aq×V)}{kd:List (aq×Yw)}(h:bC K H O kv kd){k:aq}{d:Yw}(e:fH kd k=some d):∃v,dJ kv k=some v/\Dt K H O v d:=by
 rcases h.val k with⟨_,z⟩ | ⟨v,d',a,b,c⟩
 ·rw [e] at z;cases z
 ·rw [e] at b;cases b;exact⟨v,a,c⟩
theorem bC.none{K:QV}{H:Hp}{O:Ex}{kv:List (aq×V)}{kd:List (aq×Yw)}(h:bC K H O kv kd){k:aq}:(dJ kv k).isSome=(fH kd k).isSome:=by
 rcases h.val k with⟨y,z⟩ | ⟨v,d',a,b,c⟩
 ·rw [y,z];rfl
 ·rw [a,b];rfl
theorem KJ{i:Nat}{o e:YF}{tk:DT}{pos:Pos}(hu:X.A.units+64 < Y0)(ho:PE X o (cK i))(he:DE X H0 O0 e tk)(hs:sP e):DE X H0 O0 (.Subscript o e pos) (kL i tk):=
 (Cb Yr ho he hs).imp λσ H Q uu82=>by
  obtain⟨O,δ,Qd,w,⟨kd,e,q⟩,k⟩:=uu82;obtain⟨l,kv,h,a,b,c,r⟩:=w.ownK e;refine⟨.ref l,h,O,δ,_,w,q,λy uy H2 ⟨ky,d,ek,ev,q2⟩ s2 r2=>?_⟩;subst ek;obtain rfl:=r2.key;obtain⟨v,hv,dv⟩:=r.got ev;exact⟨l,v,rfl,by rw [<-hv];exact cF.k (s2 _ _ c),k _ _ _ q2 s2 (dv.mono s2)⟩
def kM(i:Nat)(tk:DT):DT:=λδ Q=>∃kd,δ[i]?=some (some (.k kd))/\tk δ λy=>∃k,y=qL k/\Q ((fH kd k).getD .none)
theorem KL{i:Nat}{o e:YF}{tk:DT}{apos cpos:Pos}(hu:X.A.units+64 < Y0)(ho:PE X o (cK i))(he:DE X H0 O0 e tk)(m:M1 X o "get" apos e cpos):DE X H0 O0 (.Call (.Attribute o "get" apos) [e] [] cpos) (kM i tk):=
 (Cf Yr ho he m).imp λσ H Q uu84=>by
  obtain⟨O,δ,Qd,w,⟨kd,e,q⟩,k⟩:=uu84;obtain⟨l,kv,h,a,b,c,r⟩:=w.ownK e;refine⟨.ref l,h,l,rfl,.inl ⟨kv,.inl c⟩,O,δ,_,w,q,λy uy H2 ⟨ky,ek,q2⟩ s2 r2=>?_⟩;subst ek;obtain rfl:=r2.key;refine⟨_,cF.k (s2 _ _ c),k _ _ _ q2 s2 ?_⟩;rcases r.val ky with⟨y,z⟩ | ⟨v,d',a',b',c'⟩
  ·rw [y,z];exact .non
  ·rw [a',b'];exact c'.mono s2
end
open PySem PySem.Spec PyProof.Rows PySem.W PySem.Calls
theorem KN{prog:YI}{w:YJ}{A:YN}{E:Yx->YA->Prop}{s:YA}{T:String}{r d:Yz}{n:Nat}{P:Nat->Yx->Prop}{OK:YK->Prop}{ss:List Str}{Q:Yx->YA->Prop}
 (K:KdlSrc prog w T r d n P OK)(hh:A.handled=none)(hok:OK s.heap)(hn:n < 64)(hP:∀vs:List Yx,vs.length=n->(∀j v,vs[j]?=some v->P j v)->StrsAre vs ss)
 (h:∀(h' h2:YK) (tk:Nat) (out:Array Yx) (e:Nat) (ss':List Str),(∀b o,s.heap.get? b=some o->h'.get? b=some o)->(∀b o,h'.get? b=some o->h2.get? b=some o)->h2.get? h'.objs.size=some (YQ "list" out e)->StrsAre out.toList ss'->ss'.Perm ss->sortedS ss'=true->Q (.ref h'.objs.size) {s with heap:=h2,toks:=tk}):
 YC (YE prog w) A (call (.builtin "sorted") [.ref r]) Q E s:=by
 refine Ve kind_sorted plain_sorted entry_sorted (args_sorted1 _) ?_;unfold Builtin.«sorted»;refine Yy (m:=checkCount "sorted" 1 1 _) (YB ?_);refine Yy (kdu_collect (A:=A.in1) K hh hok (Rx (TV hn) Yq) λh' tk acc hk hacc=>?_);have hl:acc.toList.length=n:=by rw [RE];exact hacc.1
 refine Yy (Zy ?_);have hS:=hP acc.toList hl (λj v e=>hacc.2 j v (by rw [<-VF];exact e));have hoL:(h'.push (YQ "list" acc.toList.toArray 0)).get? h'.objs.size=some (YQ "list" acc.toList.toArray 0):=Rl _ rfl;refine Yy (Y2 (YV Z0 ⟨_,hoL,rfl⟩ ZZ (list_sort_treeK (s:={s with heap:=h'.push (YQ "list" acc.toList.toArray 0),toks:=tk}) strKind_oneLt hoL hS.keysOf (λv₁ v₂ rest e=>keyKind_strs (by rw [<-e];exact hS)) (by rw [hl];exact hn) λst' a1 a2=>⟨_,rfl,?_⟩) (args_list_sort _)));obtain⟨ss',h1,h2,h3⟩:=sorted_out_str hS a1 a2;obtain⟨e,he⟩:=sortedHeap_at (n:=0) (vs:=acc.toList) (out:=(arrOf st').map (·.2)) hoL;refine YB ⟨_,rfl,h h' _ tk _ e ss' hk (λb o q=>?_) he h1 h2 h3⟩;have hlt:b < h'.objs.size:=Rh q;rw [sortedHeap_old (RH hlt) (by rw [size_push'];exact Sv hlt),Xo _ _ _ (RH hlt)];exact q
theorem CA{P:YI}{w:YJ}:∀{ss:List Str}{vs:List Yx},vs.length=ss.length->(∀(j:Nat)(v:Yx),vs[j]?=some v->∃x:Str,ss[j]?=some x/\(dF P w).is (.inr x) v=true)->StrsAre vs ss
 | [],[],_,_=>.nil
 | x::ss,v::vs,hl,h=>by
  obtain⟨y,e,k⟩:=h 0 v rfl;cases e;rcases i6 (k:= .inr x) (v:=v) k with⟨i,t,e,_⟩ | ⟨z,t,e,ev⟩
  ·cases e
  ·cases e;subst ev;exact .cons x t (CA (by simpa using hl) λj v e=>h (j+1) v e)
theorem KO{X:Cx}:d8 X (.builtin "sorted") (λxs H Q=>X.calm=true/\∃a kv ss,xs=[.ref a]/\Rd H a (.dK kv)/\kv.map (·.1)=ss.map Sx/\ss.length < 64/\∀l,H l=none->Q (.ref l) (ah H l (.lst ((fi ss).map V.str)))):=by
 intro aac s σ H xs us Q I r h;obtain⟨hc,a,kv,ss,rfl,ha,hk,h64,q⟩:=h;obtain⟨u,rfl,rx⟩:=ft r;cases rx;obtain⟨hz,lo,vs,rel,dd⟩:=kz I.hok ha;obtain⟨ep,da⟩:=dd.dictAt;have hlen:vs.length=ss.length:=by rw [<-rel.length,<-QW (f:=(·.1)),hk,QW]
 refine KN (ss:=ss) (kdl_dict (kvs:=vs) (ep:=ep) lo) (I.ok.hd hc) da Yr (λus hl hp=>CA (P:=X.prog) (w:=X.w) Yr λj v e=>?_) λh' h2 tk out e ss' k1 k2 at2 s1 s2 s3=>?_
 ·obtain⟨k,x,ek,kk⟩:=hp j v e;have e1:(vs.map (·.1))[j]?=some k:=by rw [Q9,ek];rfl
  rw [<-rel.keys,hk,Q9] at e1;cases es:ss[j]? with
  | none=>rw [es] at e1;cases e1
  | some y=>rw [es] at e1;cases e1;exact⟨y,rfl,kk⟩
 ·have es:ss'=fi ss:=Cp s2 (Cr _ s3);subst es;have hl2:(fi ss).length=ss.length:=s2.length_eq;have I1:ag X aac σ H {s with heap:=h',toks:=tk}:=I.kept (t':=tk) k1;refine⟨.ref _,_,I1.laid (t':=tk) (o:= .lst ((fi ss).map V.str)) k2 (QY _) ?_,rfl,q _ (I1.hok.fresh (QY _))⟩;refine⟨by rw [QW,hl2];exact Rx (TV h64) Yq,out.toList,e,vN s1,?_⟩;rw [at2]
theorem bC.keys{K:QV}{H:Hp}{O:Ex}{kv:List (aq×V)}{kd:List (aq×Yw)}(h:bC K H O kv kd):kv.map (·.1)=kd.map (·.1):=by
 induction h with
 | nil=>rfl
 | cons a _ ih=>simp only [Q0,ih]
section
variable {X:Cx} {H0:Hp} {O0:Ex}
def kN(i:Nat):DA:=λδ Q=>∃kd,δ[i]?=some (some (.k kd))/\∃ss:List Str,kd.map (·.1)=ss.map Sx/\ss.length < 64/\Q ((fi ss).map .str)
theorem KP{i:Nat}{o:YF}{np p:Pos}(hc:X.calm=true)(hg:Gl X "sorted")(hm:X.mg "sorted"=none)(hv:YX "sorted"=some (.builtin "sorted"))(ho:PE X o (cK i))(he:YD [o] X.env=(false,eval o X.env)::YD [] X.env:=by rfl)(hpl:(YR p (YD [] X.env)).any (·.1)=false:=by rfl):
 FE X H0 O0 (.Call (.Name "sorted" np) [o] [] p) (kN i):=
 (bU KO hg hm hv (bw ho b5 he) (he:=he) (hpl:=hpl)).imp λσ H Q uu86=>by
  obtain⟨O,δ,Qd,w,⟨kd,e,ss,ek,h64,q⟩,k⟩:=uu86;obtain⟨l,kv,h,a,b,c,r⟩:=w.ownK e;exact⟨.ref l,h,hc,l,kv,ss,rfl,.inl c,by rw [r.keys];exact ek,h64,λp hp=>k _ _ _ _ q (au.refl _) hp (ai.ofStrs _)⟩
end
section
theorem mW{a:List (aq×Yw)}{r:Dl}{P:List (aq×Yw)->Prop}:(∃d,(some (Sl.k a)::r)[0]?=some (some (Sl.k d))/\P d)=P a:=Yv
theorem mX{x:Option Sl}{r:Dl}{i:Nat}{P:List (aq×Yw)->Prop}:(∃d,(x::r)[i+1]?=some (some (Sl.k d))/\P d)=(∃d,r[i]?=some (some (Sl.k d))/\P d):=Yv
theorem mY{x:Option Sl}{l:Dl}{i j:Nat}{P:List (aq×Yw)->Prop}(h:i≠j):(∃d,(l.set i x)[j]?=some (some (Sl.k d))/\P d)=(∃d,l[j]?=some (some (Sl.k d))/\P d):=by rw [Rg h]
theorem mZ{x:Str}{P:aq->Prop}:(∃k,QZ x=qL k/\P k)=P (.inr x):=propext ⟨λuu87=>by obtain⟨k,e,p⟩:=uu87;cases k with | inl i=>cases e | inr y=>cases e;exact p,λp=>⟨_,rfl,p⟩⟩
end
def eO:Yw->Bool
 | .none=>true
 | _=>false
def jq:Yw->Yw->(Yw->Prop)->Prop:=λx y Q=>y= .none/\Q (.bool (eO x))
def kO:Yw->Yw->(Yw->Prop)->Prop:=λx y Q=>y= .none/\Q (.bool (!eO x))
theorem Sh.isN{K:QV}{H:Hp}{O:Ex}{x:V}{d:Yw}(h:Sh K H O x d):decide (x= .non)=eO d:=by
 cases h with
 | dt h=>cases h <;> simp [eO]
 | _=>simp [eO]
theorem qN{K:QV}:cw K (λx y H Q=>y= .non/\Q (.bl (decide (x= .non))) H) jq:=λH O x y dx dy Qd R _ hx hy uu88 k=>by
 obtain⟨e,q⟩:=uu88;subst e;refine⟨hy.non,?_⟩;rw [hx.isN];exact k _ _ H q (au.refl _) (.bl _)
theorem CB{K:QV}:cw K (λx y H Q=>y= .non/\Q (.bl (!decide (x= .non))) H) kO:=λH O x y dx dy Qd R _ hx hy uu89 k=>by
 obtain⟨e,q⟩:=uu89;subst e;refine⟨hy.non,?_⟩;rw [hx.isN];exact k _ _ H q (au.refl _) (.bl _)
def kP:List Yw->(Yw->Prop)->Prop:=λds Q=>∃i:Int,ds=[.int i]/\Q (.int (if i < 0 then -i else i))
theorem KQ{K:QV}:jh K (λxs H Q=>∃i,xs=[.int i]/\Q (.int (if i < 0 then -i else i)) H) kP:=λH O xs ds Qd R _ hs uu90 k=>by
 obtain⟨i,e,q⟩:=uu90;subst e;cases hs with
 | cons h r=>cases r;cases h.int;exact⟨i,rfl,k _ _ H q (au.refl _) (.int _)⟩
def kQ:Yw->Yw->(Yw->Prop)->Prop:=λx y Q=>∃ds i d,x=fS ds/\y= .int i/\atI ds i=some d/\Q d
theorem KR{K:QV}:cw K (vg K) kQ:=λH O x y dx dy Qd R _ hx hy uu91 k=>by
 obtain⟨ds,i,d,e1,e2,e3,q⟩:=uu91;subst e1 e2;obtain⟨a,vs,rfl,hs,r⟩:=hx.scr;cases hy.int;obtain⟨v,hv,rv⟩:=r.atI e3;exact⟨a,vs,i,v,rfl,rfl,hs,hv,k d v H q (au.refl _) rv⟩
section
variable {X:Cx} {H0:Hp} {O0:Ex}
def kR(t:DT)(tl th:DO):DA:=λδ Q=>t δ λd=>tl δ λl=>th δ λu=>∃xs,d=fS xs/\Q (cW xs l u)
theorem KS{e:YF}{lo hi:Option YF}{t:DT}{tl th:DO}{pos p2:Pos}(h:DF X H0 O0 e t)(hl:PO X lo (j9 X.K H0 O0 tl))(hu:PO X hi (j9 X.K H0 O0 th)):FE X H0 O0 (.Subscript e (.Slice lo hi none p2) pos) (kR t tl th):=
 (vc BG h hl hu).imp λσ H Q uu92=>by obtain⟨O,δ,Qd,w,q,k⟩:=uu92;exact⟨O,δ,_,w,q,λd v H1 q1 s1 r1=>⟨O,δ,_,w.mono s1,q1,λl H2 q2 s2=>⟨O,δ,_,w.mono (s1.trans s2),q2,λu H3 uu93 s3=>by
  obtain⟨xs,e,q3⟩:=uu93;subst e;obtain⟨a,vs,rfl,h1,d1⟩:=(r1.mono (s2.trans s3)).scr;exact⟨a,vs,rfl,h1,λp hp=>k _ _ _ _ q3 (s1.trans (s2.trans s3)) hp (d1.cut l u)⟩⟩⟩⟩
end
theorem CC{X:Cx}:bG X (Y8 .Mult) (λx y H Q=>∃(z:Str)(n:Int),x= .str z/\y= .int n/\MulOk z n/\Q (.str (Txt.mul z n)) H):=by
 intro aac s σ H x y v u Q I rx ry h;obtain⟨z,n,rfl,rfl,hok,q⟩:=h;obtain⟨t,rfl⟩:=rx;obtain⟨t',rfl⟩:=ry;exact SB.mul hok λt' k=>⟨.str _,H,I.tok _,⟨_,rfl⟩,q⟩
def kT:Yw->Yw->(Yw->Prop)->Prop:=λx y Q=>∃(z:Str)(n:Int),x= .str z/\y= .int n/\MulOk z n/\Q (.str (Txt.mul z n))
theorem CD{K:QV}:cw K (λx y H Q=>∃(z:Str)(n:Int),x= .str z/\y= .int n/\MulOk z n/\Q (.str (Txt.mul z n)) H) kT:=λH O x y dx dy Qd R _ hx hy uu94 k=>by
 obtain⟨z,n,e1,e2,c,q⟩:=uu94;subst e1 e2;cases hx.str;cases hy.int;exact⟨z,n,rfl,rfl,c,k _ _ H q (au.refl _) (.str _)⟩
structure Rw where
 w:Str
 n:Int
 nm:Str
 r:List Yw
def Rw.enc(x:Rw):Yw:= .tuple (.str x.w:: .int x.n:: .str x.nm::x.r)
def fX(ws:List Str)(day:Int)(x:Rw):Prop:=x.w∈ws/\x.n<=day
instance {ws:List Str} {day:Int} {x:Rw}:Decidable (fX ws day x):=by unfold fX;infer_instance
abbrev Ls:=List (Str×Rw)
def ie(L:Ls):List (aq×Yw):=L.map λp=>(.inr p.1,p.2.enc)
def dR(L:Ls)(nm:Str):Option Rw:=(L.find? λp=>decide (p.1=nm)).map (·.2)
def sT(L:Ls)(nm:Str)(x:Rw):Ls:=if (L.any λp=>decide (p.1=nm))=true then L.map (λp=>if p.1=nm then(p.1,x) else p) else L++[(nm,x)]
theorem jr{a b:Str}:((Sx a:aq)=Sx b)↔a=b:=⟨λh=>by cases h;rfl,λh=>by rw [h]⟩
theorem vR(nm:Str):∀L:Ls,fH (ie L) (.inr nm)=(dR L nm).map Rw.enc
 | []=>rfl
 | p::L=>by
  have ih:=vR nm L;unfold fH dR ie at*;by_cases h:p.1=nm
  ·simp [Sa,h]
  ·have h':¬((Sx p.1:aq)=Sx nm):=λz=>h (jr.mp z);simp only [Q0,Sa,decide_eq_false h,decide_eq_false h'];exact ih
theorem CF(L:Ls)(nm:Str)(x:Rw):fW (ie L) (.inr nm) x.enc=ie (sT L nm x):=by
 have ha:(ie L).any (λp=>decide (p.1=(Sx nm:aq)))=L.any λp=>decide (p.1=nm):=by
  unfold ie;rw [VL];congr 1;funext p;simp only [T3,jr]
 unfold fW sT;rw [ha];split
 ·unfold ie;rw [Rm,Rm];apply Tc;intro p _;simp only [T3,jr];split <;> rfl
 ·unfold ie;simp
structure fj (ws:List Str) (day:Int) (xs:List Rw) (L:Ls):Prop where
 nd:(L.map (·.1)).Nodup
 it:∀p∈L,p.1=p.2.nm/\p.2∈xs/\fX ws day p.2/\∀y∈xs,fX ws day y->y.nm=p.1->y.n<=p.2.n
 al:∀y∈xs,fX ws day y->∃p∈L,p.1=y.nm
 le:L.length<=xs.length
theorem fj.nil(ws:List Str)(day:Int):fj ws day [] []:=⟨List.nodup_nil,(λp h=>by cases h),(λp h=>by cases h),QY _⟩
theorem sU{L:Ls}{nm:Str}{y:Rw}(h:dR L nm=some y):∃p∈L,p.1=nm/\p.2=y:=by
 unfold dR at h;cases e:L.find? (λp=>decide (p.1=nm)) with
 | none=>rw [e] at h;cases h
 | some p=>
  rw [e] at h;cases h;exact⟨p,Wl e,by simpa using List.find?_some e,rfl⟩
theorem CG{L:Ls}{nm:Str}(h:dR L nm=none):∀p∈L,p.1≠nm:=by
 intro p hp e;unfold dR at h;rw [Option.map_eq_none_iff,Vl] at h;exact h p hp (by simpa using e)
section
variable {ws:List Str} {day:Int} {xs:List Rw} {L:Ls} {x:Rw}
theorem fj.skip(h:fj ws day xs L)(hx:¬fX ws day x):fj ws day (xs++[x]) L:=by
 refine⟨h.nd,λp hp=>?_,λy hy ho=>?_,by have:=h.le;simp;omega⟩
 ·obtain⟨a,b,c,d⟩:=h.it p hp;refine⟨a,by simp [b],c,λy hy ho e=>?_⟩;rcases Rj.mp hy with z | z
  ·exact d y z ho e
  ·rw [Rk] at z;subst z;exact absurd ho hx
 ·rcases Rj.mp hy with z | z
  ·exact h.al y z ho
  ·rw [Rk] at z;subst z;exact absurd ho hx
theorem fj.keep(h:fj ws day xs L){y0:Rw}(hl:dR L x.nm=some y0)(hn:¬y0.n < x.n):fj ws day (xs++[x]) L:=by
 obtain⟨p0,hp0,e0,rfl⟩:=sU hl;have uq:∀p∈L,p.1=x.nm->p=p0:=λp hp e=>by
  have nd:=h.nd;clear h hl hn
  induction L with
  | nil=>cases hp
  | cons q L ih=>
   rw [Q0,Sz] at nd;rcases Q4.mp hp with a | a <;> rcases Q4.mp hp0 with b | b
   ·rw [a,b]
   ·exact absurd (Rf.mpr ⟨p0,b,by rw [e0,<-e,a]⟩) nd.1
   ·exact absurd (Rf.mpr ⟨p,a,by rw [e,<-e0,b]⟩) nd.1
   ·exact ih b a nd.2
 refine⟨h.nd,λp hp=>?_,λy hy ho=>?_,by have:=h.le;simp;omega⟩
 ·obtain⟨a,b,c,d⟩:=h.it p hp;refine⟨a,by simp [b],c,λy hy ho e=>?_⟩;rcases Rj.mp hy with z | z
  ·exact d y z ho e
  ·rw [Rk] at z;subst z;rw [uq p hp e.symm];omega
 ·rcases Rj.mp hy with z | z
  ·exact h.al y z ho
  ·rw [Rk] at z;subst z;exact⟨p0,hp0,e0⟩
theorem fj.put(h:fj ws day xs L)(ho:fX ws day x)(hl:∀y,dR L x.nm=some y->y.n < x.n):fj ws day (xs++[x]) (sT L x.nm x):=by
 unfold sT;split
 ·rename_i ha;obtain⟨p0,hp0,e0⟩:=Ua.mp ha;have e0:p0.1=x.nm:=of_decide_eq_true e0;have hmx:∀y∈xs,fX ws day y->y.nm=x.nm->y.n<=x.n:=λy hy ho' e=>by
   cases hk:dR L x.nm with
   | none=>exact absurd e0 (CG hk p0 hp0)
   | some z=>
    obtain⟨p,hp,ep,rfl⟩:=sU hk;have:=(h.it p hp).2.2.2 y hy ho' (by rw [ep];exact e);have:=hl _ hk;omega
  refine⟨?_,λp hp=>?_,λy hy ho'=>?_,by have:=h.le;simp;omega⟩
  ·rw [Rm,show((λp:Str×Rw=>p.1)∘ λp=>if p.1=x.nm then(p.1,x) else p)=λp=>p.1 by funext p;simp only [T3];split <;> rfl];exact h.nd
  ·obtain⟨q,hq,rfl⟩:=Rf.mp hp;by_cases z:q.1=x.nm
   ·rw [Yt z];refine⟨z,Yv,ho,λy hy ho' e=>?_⟩;rcases Rj.mp hy with m | m
    ·exact hmx y m ho' (by rw [e];exact z)
    ·rw [Rk] at m;subst m;exact Yg _
   ·rw [Ys z];obtain⟨a,b,c,d⟩:=h.it q hq;refine⟨a,by simp [b],c,λy hy ho' e=>?_⟩;rcases Rj.mp hy with m | m
    ·exact d y m ho' e
    ·rw [Rk] at m;subst m;exact absurd e.symm z
  ·rcases Rj.mp hy with m | m
   ·obtain⟨p,hp,e⟩:=h.al y m ho';refine⟨_,Rf.mpr ⟨p,hp,rfl⟩,?_⟩;split <;> exact e
   ·rw [Rk] at m;subst m;refine⟨_,Rf.mpr ⟨p0,hp0,rfl⟩,?_⟩;rw [Yt e0];exact e0
 ·rename_i ha;have hno:∀p∈L,p.1≠x.nm:=λp hp e=>ha (Ua.mpr ⟨p,hp,decide_eq_true e⟩);refine⟨?_,λp hp=>?_,λy hy ho'=>?_,by have:=h.le;simp;omega⟩
  ·rw [Rq];refine Wh.mpr ⟨h.nd,Yv,λa ha' b hb=>?_⟩;simp only [Q0,RW,Rk] at hb;obtain⟨p,hp,rfl⟩:=Rf.mp ha';rw [hb];exact hno p hp
  ·rcases Rj.mp hp with m | m
   ·obtain⟨a,b,c,d⟩:=h.it p m;refine⟨a,by simp [b],c,λy hy ho' e=>?_⟩;rcases Rj.mp hy with z | z
    ·exact d y z ho' e
    ·rw [Rk] at z;subst z;exact absurd e.symm (hno p m)
   ·rw [Rk] at m;subst m;refine⟨rfl,Yv,ho,λy hy ho' e=>?_⟩;rcases Rj.mp hy with z | z
    ·obtain⟨p,hp,e'⟩:=h.al y z ho';exact absurd (e'.trans e) (hno p hp)
    ·rw [Rk] at z;subst z;exact Yg _
  ·rcases Rj.mp hy with m | m
   ·obtain⟨p,hp,e⟩:=h.al y m ho';exact⟨p,by simp [hp],e⟩
   ·rw [Rk] at m;subst m;exact⟨(y.nm,y),Yv,rfl⟩
end
structure fk (ws:List Str) (day:Int) (xs res:List Rw):Prop where
 up:(res.map (·.nm)).Pairwise λa b=>dn a b=true
 nd:(res.map (·.nm)).Nodup
 it:∀x∈res,x∈xs/\fX ws day x/\∀y∈xs,fX ws day y->y.nm=x.nm->y.n<=x.n
 al:∀y∈xs,fX ws day y->∃x∈res,x.nm=y.nm
 le:res.length<=xs.length
theorem vS{L:Ls}{nm:Str}(h:nm∈L.map (·.1)):∃x,dR L nm=some x:=by
 cases e:dR L nm with
 | some x=>exact⟨x,rfl⟩
 | none=>
  obtain⟨p,hp,e'⟩:=Rf.mp h;exact absurd e' (CG e p hp)
def sV(L:Ls):List Rw:=(fi (L.map (·.1))).filterMap (dR L)
theorem KU{ws:List Str}{day:Int}{xs:List Rw}{L:Ls}(h:fj ws day xs L):(sV L).map (·.nm)=fi (L.map (·.1)):=by
 unfold sV;have key:∀l:List Str,(∀a∈l,a∈L.map (·.1))->(l.filterMap (dR L)).map (·.nm)=l:=by
  intro l
  induction l with
  | nil=>intro _;rfl
  | cons a l ih=>
   intro hl;obtain⟨x,hx⟩:=vS (hl a Yv);obtain⟨p,hp,e,rfl⟩:=sU hx;rw [SD,hx];show p.2.nm::_=_;rw [ih λb hb=>hl b (by simp [hb]),<-(h.it p hp).1,e]
 exact key _ λa ha=>(kC _).mem_iff.mp ha
theorem fj.res{ws:List Str}{day:Int}{xs:List Rw}{L:Ls}(h:fj ws day xs L):fk ws day xs (sV L):=by
 have hn:=KU h;refine⟨by rw [hn];exact Co _,by rw [hn];exact(kC _).nodup_iff.mpr h.nd,λx hx=>?_,λy hy ho=>?_,by rw [<-QW (f:=λx:Rw=>x.nm),hn,(kC _).length_eq,QW];exact h.le⟩
 ·obtain⟨a,ha,e⟩:=UN.mp hx;obtain⟨p,hp,e1,rfl⟩:=sU e;obtain⟨b1,b2,b3,b4⟩:=h.it p hp;exact⟨b2,b3,λy hy ho e=>b4 y hy ho (by rw [b1];exact e)⟩
 ·obtain⟨p,hp,e⟩:=h.al y hy ho;have:p.1∈(sV L).map (·.nm):=by rw [hn];exact(kC _).mem_iff.mpr (Rf.mpr ⟨p,hp,rfl⟩)
  obtain⟨x,hx,e'⟩:=Rf.mp this;exact⟨x,hx,e'.trans e⟩
theorem KW(t:Zc)(n:Nat):(t.orStandIn n).led=t.led:=by unfold Xf;split <;> rfl
theorem KY(t:Zc)(es:Array (Int×Yx))(h:Int)(x:Yx):(layNew t es h x).2.1.led=t.led:=by
 unfold layNew;split
 ·exact KW _ _
 ·rfl
theorem KZ(t:Zc)(es:Array (Int×Yx))(n:Nat):(ZN t es n).2.1.led=t.led:=by
 unfold ZN XQ X1;cases Xp (Xg n - 1) (es.map (·.1)) with
 | none=>rfl
 | some ow=>simp only [bind,Yh,pure];split <;> rfl
abbrev fY(w:YJ):Bool:=w.params.followText "set-order"
section
variable {P:YI} {w:YJ} {A:YN} {E:Yx->YA->Prop} {s:YA}
theorem K0(a:Yx){Q₁:Yx->YA->Prop}
 (h:Q₁ (.ref s.heap.objs.size) {s with heap:=s.heap.push {cls:= .type "set",dict:=none,data:= .set #[] 0 (.fresh 0 0 (!fY w))}}):
 Zq (YE P w) A (.call (.builtin "set.__new__") ⟨[.type "set",a],[]⟩) (wants Q₁ E) s:=by
 refine codeAny_of_tree ?_;show YC _ A.in1 (checkBuiltinCall "set.__new__" ⟨[.type "set",a],[]⟩ >>=λ_=>again (.builtin "set.__new__" ⟨[.type "set",a],[]⟩)) _ _ s;refine Yy (ZL (PySem.F.newCall_set_1 a) (YB ⟨ZM WT _,Zs PySem.F.entry_set_new ?_⟩));rw [Uw WT _];unfold Builtin.«set.__new__» Builtin.Frozenset.newClass;have hsb:=sub_set_self;obtain⟨hp,g,d,tk,os⟩:=s;dsimp only
 wp_walk
 refine Zo (YB ?_);dsimp only;simp only [newObj];exact Yy (wpAny_alloc (YB (YB h)))
end
theorem js:Slot "set_iterator" "__next__" "set_iterator.__next__":=
 .of (owner:="set_iterator") (n:="__next__") (by rw [typeLookup_type,builtinLookup_eq_fast];kernel_rfl) Yp Yp Yp
  (by first | exact .inl Yp | exact .inr Yp) (by rw [isSubtype_type];kernel_rfl)
theorem sW:entryFor table "set_iterator.__next__"=some Builtin.«set_iterator.__next__»:=entryFor_of_tree (by kernel_rfl)
theorem CH:Manifest.owners.lookup (String.ofList ['r','o','t','a','r','e','t','i','_','t','e','s'].reverse)=some Manifest.sig_set_iterator:=by kernel_rfl
theorem sX(a:Yx):argsOk "set_iterator.__next__" ⟨[a],[]⟩:=by
 unfold argsOk;rw [signature?_of (id:="set_iterator.__next__") (n:=['_','_','t','x','e','n','_','_']) (o:=['r','o','t','a','r','e','t','i','_','t','e','s']) (by kernel_rfl) CH];kernel_rfl
theorem K1:entryFor table "set.__iter__"=some Builtin.«frozenset.__iter__»:=entryFor_alias (id':="frozenset.__iter__") (by kernel_rfl) rfl Yp (by kernel_rfl)
theorem vT{α:Type}:∀{l:List α}{i:Nat}(h:i < l.length),(l[i]::l.eraseIdx i).Perm l
 | a::l,0,h=>.refl _
 | a::l,i+1,h=>by
  have:=vT (l:=l) (i:=i) (by simpa using h);simp only [List.getElem_cons_succ,List.eraseIdx_cons_succ];exact(List.Perm.swap _ _ _).trans (this.cons a)
theorem CI{α:Type}(next:Nat->Nat):∀(f k:Nat)(left:List α)(out:Array α),f=left.length->(pickOrder.go next f k left out).toList.Perm (out.toList++left)
 | 0,k,left,out,e=>by
  rw [VN e.symm];unfold pickOrder.go;simp
 | f+1,k,left,out,e=>by
  unfold pickOrder.go;have hlt:next k % left.length < left.length:=Nat.mod_lt _ Yr;rw [RF hlt];refine(CI next f (k+1) _ _ (by rw [V6 hlt];omega)).trans ?_;rw [Xq,UX];exact List.Perm.append_left _ (vT hlt)
theorem K2{α:Type}(next:Nat->Nat)(xs:Array α):(Z5 next xs).toList.Perm xs.toList:=by
 have:=CI next xs.size 0 xs.toList #[] Yv;simpa [Z5] using this
section
variable {P:YI} {w:YJ} {A:YN} {E:Yx->YA->Prop}
theorem CJ{α:Type}:∀(n:Nat)(xs:List α)(s:YA)(Q:List α->YA->Prop),n=xs.length->(∀ys d,ys.Perm xs->Q ys {s with drawn:=d})->YC (YE P w) A (drawOrder n xs) Q E s
 | 0,xs,s,Q,e,q=>by
  rw [VN e.symm] at q⊢;unfold drawOrder;exact YB (q [] s.drawn (.refl _))
 | n+1,[],s,Q,e,q=>by cases e
 | n+1,x::xs,s,Q,e,q=>by
  unfold drawOrder;refine Yy ?_;intro Γ p hΓ;refine⟨Yv,?_⟩;generalize hi:(YE P w).w.draws .order (s.drawn.get .order)% (x::xs).length=i;have hlt:i < (x::xs).length:=by rw [<-hi];exact Nat.mod_lt _ Yv
  have key:YC (YE P w) A (match (x::xs)[i]? with | some y=>(do return y::(<-drawOrder n ((x::xs).eraseIdx i))) | none=>unsupported "internal:drawOrder") Q E {s with drawn:=s.drawn.bump .order}:=by
   rw [RF hlt];refine Yy (CJ n _ _ _ (by rw [V6 hlt];simp at e⊢;omega) λys d hp=>YB (q _ d ?_));exact(hp.cons _).trans (vT hlt)
  exact key
end
def fZ(h:YK)(it:Yz)(f:Yx)(i:Nat)(a:Yz)(n ep:Nat):Prop:=∃o,h.get? it=some o/\o.cls= .type "set_iterator"/\o.data= .fields #[f,.int i 0,.ref a,.int n 0,.int ep 0]
theorem fZ.typeIs{s:YA}{it f i a n ep}(x:fZ s.heap it f i a n ep):s.TypeIs (.ref it) "set_iterator":=let ⟨o,h,c,_⟩:=x;⟨o,h,c⟩
section
variable {P:YI} {w:YJ} {A:YN} {E:Yx->YA->Prop} {s:YA} {a:Yz} {o:Obj} {es:Array (Int×Yx)} {ep:Nat} {t:Zc}
theorem CK{slot i:Nat}{Q:Option (Yx×Nat)->YA->Prop}(hb:fY w=true)(o1:s.heap.get? a=some o)(d1:o.data= .set es ep t)(f1:t.fits es.size=true)
 (h:Q (((Z5 (w.params.setOrder a ep) es)[i]?).map λe=>(e.2,slot)) s):YC (YE P w) A (ZJ a slot i ep) Q E s:=by
 unfold ZJ setWalk setsByText;refine Yy (Zl o1 d1 f1 (Yy (Yy (Zo (YB ?_)))));rw [Yt (show(YE P w).w.params.followText "set-order"=true from hb)];rw [Ys Yv];refine Yy (Yy (Zl o1 d1 f1 (Yy (Yy (Zo (YB ?_))))));rw [Yt (show(YE P w).w.params.followText "set-order"=true from hb)];exact Yy (Zo (YB (YB h)))
theorem K3{it:Yz}{slot slot' i:Nat}{x:Yx}{Q:Option Yx->YA->Prop}(hit:fZ s.heap it (.int slot 0) i a es.size ep)(o1:s.heap.get? a=some o)(d1:o.data= .set es ep t)(f1:t.fits es.size=true)
 (nx:∀E' Q',Q' (some (x,slot')) s->YC (YE P w) A.in1 (ZJ a slot i ep) Q' E' s)
 (hQ:∀h',fZ h' it (.int slot' 0) (i+1) a es.size ep->Tx it s.heap h'->Q (some x) {s with heap:=h'}):YC (YE P w) A (Zr (.ref it)) Q E s:=by
 obtain⟨u,u1,c1,e1⟩:=id hit;unfold Zr;refine Yy (Zz (YW (name:=QU "__next__") hit.typeIs js (YV js hit.typeIs sW ?_ (sX _))));unfold Builtin.«set_iterator.__next__»;refine Yy (m:=slotArgs _ _ _) (YB (Yy (Z1 u1 e1 ?_)));show YC _ _ (setEntries a >>=_) _ _ s;refine Yy (Zp o1 d1 f1 ?_);rw [Ys Yv];show YC _ _ (ZJ a ((slot:Int)).toNat ((i:Int)).toNat ((ep:Int)).toNat >>=_) _ _ s;simp only [Sk];refine Yy (nx _ _ ?_);show YC _ _ (setField (.ref it) 0 (Zf (slot':Int)) >>=_) _ _ s;refine Yy (Zd u1 e1 Yv ?_);have g1:=SV (X2 (·.setIfInBounds 0 (Zf (slot':Int)))) u1 (Ul (SQ e1 _));have k1:=SQ e1 (·.setIfInBounds 0 (Zf (slot':Int)));refine Yy (Zd g1 k1 Yv (YB ⟨x,rfl,YB (hQ _ ?_ ((RV ..).trans (RV ..)))⟩));refine⟨_,SV _ g1 (Ul (SQ k1 _)),(Vv ..).trans ((Vv ..).trans c1),?_⟩;rw [SQ k1];simp [Zf]
theorem K4{it pl:Yz}{i k:Nat}{hk:Int}{x:Yx}{ol:Obj}{ps:Array Yx}{nl:Nat}{Q:Option Yx->YA->Prop}(hit:fZ s.heap it (.ref pl) i a es.size ep)(o1:s.heap.get? a=some o)(d1:o.data= .set es ep t)(f1:t.fits es.size=true)
 (l1:s.heap.get? pl=some ol)(l2:ol.data= .seq ps nl)(p1:ps[i]?=some (.int (k:Int) 0))(x1:es[k]?=some (hk,x))
 (hQ:∀h',fZ h' it (.ref pl) (i+1) a es.size ep->Tx it s.heap h'->Q (some x) {s with heap:=h'}):YC (YE P w) A (Zr (.ref it)) Q E s:=by
 obtain⟨u,u1,c1,e1⟩:=id hit;unfold Zr;refine Yy (Zz (YW (name:=QU "__next__") hit.typeIs js (YV js hit.typeIs sW ?_ (sX _))));unfold Builtin.«set_iterator.__next__»;refine Yy (m:=slotArgs _ _ _) (YB (Yy (Z1 u1 e1 ?_)));show YC _ _ (setEntries a >>=_) _ _ s;refine Yy (Zp o1 d1 f1 ?_);rw [Ys Yv];show YC _ _ (seqItems? (.ref pl) >>=_) _ _ s;refine Yy (Z2 l1 l2 ?_);simp only [Sk,p1];refine Yy ?_;unfold setNextDrawn;refine Yy (Zl o1 d1 f1 ?_);simp only [Sk];rw [Ys Yv,x1];refine YB (Yy (Zd u1 e1 Yv (YB ⟨x,rfl,YB (hQ _ ?_ (RV ..))⟩)));refine⟨_,SV _ u1 (Ul (SQ e1 _)),(Vv ..).trans c1,?_⟩;rw [SQ e1];simp [Zf]
theorem K5{it:Yz}{slot i:Nat}{Q:Option Yx->YA->Prop}(hh:A.handled=none)(hit:fZ s.heap it (.int slot 0) i a es.size ep)(o1:s.heap.get? a=some o)(d1:o.data= .set es ep t)(f1:t.fits es.size=true)
 (nx:∀E' Q',Q' none s->YC (YE P w) A.in1 (ZJ a slot i ep) Q' E' s)
 (hQ:∀h',WM it s.heap h'->Q none {s with heap:=h'}):YC (YE P w) A (Zr (.ref it)) Q E s:=by
 obtain⟨u,u1,c1,e1⟩:=id hit;unfold Zr;refine Yy (Zz (YW (name:=QU "__next__") hit.typeIs js (YV js hit.typeIs sW ?_ (sX _))));unfold Builtin.«set_iterator.__next__»;refine Yy (m:=slotArgs _ _ _) (YB (Yy (Z1 u1 e1 ?_)));show YC _ _ (setEntries a >>=_) _ _ s;refine Yy (Zp o1 d1 f1 ?_);rw [Ys Yv];show YC _ _ (ZJ a ((slot:Int)).toNat ((i:Int)).toNat ((ep:Int)).toNat >>=_) _ _ s;simp only [Sk];refine Yy (nx _ _ ?_);show YC _ _ (setField (.ref it) 2 .none >>=_) _ _ s;refine Yy (Zd u1 e1 Yv ?_);refine Yy (m:=newExc (.type "StopIteration") []) ?_;simp only [newExc,newTuple];refine Yy (YT ?_ (by size_fits));refine Yy (m:=Zv _ _) (ZL (a:=SS) (by first | rfl | (simp only [Zv];rfl)) ?_);refine YT ?_ (by size_fits);simp only [raiseNew];refine Yy (wpAny_handled ?_);rw [show A.in1.handled=none from hh];refine Yy (YB (wpAny_throw ?_));refine Yy (ZO (T:="StopIteration") (b:=true) ⟨_,Rl _ rfl,rfl⟩ isSubtype_stop ?_);exact YB (hQ _ (((RV ..).extBut.push _).push _))
theorem K6{it pl:Yz}{i:Nat}{ol:Obj}{ps:Array Yx}{nl:Nat}{Q:Option Yx->YA->Prop}(hh:A.handled=none)(hit:fZ s.heap it (.ref pl) i a es.size ep)(o1:s.heap.get? a=some o)(d1:o.data= .set es ep t)(f1:t.fits es.size=true)
 (l1:s.heap.get? pl=some ol)(l2:ol.data= .seq ps nl)(p1:ps[i]?=none)
 (hQ:∀h',WM it s.heap h'->Q none {s with heap:=h'}):YC (YE P w) A (Zr (.ref it)) Q E s:=by
 obtain⟨u,u1,c1,e1⟩:=id hit;unfold Zr;refine Yy (Zz (YW (name:=QU "__next__") hit.typeIs js (YV js hit.typeIs sW ?_ (sX _))));unfold Builtin.«set_iterator.__next__»;refine Yy (m:=slotArgs _ _ _) (YB (Yy (Z1 u1 e1 ?_)));show YC _ _ (setEntries a >>=_) _ _ s;refine Yy (Zp o1 d1 f1 ?_);rw [Ys Yv];show YC _ _ (seqItems? (.ref pl) >>=_) _ _ s;refine Yy (Z2 l1 l2 ?_);simp only [Sk,p1];show YC _ _ (setField (.ref it) 0 (Zf 0) >>=_) _ _ s;refine Yy (Zd u1 e1 Yv ?_);have g1:=SV (X2 (·.setIfInBounds 0 (Zf 0))) u1 (Ul (SQ e1 _));have k1:=SQ e1 (·.setIfInBounds 0 (Zf 0));refine Yy (Zd g1 k1 Yv ?_);refine Yy (m:=newExc (.type "StopIteration") []) ?_;simp only [newExc,newTuple];refine Yy (YT ?_ (by size_fits));refine Yy (m:=Zv _ _) (ZL (a:=SS) (by first | rfl | (simp only [Zv];rfl)) ?_);refine YT ?_ (by size_fits);simp only [raiseNew];refine Yy (wpAny_handled ?_);rw [show A.in1.handled=none from hh];refine Yy (YB (wpAny_throw ?_));refine Yy (ZO (T:="StopIteration") (b:=true) ⟨_,Rl _ rfl,rfl⟩ isSubtype_stop ?_);exact YB (hQ _ ((((RV ..).trans (RV ..)).extBut.push _).push _))
end
theorem CM:Slot "set_iterator" "__iter__" "set_iterator.__iter__":=
 .of (owner:="set_iterator") (n:="__iter__") (by rw [typeLookup_type,builtinLookup_eq_fast];kernel_rfl) Yp Yp Yp
  (by first | exact .inl Yp | exact .inr Yp) (by rw [isSubtype_type];kernel_rfl)
theorem K7:entryFor table "set_iterator.__iter__"=some Builtin.«dict_keyiterator.__iter__»:=entryFor_alias (id':="dict_keyiterator.__iter__") (by kernel_rfl) rfl Yp (by kernel_rfl)
theorem K8(a:Yx):argsOk "set_iterator.__iter__" ⟨[a],[]⟩:=by
 unfold argsOk;rw [signature?_of (id:="set_iterator.__iter__") (n:=['_','_','r','e','t','i','_','_']) (o:=['r','o','t','a','r','e','t','i','_','t','e','s']) (by kernel_rfl) CH];kernel_rfl
theorem fZ.at{h h':YK}{it f i a n ep}(x:fZ h it f i a n ep)(e:∀o,h.get? it=some o->h'.get? it=some o):fZ h' it f i a n ep:=let ⟨o,ho,r⟩:=x;⟨o,e _ ho,r⟩
section
variable {P:YI} {w:YJ} {A:YN} {E:Yx->YA->Prop} {s:YA} {a:Yz} {o:Obj} {es:Array (Int×Yx)} {ep:Nat} {t:Zc}
theorem CN{it:Yz}{f:Yx}{i n:Nat}{Q:Yx->YA->Prop}(hit:fZ s.heap it f i a n ep)(h:Q (.ref it) s):YC (YE P w) A (pyIter (.ref it)) Q E s:=by
 refine wpAny_pyIter_slot hit.typeIs CM (YV CM hit.typeIs K7 ?_ (K8 _));exact Yy (m:=slotArgs _ _ _) (YB (YB ⟨_,rfl,"set_iterator",_,hit.typeIs,js.lookup,h⟩))
theorem CO(hh:A.handled=none)(it:Yz)(hne:a≠it)(d1:o.data= .set es ep t)(f1:t.fits es.size=true)(vs:List Yx)(hl:vs.length=es.size)(sl:Nat->Nat)
 (nx:∀(s:YA) (i:Nat) (h:i < vs.length) E' Q',s.heap.get? a=some o->Q' (some (vs[i],sl (i+1))) s->YC (YE P w) A.in1 (ZJ a (sl i) i ep) Q' E' s)
 (nd:∀(s:YA) E' Q',s.heap.get? a=some o->Q' none s->YC (YE P w) A.in1 (ZJ a (sl es.size) es.size ep) Q' E' s):
 Walks P w A it [it,a] [it] es.size (λi v=>vs[i]?=some v) (λi h=>fZ h it (.int (sl i:Nat) 0) i a es.size ep/\h.get? a=some o) where
 sub:=λb hb=>by rw [Rk] at hb;simp [hb]
 frame:=λ_ _ _ st hk=>⟨st.1.at λo e=>hk it Yv o e,hk a Yv o st.2⟩
 item:=λi s Q E hi st hQ=>by
  have hi':i < vs.length:=Yr
  refine K3 st.1 st.2 d1 f1 (λE' Q' q=>nx s i hi' E' Q' st.2 q) λh' it' sb=>?_;exact hQ _ h' s.toks (by simp [hi']) ⟨it',by rw [sb.2 a hne];exact st.2⟩ λb u hb e=>sb.extBut b u (λz=>hb (by simp [z])) e
 done:=λs Q E st hQ=>K5 hh st.1 st.2 d1 f1 (λE' Q' q=>nd s E' Q' st.2 q) λh' he=>hQ h' s.toks λb u hb e=>he b u (λz=>hb (by simp [z])) e
 self:=λ_ _ _ _ st hQ=>CN st.1 hQ
theorem K9(hh:A.handled=none)(it pl:Yz)(hne:a≠it)(hnp:pl≠it)(d1:o.data= .set es ep t)(f1:t.fits es.size=true)(vs:List Yx)(ks:List Nat){ol:Obj}{nl:Nat}(l2:ol.data= .seq (ks.map λ(k:Nat)=>TL (k:Int) 0).toArray nl)
 (hl:ks.length=es.size)(hv:∀i k:Nat,ks[i]?=some k->∃h x,es[k]?=some (h,x)/\vs[i]?=some x):
 Walks P w A it [it,a,pl] [it] es.size (λi v=>vs[i]?=some v) (λi h=>fZ h it (.ref pl) i a es.size ep/\h.get? a=some o/\h.get? pl=some ol) where
 sub:=λb hb=>by rw [Rk] at hb;simp [hb]
 frame:=λ_ _ _ st hk=>⟨st.1.at λo e=>hk it Yv o e,hk a Yv o st.2.1,hk pl Yv ol st.2.2⟩
 item:=λi s Q E hi st hQ=>by
  have hi':i < ks.length:=Yr
  obtain⟨h,x,e1,e2⟩:=hv i ks[i] (by simp [hi']);refine K4 st.1 st.2.1 d1 f1 st.2.2 l2 (k:=ks[i]) (by simp [hi']) e1 λh' it' sb=>?_;exact hQ _ h' s.toks e2 ⟨it',by rw [sb.2 a hne];exact st.2.1,by rw [sb.2 pl hnp];exact st.2.2⟩ λb u hb e=>sb.extBut b u (λz=>hb (by simp [z])) e
 done:=λs Q E st hQ=>K6 hh st.1 st.2.1 d1 f1 st.2.2 l2 (by simp [hl]) λh' he=>hQ h' s.toks λb u hb e=>he b u (λz=>hb (by simp [z])) e
 self:=λ_ _ _ _ st hQ=>CN st.1 hQ
end
section
variable {P:YI} {w:YJ} {A:YN} {E:Yx->YA->Prop} {s:YA} {a:Yz}
theorem La{Q:Bool->YA->Prop}(hT:s.TypeIs (.ref a) "set")(h:Q false s):YC (YE P w) A (VV (.ref a)) Q E s:=by
 unfold VV;refine Yy (wpAny_specialOf hT PySem.F.slot_set_len.lookup ?_);generalize hid:("set.__len__":String)=id0
 wp_delta
 rw [show splitId id0=some ("set","__len__") from by subst hid;decide+kernel];subst hid;refine Yy (ZO (T:="set") (b:=true) hT (by rw [isSubtype_type];kernel_rfl) ?_);refine ZY (λz=>absurd z Yq) (λ_=>?_);refine ZY (λ_=>?_) (λz=>absurd Yp z);exact Yy (ZV hT (YB h))
end
theorem ag.drw{X:Cx}{aac:List (Yz×Obj)}{σ:List (Option V)}{H:Hp}{s:YA}{d:Drawn}(I:ag X aac σ H s):ag X aac σ H {s with drawn:=d}:=⟨I.ok,I.os,I.bare,I.base,I.loc,I.cell,I.free,I.freeC,I.pin,I.hok,I.len⟩
theorem Lb:YX "set"=some (.type "set"):=Yp
section
variable {X:Cx} {H0:Hp} {O0:Ex}
def kU(i:Nat)(t:DA):DS:=λE δ=>∃ds,δ[i]?=some (some (.o ds))/\t δ λes=>ds.length+es.length<=YH/\E.nx (δ.set i (some (.o (ds++es))))
theorem sY{i:Nat}{o e:YF}{t:DA}{apos cpos pos:Pos}(ho:PE X o (cK i))(he:FE X H0 O0 e t)(hbase:Y4 o "extend" X.env (eval o X.env)=eval o X.env:=by rfl)
 (hfew:((YR cpos (YD [e] X.env)).all (λx=>!x.1) && (Zk cpos (Y6 [] X.env)).all (λx=>x.1.isSome) && decide ([e].length+([]:List Zj).length+(if ([]:List Zj).isEmpty then 0 else 1) < 30))=true:=by rfl)
 (hline:(apos.endLine==cpos.line)=true:=by rfl)(hst:YD [e] X.env=(false,eval e X.env)::YD [] X.env:=by rfl)(hplain:(YR cpos (YD [] X.env)).any (·.1)=false:=by rfl)
 (hs:YS (.Call (.Attribute o "extend" apos) [e] [] cpos) none pos.line X.env=pure false:=by rfl):PS X (.Expr (.Call (.Attribute o "extend" apos) [e] [] cpos) pos) (bf X.K H0 O0 (kU i t)):=
 (qh (sf UJ Vm Wu IV ho (bw he b5 hst) hbase hfew hline hst hplain) hs).imp λD σ H uu95=>by
  obtain⟨O,δ,E,w,⟨ds,e,q⟩,k1,k2,k3,k4⟩:=uu95;obtain⟨l,vs,h,a,b,c,r⟩:=w.own e;refine⟨_,h,.inl ⟨rfl,_,bo.of c⟩,O,δ,_,w,q,λes ws p H1 q1 s1 hp r1=>?_⟩;have hl:H1 l=some (.lst vs):=s1 _ _ c;have np:l≠p:=λz=>by rw [z,hp] at hl;cases hl
  have S2:au H1 (ah H1 p (.lst ws)):=au.new hp;refine⟨l,p,vs,ws,rfl,rfl,by rw [az np];exact hl,bq,by rw [r.length,r1.length];exact q1.1,?_⟩;exact k1 _ _ _ _ q1.2 (((w.mono s1).mono S2).putO (vs:=vs) e h (((r.mono s1).mono S2).append (r1.mono S2))) ⟨λb' o' z n=>by rw [az (λy=>n (by rw [y];exact a))];exact S2 _ _ (s1 _ _ z),λ_ _ n=>n⟩
end
theorem CQ:∀{ns:List Int}{us:List Yx},aI (ns.map V.int) us->YZ us ns
 | [],_,r=>by rw [RW] at r;cases r;exact .nil
 | n::ns,_,r=>by
  rw [Q0] at r;cases r with
  | cons r1 r2=>obtain⟨t,rfl⟩:=r1;exact .cons n t (CQ r2)
theorem ai.intsL{K:QV}{H:Hp}{O:Ex}:∀{ns:List Int}{vs:List V},ai K H O vs (ns.map Rv)->vs=ns.map V.int
 | [],_,r=>by rw [RW] at r;cases r;rfl
 | b::bs,_,r=>by
  rw [Q0] at r;cases r with
  | cons h r=>cases h;rw [Q0,ai.intsL r]
theorem Wd.frzK{K:QV}{H0 H:Hp}{O0 O:Ex}{σ:St}{δ:Dl}(w:Wd K H0 O0 H O σ δ){i:Nat}{l:Yz}{y0:Sl}(e:δ[i]?=some (some y0))(ho:y0.own)(h:σ[i]?=some (some (.ref l)))(u:HO):
 ∃O',Wd K H0 O0 (ah H l u) O' σ (δ.set i none)/\aH H (ah H l u) O O'/\¬O' l:=by
 obtain⟨l',x1,a,b⟩:=w.adr e ho;rw [h] at x1;cases x1;have l0:H0 l=none:=(w.new l a).resolve_left b;have S:aH H (ah H l u) O (λx=>O x/\x≠l):=⟨λc q z n=>by rw [az (λy=>n (by rw [y];exact a))];exact z,λ_ _ n z=>n z.1⟩;have li:i < δ.length:=(Q7.mp e).1;have ne:∀{j:Nat}{y:Sl},(δ.set i none)[j]?=some (some y)->j≠i:=λ{j y} q z=>by
  subst z;rw [Ry li] at q;cases q
 refine⟨_,⟨λc q z=>?_,λx z=>⟨w.sub x z,λy=>b (by rw [<-y];exact z)⟩,λx z=>w.new x z.1,λx z=>by rw [az z.2];exact w.trk x z.1,by simp [w.len],λj y q=>?_,λj k y z l' e1 y1 e2 z2 e3 e4=>?_⟩,S,λz=>z.2 rfl⟩
 ·have:c≠l:=λy=>by rw [y,l0] at z;cases z
  rw [az this];exact w.same c q z
 ·by_cases hj:j=i
  ·subst hj;rw [Ry li] at q;cases q;exact Tr
  ·rw [Rg (Ne.symm hj)] at q;refine(w.sl j y q).go S (λb o ho' e' a1 a2 a3=>?_) (λb o u a1 a2 a3=>by have nb:b≠l:=λz=>w.nofrz e ho h o u (by rw [<-z];exact a3);exact⟨⟨a1,nb⟩,by rw [az nb];exact a3⟩) λc o a1 a3=>by rw [az (λz=>b (by rw [<-z];exact a1))];exact a3
   have nb:b≠l:=λz=>by
    subst z
    match y,ho',q with
    | some z,ho',q=>exact hj (w.dis j i z y0 _ q (by cases z <;> first | trivial | cases ho') e ho (fA e') h)
   exact⟨⟨a1,nb⟩,by rw [az nb];exact a3⟩
 ·have n1:=ne e1;have n2:=ne e2;rw [Rg (Ne.symm n1)] at e1;rw [Rg (Ne.symm n2)] at e2;exact w.dis j k _ _ l' e1 y1 e2 z2 e3 e4
section
variable {X:Cx} {H0:Hp} {O0:Ex}
theorem nc{N':List Str}{k:Nat}{fr:List Nat}{scope:Za}{iter elt tg:YF}{ifs:List YF}{t te:DT}{tc:DB}{g:TG}{dg:DG}{pos:Pos}(hc:X.calm=true)(S:bb X.env.scope X.N N' k fr scope)(hi:DF X H0 O0 iter t)(gd:GD X.K g dg)(hk:j1 g k)(hfr:fr.Nodup)
 (hg:∀fp C s H,PG (bF X scope N' fp C s H) tg g)(hf:∀fp C s H,fy (bF X scope N' fp C s H) ifs (bT X.K H0 O0 tc))(he:∀fp C s H,PE (bF X scope N' fp C s H) elt (up X.K H0 O0 te))
 (hs:∀x,YO iter X.env x=pure x:=by intro _;rfl):PU X (.ListComp elt [⟨tg,iter,ifs,0⟩] scope pos) (nV X.K H0 O0 (iJ t dg tc te k fr)):=
 (vJ hc S (uT hi) hg hf he hs).imp λσ H Q uu96=>by obtain⟨O,δ,Qd,w,q,kk⟩:=uu96;exact⟨O,δ,_,w,q,λd v H1 uu0 s1 r1=>by
  obtain⟨xs,e,hz,q1⟩:=uu0;subst e;obtain⟨a,vs,rfl,hq,rr⟩:=r1.tup;refine⟨a,rfl,⟨_,hq⟩,λD hD=>pj (cV.tup hq) gd hfr (λv _ H' R h=>hk fr σ v H' R h) (λ_ _ _ z=>z) (λ_ _ _ z=>z) (λD H' hD s' o e=>s' _ _ e (dZ e hD)) rr (w.mono s1) (by rw [rr.length];exact hz) q1 (λds us p H' z s' hp r'=>kk ds us p H' z (s1.trans s') hp r') D hD⟩⟩
end
structure px (n:Nat) (lt:Nat->Nat->Bool) (I:YA->Prop) (cmp:Nat->Nat->(Bool->YA->Prop)->YA->Prop):Prop where
 as:∀i j C s,i < n->j < n->i≠j->I s->(∀s',I s'->C (lt i j) s')->cmp i j C s
structure jt (n:Nat) (lt:Nat->Nat->Bool):Prop where
 tot:∀i j,i < n->j < n->i≠j->lt i j=!lt j i
 tr:∀i j k,i < n->j < n->k < n->lt i j=true->lt j k=true->lt i k=true
structure bS (n:Nat) (p:Array Nat):Prop where
 perm:p.toList.Perm (SO n)
theorem bS.size{n:Nat}{p:Array Nat}(h:bS n p):p.size=n:=by rw [<-RE,h.perm.length_eq,UY]
theorem bS.lt{n:Nat}{p:Array Nat}(h:bS n p){k:Nat}(hk:k < n):p.getD k 0 < n:=by
 have hs:=h.size;have e:p.getD k 0=p[k]'Yr:=by simp [Ux,show k < p.size by omega]
 rw [e];have:=h.perm.mem_iff.mp (WX.mpr (Array.getElem_mem (show k < p.size by omega)));simpa using this
theorem bS.ne{n:Nat}{p:Array Nat}(h:bS n p){i j:Nat}(hi:i < n)(hj:j < n)(hij:i≠j):p.getD i 0≠p.getD j 0:=by
 have hs:=h.size;have nd:p.toList.Nodup:=h.perm.nodup_iff.mpr List.nodup_range;have ei:p.getD i 0=p.toList[i]'(by simp;omega):=by simp [Ux,show i < p.size by omega]
 have ej:p.getD j 0=p.toList[j]'(by simp;omega):=by simp [Ux,show j < p.size by omega]
 rw [ei,ej];intro e;exact hij ((VB nd).mp e)
theorem bS.bubble{n:Nat}{p:Array Nat}(h:bS n p)(a d:Nat):bS n (VQ p a d):=⟨(V7.mp (bubble_perm p a d)).trans h.perm⟩
theorem bS.rev{n:Nat}{p:Array Nat}(h:bS n p)(i j:Nat):bS n (kas_rev p i j):=⟨(V7.mp (mirror_perm p i j _)).trans h.perm⟩
theorem vU(n:Nat):bS n (Xh (SO n)):=⟨Yv⟩
def Up(lt:Nat->Nat->Bool)(p:Array Nat)(k:Nat):Prop:=∀i j,i < j->j < k->lt (p.getD i 0) (p.getD j 0)=true
section
variable {n:Nat} {lt:Nat->Nat->Bool} {I:YA->Prop} {cmp:Nat->Nat->(Bool->YA->Prop)->YA->Prop}
theorem Up.snoc(T:jt n lt){p:Array Nat}(hp:bS n p){k:Nat}(hk:k < n)(h:Up lt p k)(h0:0 < k)(hl:lt (p.getD (k - 1) 0) (p.getD k 0)=true):Up lt p (k+1):=by
 intro i j hij hj;rcases Tf j k with z | z
 ·exact h i j hij z
 ·have:j=k:=Yr
  subst this;rcases Tf i (j - 1) with w | w
  ·exact T.tr _ _ _ (hp.lt Yr) (hp.lt Yr) (hp.lt hk) (h i (j - 1) w Yr) hl
  ·have:i=j - 1:=Yr
   subst this;exact hl
theorem vV(A:px n lt I cmp)(T:jt n lt){p:Array Nat}(hp:bS n p){Q:Nat->YA->Prop}:∀(f m:Nat)(s:YA),1<=m->m+f=n->Up lt p m->I s->
 (∀k s',I s'->m<=k->k<=n->Up lt p k->(k < n->lt (p.getD k 0) (p.getD (k - 1) 0)=true)->Q k s')->(kas_asc p f m).kasWp cmp Q s
 | 0,m,s,h1,hf,hu,hI,q=>q m s hI (QY _) Yr hu (λz=>by omega)
 | f+1,m,s,h1,hf,hu,hI,q=>by
  have hm:m < n:=Yr
  refine A.as _ _ _ s (hp.lt hm) (hp.lt Yr) (hp.ne hm Yr Yr) hI λs' hI'=>?_;cases hc:lt (p.getD m 0) (p.getD (m - 1) 0) with
  | true=>
   dsimp only;rw [Yt rfl];exact q m s' hI' (QY _) Yr hu (λ_=>hc)
  | false=>
   dsimp only;rw [Ys Yv];have hl:lt (p.getD (m - 1) 0) (p.getD m 0)=true:=by rw [T.tot _ _ (hp.lt Yr) (hp.lt hm) (hp.ne Yr hm Yr),hc];rfl
   exact vV A T hp f (m+1) s' Yr Yr (hu.snoc T hp hm Yr hl) hI' λk s2 a b c d e=>q k s2 a Yr c d e
def Dn(lt:Nat->Nat->Bool)(p:Array Nat)(k:Nat):Prop:=∀i j,i < j->j < k->lt (p.getD j 0) (p.getD i 0)=true
theorem Dn.snoc(T:jt n lt){p:Array Nat}(hp:bS n p){k:Nat}(hk:k < n)(h:Dn lt p k)(h0:0 < k)(hl:lt (p.getD k 0) (p.getD (k - 1) 0)=true):Dn lt p (k+1):=by
 intro i j hij hj;rcases Tf j k with z | z
 ·exact h i j hij z
 ·have:j=k:=Yr
  subst this;rcases Tf i (j - 1) with w | w
  ·exact T.tr _ _ _ (hp.lt hk) (hp.lt Yr) (hp.lt Yr) hl (h i (j - 1) w Yr)
  ·have:i=j - 1:=Yr
   subst this;exact hl
theorem CS(A:px n lt I cmp)(T:jt n lt){p:Array Nat}(hp:bS n p){Q:Array Nat×Nat×Nat->YA->Prop}:∀(f m:Nat)(s:YA),1<=m->m+f=n->Dn lt p m->I s->
 (∀k s',I s'->m<=k->k<=n->Dn lt p k->Q (p,k,0) s')->(kas_desc f p m 0).kasWp cmp Q s
 | 0,m,s,h1,hf,hu,hI,q=>q m s hI (QY _) Yr hu
 | f+1,m,s,h1,hf,hu,hI,q=>by
  have hm:m < n:=Yr
  refine A.as _ _ _ s (hp.lt hm) (hp.lt Yr) (hp.ne hm Yr Yr) hI λs' hI'=>?_;cases hc:lt (p.getD m 0) (p.getD (m - 1) 0) with
  | true=>
   dsimp only;rw [Yt rfl,Ys Yv];exact CS A T hp f (m+1) s' Yr Yr (hu.snoc T hp hm Yr hc) hI' λk s2 a b c d=>q k s2 a Yr c d
  | false=>
   dsimp only;rw [Ys Yv];refine A.as _ _ _ s' (hp.lt Yr) (hp.lt hm) (hp.ne Yr hm Yr) hI' λs2 hI2=>?_;have hl:lt (p.getD (m - 1) 0) (p.getD m 0)=true:=by rw [T.tot _ _ (hp.lt Yr) (hp.lt hm) (hp.ne Yr hm Yr),hc];rfl
   rw [hl];dsimp only;rw [Yt rfl];exact q m s2 hI2 (QY _) Yr hu
theorem CT{p:Array Nat}{j k:Nat}(hj:j<=p.size):(kas_rev p 0 j).getD k 0=if k < j then p.getD (j - 1 - k) 0 else p.getD k 0:=by
 have:=getElem?_mirror_all (xs:=p) (i:=0) (j:=j) hj k;unfold kas_rev;rw [SG,this];by_cases h:k < j
 ·simp [h,SG]
 ·simp [h,SG]
theorem Dn.rev{p:Array Nat}(hp:bS n p){k:Nat}(hk:k<=n)(h:Dn lt p k):Up lt (kas_rev p 0 k) k:=by
 intro i j hij hj;have hs:=hp.size;rw [CT Yr,CT Yr,Yt Yr,Yt hj];exact h _ _ Yr Yr
theorem Lc(A:px n lt I cmp)(T:jt n lt)(h2:2<=n){p:Array Nat}(hp:bS n p){Q:Nat×Array Nat->YA->Prop}{s:YA}(hI:I s)
 (q:∀k p' s',I s'->1<=k->k<=n->bS n p'->Up lt p' k->Q (k,p') s'):(kas_count n p).kasWp cmp Q s:=by
 unfold kas_count;rw [Vf];refine vV A T hp (n - 1) 1 s (QY _) Yr (λi j a b=>by omega) hI λm s1 hI1 m1 m2 hu hs=>?_;by_cases hm:m=n
 ·subst hm;rw [Yt Yv];exact q m p s1 hI1 m1 (QY _) hp hu
 ·rw [Ys (by simpa using hm)];by_cases hm1:m > 1
  ·rw [Yt hm1];refine A.as _ _ _ s1 (hp.lt Yr) (hp.lt Yr) (hp.ne Yr Yr Yr) hI1 λs2 hI2=>?_;rw [hu 0 (m - 1) Yr Yr];dsimp only;rw [Yt rfl];exact q m p s2 hI2 m1 Yr hp hu
  ·rw [Ys hm1];have:m=1:=Yr
   subst this;have h10:=hs Yr;unfold kas_descPart;rw [Vf];refine CS A T hp (n - (1+1)) (1+1) s1 Yr Yr (λi j a b=>?_) hI1 λk s2 hI2 k1 k2 hd=>?_
   ·have:i=0:=Yr
    have:j=1:=Yr
    subst_vars
    exact h10
   ·rw [Ys Yv];unfold kas_tail3;rw [Vf];have hp':=hp.rev 0 k;refine vV A T hp' (n - k) k s2 Yr Yr (hd.rev hp k2) hI2 λm s3 hI3 a b c d=>?_;exact q m _ s3 hI3 Yr b hp' c
theorem vW(A:px n lt I cmp)(T:jt n lt){p:Array Nat}(hp:bS n p){k:Nat}(hk:k < n)(hu:Up lt p k){Q:Nat->YA->Prop}:∀(f l r:Nat)(s:YA),r - l<=f->l<=r->r<=k->I s->
 (∀i,i < l->lt (p.getD i 0) (p.getD k 0)=true)->(∀i,r<=i->i < k->lt (p.getD k 0) (p.getD i 0)=true)->
 (∀l s',I s'->l<=k->(∀i,i < l->lt (p.getD i 0) (p.getD k 0)=true)->(∀i,l<=i->i < k->lt (p.getD k 0) (p.getD i 0)=true)->Q l s')->(kas_place p k f l r).kasWp cmp Q s
 | 0,l,r,s,hf,hlr,hrk,hI,h1,h2,q=>q l s hI Yr h1 (λi a b=>h2 i Yr b)
 | f+1,l,r,s,hf,hlr,hrk,hI,h1,h2,q=>by
  unfold kas_place;by_cases hge:l >= r
  ·rw [Yt hge];exact q l s hI Yr h1 (λi a b=>h2 i Yr b)
  ·rw [Ys hge];have hm:(l+r)/ 2 < k:=Yr
   refine A.as _ _ _ s (hp.lt hk) (hp.lt Yr) (hp.ne hk Yr Yr) hI λs' hI'=>?_;cases hc:lt (p.getD k 0) (p.getD ((l+r)/ 2) 0) with
   | true=>
    dsimp only;rw [Yt rfl];refine vW A T hp hk hu f l ((l+r)/ 2) s' Yr Yr Yr hI' h1 (λi a b=>?_) q;rcases Tf ((l+r)/ 2) i with z | z
    ·exact T.tr _ _ _ (hp.lt hk) (hp.lt Yr) (hp.lt Yr) hc (hu _ _ z b)
    ·have:i=(l+r)/ 2:=Yr
     rw [this];exact hc
   | false=>
    dsimp only;rw [Ys Yv];have hl:lt (p.getD ((l+r)/ 2) 0) (p.getD k 0)=true:=by rw [T.tot _ _ (hp.lt Yr) (hp.lt hk) (hp.ne Yr hk Yr),hc];rfl
    refine vW A T hp hk hu f ((l+r)/ 2+1) r s' Yr Yr hrk hI' (λi a=>?_) h2 q;rcases Tf i ((l+r)/ 2) with z | z
    ·exact T.tr _ _ _ (hp.lt Yr) (hp.lt Yr) (hp.lt hk) (hu _ _ z hm) hl
    ·have:i=(l+r)/ 2:=Yr
     rw [this];exact hl
theorem CU{p:Array Nat}{k d i:Nat}(hk:k < p.size)(hd:d<=k):(VQ p k d).getD i 0=if i=k - d then p.getD k 0 else if k - d < i/\i<=k then p.getD (i - 1) 0 else p.getD i 0:=by
 rw [SG,getElem?_bubble hk d hd i];by_cases h1:i=k - d
 ·rw [Yt h1,Yt h1,SG]
 ·rw [Ys h1,Ys h1];by_cases h2:k - d < i/\i<=k
  ·rw [Yt h2,Yt h2,SG]
  ·rw [Ys h2,Ys h2,SG]
theorem Up.ins(T:jt n lt){p:Array Nat}(hp:bS n p){k l:Nat}(hk:k < n)(hu:Up lt p k)(hl:l<=k)(h1:∀i,i < l->lt (p.getD i 0) (p.getD k 0)=true)(h2:∀i,l<=i->i < k->lt (p.getD k 0) (p.getD i 0)=true):Up lt (VQ p k (k - l)) (k+1):=by
 have hs:=hp.size;intro i j hij hj;rw [CU Yr Yr,CU Yr Yr];have e:k - (k - l)=l:=Yr
 rw [e];clear hs e hk;by_cases hi:i=l
 ·rw [Yt hi,Ys Yr,Yt Yr];exact h2 _ Yr Yr
 ·rw [Ys hi];by_cases hi2:l < i/\i<=k
  ·rw [Yt hi2,Ys Yr,Yt Yr];exact hu _ _ Yr Yr
  ·rw [Ys hi2];by_cases hj1:j=l
   ·rw [Yt hj1];exact h1 _ Yr
   ·rw [Ys hj1];by_cases hj2:l < j/\j<=k
    ·rw [Yt hj2];exact hu _ _ Yr Yr
    ·rw [Ys hj2];exact hu _ _ hij Yr
theorem CV(A:px n lt I cmp)(T:jt n lt){Q:Array Nat->YA->Prop}:∀(f:Nat)(p:Array Nat)(k:Nat)(s:YA),k+f=n->bS n p->Up lt p k->I s->(∀p' s',I s'->bS n p'->Up lt p' n->Q p' s')->(kas_bin f p k).kasWp cmp Q s
 | 0,p,k,s,hf,hp,hu,hI,q=>q p s hI hp (by rw [show n=k by omega];exact hu)
 | f+1,p,k,s,hf,hp,hu,hI,q=>by
  unfold kas_bin;rw [Vf];have hk:k < n:=Yr
  refine vW A T hp hk hu k 0 k s Yr Yr (QY _) hI (λi z=>by omega) (λi a b=>by omega) λl s' hI' hl h1 h2=>?_;exact CV A T f _ (k+1) s' Yr (hp.bubble _ _) (hu.ins T hp hk hl h1 h2) hI' q
theorem Ld(A:px n lt I cmp)(T:jt n lt)(h2:2<=n){Q:Array Nat->YA->Prop}{s:YA}(hI:I s)(q:∀p s',I s'->bS n p->Up lt p n->Q p s'):(kas_sort n).kasWp cmp Q s:=by
 unfold kas_sort;rw [Vf];refine Lc A T h2 (vU n) hI λk p s1 hI1 k1 k2 hp hu=>?_;dsimp only;by_cases hk:k < n
 ·rw [Yt hk,show max k 1=k by omega];exact CV A T (n - k) p k s1 Yr hp hu hI1 q
 ·rw [Ys hk];exact q p s1 hI1 hp (by rw [show n=k by omega];exact hu)
end
def aY(p q:Int×Str):Bool:=decide (p.1 < q.1) || (decide (p.1=q.1) && decide (p.2.cps.toList < q.2.cps.toList))
def iN(h:YK)(v:Yx)(p:Int×Str):Prop:=∃a o n t u,v= .ref a/\h.get? a=some o/\o.cls= .type "tuple"/\o.data= .seq #[.int p.1 t,.str p.2 u] n
section
variable {P:YI} {w:YJ} {A:YN} {E:Yx->YA->Prop} {s:YA}
theorem Le{v u:Yx}{p q:Int×Str}{Q:Bool->YA->Prop}(hv:iN s.heap v p)(hu:iN s.heap u q)(h:Q (aY p q) s):YC (YE P w) A (keyLt' (tuples' true) v u) Q E s:=by
 obtain⟨a,oa,na,t1,t2,rfl,ha,_,da⟩:=hv;obtain⟨b,ob,nb,t3,t4,rfl,hb,_,db⟩:=hu;refine kat_lt ha da hb db (kat_cons ((ZG P w).eqBool (intKind_is _ _ _ _) (intKind_is _ _ _ _) (kat_go (λe1=>?_) λe1=>?_)))
 ·have e1:p.1=q.1:=by simpa using e1
  refine kat_yes (kat_cons ((PySem.strKind P w).eqBool (strKind_is _ _ _ _) (strKind_is _ _ _ _) (kat_go (λe2=>?_) λe2=>?_)))
  ·have e2:p.2=q.2:=by simpa using e2
   refine kat_yes (kat_nil ?_);have:aY p q=false:=by unfold aY;rw [e1,e2];simp
   rw [this] at h;simpa using h
  ·have e2:p.2≠q.2:=by simpa using e2
   refine kat_no (kat_one _ _ ?_);have:aY p q=decide (p.2.cps.toList < q.2.cps.toList):=by unfold aY;simp [e1]
   rw [this] at h;exact lt_str h
 ·have e1:p.1≠q.1:=by simpa using e1
  refine kat_no ?_;show YC _ _ (oneLt' true _ _) _ _ _;refine oneLt_int ?_;have:aY p q=decide (p.1 < q.1):=by unfold aY;simp [e1]
  rw [this] at h;exact h
theorem CW{n:Nat}{kp:Nat->Int×Str}(hd:∀i j,i < n->j < n->kp i=kp j->i=j):jt n λi j=>aY (kp i) (kp j):=by
 have tl:∀a b:Str,a≠b->(decide (a.cps.toList < b.cps.toList))=!decide (b.cps.toList < a.cps.toList):=λa b h=>by
  by_cases z:a.cps.toList < b.cps.toList
  ·rw [decide_eq_true z,decide_eq_false (List.lt_asymm z)];rfl
  ·have z2:b.cps.toList<=a.cps.toList:=Xy.mp z;have:b.cps.toList < a.cps.toList:=by
    rcases Classical.em (b.cps.toList < a.cps.toList) with y | y
    ·exact y
    ·exact absurd (Cn (XC (Xy.mp y) z2)) h
   rw [decide_eq_false z,decide_eq_true this];rfl
 refine⟨λi j hi hj hij=>?_,λi j k hi hj hk h1 h2=>?_⟩
 ·have hne:kp i≠kp j:=λe=>hij (hd i j hi hj e);unfold aY;by_cases e:(kp i).1=(kp j).1
  ·have e2:(kp i).2≠(kp j).2:=λz=>hne (Prod.ext e z);simp only [e,Int.lt_irrefl,decide_false,S6,decide_true,SA];exact tl _ _ e2
  ·have e':(kp j).1≠(kp i).1:=λz=>e z.symm;simp only [e,e',decide_false,U1,Tq];by_cases z:(kp i).1 < (kp j).1
   ·rw [decide_eq_true z,decide_eq_false Yr];rfl
   ·rw [decide_eq_false z,decide_eq_true Yr];rfl
 ·unfold aY at h1 h2⊢;simp only [Vg,R5,decide_eq_true_eq] at h1 h2⊢;rcases h1 with h1 | ⟨h1,h1'⟩ <;> rcases h2 with h2 | ⟨h2,h2'⟩
  ·left;omega
  ·left;omega
  ·left;omega
  ·right;exact⟨h1.trans h2,X3 h1' h2'⟩
theorem CY{ks:List Yx}{kp:Nat->Int×Str}(hk:∀i v,ks[i]?=some v->iN s.heap v (kp i))(h2:2<=ks.length){Q:SortKind->YA->Prop}(h:Q (tuples' true) s):YC (YE P w) A (keyKind' ks.toArray) Q E s:=by
 have key:∀(ks:List Yx)(kp:Nat->Int×Str),(∀i v,ks[i]?=some v->iN s.heap v (kp i))->∃fs:List Yx,KatTups s.heap ks fs/\fs.length=ks.length/\∀v∈fs,∃n t,v=TL n t:=by
  intro ks
  induction ks with
  | nil=>intro kp _;exact⟨[],KatTups.nil,rfl,Yv⟩
  | cons v ks ih=>
   intro kp hk;obtain⟨fs,a,b,c⟩:=ih (λi=>kp (i+1)) λi v e=>hk (i+1) v (by simpa using e);obtain⟨ad,o,n,t,u,rfl,h1,h2,h3⟩:=hk 0 v rfl;refine⟨.int (kp 0).1 t::fs,KatTups.cons h1 h2 h3 rfl a,by simp [b],λx hx=>?_⟩;rcases Q4.mp hx with rfl | hx
   ·exact⟨_,_,rfl⟩
   ·exact c x hx
 obtain⟨fs,a,b,c⟩:=key ks kp hk;refine kat_kind (T:= .type "int") a Yr (λv hv=>?_) Yq h;obtain⟨n,t,rfl⟩:=c v hv;exact .now
theorem CZ{n:Nat}{ks:List Yx}{kp:Nat->Int×Str}(hn:ks.length=n)(h2:2<=n)(hk:∀i v,ks[i]?=some v->iN s.heap v (kp i))(hd:∀i j,i < n->j < n->kp i=kp j->i=j){G:Array Nat->YA->Prop}
 (q:∀p,bS n p->Up (λi j=>aY (kp i) (kp j)) p n->G p s):(kas_sort n).kasWp (kas_ask P w A (tuples' true) ks) G s:=by
 refine Ld (lt:=λi j=>aY (kp i) (kp j)) (I:=λs'=>s'=s) ⟨λi j C s' hi hj hij e c=>?_⟩ (CW hd) h2 rfl λp s' e hp hu=>by subst e;exact q p hp hu
 subst e;have ei:ks[i]?=some (ks.getD i .none):=by simp [show i < ks.length by omega]
 have ej:ks[j]?=some (ks.getD j .none):=by simp [show j < ks.length by omega]
 exact Le (hk i _ ei) (hk j _ ej) (c _ rfl)
def C0(kS D:Yz)(s:YA)(out:List Yx)(C:YA->Prop):Prop:=∀h' c,h'.get? D=some (YQ "list" out.toArray c)->(∀b u,b≠kS->b≠D->s.heap.get? b=some u->h'.get? b=some u)->C {s with heap:=h'}
theorem C1{st:SortSt}{kS D:Yz}{ks out:List Yx}{e e1:Nat}{C:Xi->YA->Prop}(hk:s.heap.get? kS=some (YQ "list" ks.toArray e))(hD:s.heap.get? D=some (YQ "list" #[] e1))(hne:kS≠D)(hf:failedOf st=none)
 (ho:(arrOf st).map (·.2)=out.toArray)(h64:out.length < 64)(hk64:ks.length < 64)(q:C0 kS D s out (C (.done (.ret .none)))):YC (YE P w) A (ksk_tail D false e1 (.ref kS) st) C E s:=by
 have hsl:YH=16777216:=Y1;unfold ksk_tail;rw [ho];refine Yy (ZA hk rfl (Yy (wpAny_letGo ?_)) (by rw [Rc];omega) (RL _));have u1:=RV s.heap kS (So λ_=>(#[]:Array Yx));have hD1:(s.heap.update kS (So λ_=>(#[]:Array Yx))).get? D=some (YQ "list" #[] e1):=(u1.2 D (Ne.symm hne)).trans hD;refine Yy (seqEpoch_at (s:={s with heap:=s.heap.update kS (So λ_=>(#[]:Array Yx))}) hD1 rfl ?_);rw [Ys Yv];refine Yy (ZA (s:={s with heap:=s.heap.update kS (So λ_=>(#[]:Array Yx))}) hD1 rfl ?_ (RL _) (by show out.toArray.size<=_;rw [Rc];omega));have u2:=RV (s.heap.update kS (So λ_=>(#[]:Array Yx))) D (So λ_=>out.toArray);rw [hf];simp only [bne_self_eq_false,Sg,if_false];exact YB (q _ _ (ZE hD1 λ_=>out.toArray) λb u n1 n2 z=>(u2.2 b n2).trans ((u1.2 b n1).trans z))
theorem Lf{kS D:Yz}{vs ks:List Yx}{n e e1:Nat}{kp:Nat->Int×Str}{C:Xi->YA->Prop}(hv:vs.length=n)(hn:ks.length=n)(h64:n < 64)(hks:s.heap.get? kS=some (YQ "list" ks.toArray e))(hD:s.heap.get? D=some (YQ "list" #[] e1))(hne:kS≠D)
 (hk:∀i v,ks[i]?=some v->iN s.heap v (kp i))(hd:∀i j,i < n->j < n->kp i=kp j->i=j)
 (q:∀p,bS n p->Up (λi j=>aY (kp i) (kp j)) p n->C0 kS D s (p.toList.map λi=>vs.getD i .none) (C (.done (.ret .none)))):YC (YE P w) A (ksk_end D false vs.toArray e1 (.ref kS) ks.toArray) C E s:=by
 unfold ksk_end;have hz:vs.toArray.size=n:=by rw [Rc];exact hv
 by_cases h2:n < 2
 ·simp only [Sg,if_false,hz,h2,if_true];refine Yy (YB (Yy (YB ?_)));refine C1 hks hD hne rfl (out:=vs) ?_ Yr Yr ?_
  ·show(ks.toArray.zip vs.toArray).map (·.2)=vs.toArray;apply Wv.mp;simp only [XD,XE];rw [XF Yr]
  ·have:=q _ (vU n) (λi j a b=>by omega);have e:((Xh (SO n)).toList.map λi=>vs.getD i SS)=vs:=by
    apply UD (by simp [hv]);intro i a b;simp at a b⊢;rw [RF b];rfl
   rw [e] at this;exact this
 ·simp only [Sg,if_false,hz,h2];refine Yy (CY hk Yr ?_);have hl:ks.length=vs.length:=Yr
  refine Yy (YY (kat_run (κ:=tuples' true) (E:=λ_ _=>False) (Q:=λst' s'=>s'=s/\∃p,bS n p/\Up (λi j=>aY (kp i) (kp j)) p n/\arrOf st'=p.map (kas_item (ks.toArray.zip vs.toArray))/\failedOf st'=none) (G:=λp s'=>s'=s/\bS n p/\Up (λi j=>aY (kp i) (kp j)) p n) hl Yr Yr
   (λp st' s' a b c d=>⟨d.1,p,d.2.1,d.2.2,b,c⟩) ?_) (λr s' hr=>?_) λ_ _ x=>x.elim)
  ·rw [hv];exact CZ hn Yr hk hd λp a b=>⟨rfl,a,b⟩
  ·obtain⟨rfl,p,p1,p2,p3,p4⟩:=hr;refine C1 hks hD hne p4 (kat_snds hl p3) ?_ Yr (q p p1 p2);rw [QW,RE,p1.size];exact h64
end
section
variable {X:Cx} {aac:List (Yz×Obj)} {σ:St} {H:Hp} {s:YA}
theorem ag.track{o:HO}{D:Yz}{ch:List Yz}{t':Nat}{h':YK}(I:ag X aac σ H s)(hD:D∈ch)(f:∀b∈ch,iz X aac H b)(k:∀b u,b ∉ ch->s.heap.get? b=some u->h'.get? b=some u)(new:cj X.prog X.w (ah H D o) h' D o):ag X aac σ (ah H D o) {s with heap:=h',toks:=t'}:=by
 have nC:∀b u,H b=some u->b ∉ ch:=λb u e z=>by rw [(f b z).1] at e;cases e
 have nD:∀b u,H b=some u->b≠D:=λb u e z=>nC b u e (by rw [z];exact hD);refine I.step (g':=s.gens) (d':=s.drawn) (ch:=ch) (λb hb=>?_) (λb o _ _ hc e _=>k b o hc e) (λb o _ _ hc e _=>⟨o.slots,k b o hc e⟩) (λb o hc _ n=>by rw [az (λz=>hc (by rw [z];exact hD))];exact n)
  (λb o hc e=>⟨o,k b o hc e⟩) (λb xs e=>by rw [az (nD _ _ e)];exact e) (λb u xs e=>by rw [az (nD _ _ e)];exact e) (λb ps e=>⟨#[],by rw [az (nD _ _ e),e];simp⟩) (λm hm=>hm.at' λo e=>k _ o (λz=>(f _ z).2.1 rfl) e) (λb u e=>?_) I.bare
 ·obtain⟨f0,f1,f2,f3,f4,f5⟩:=f b hb;exact⟨f3,f1,f4,f5⟩
 ·by_cases hb:b=D
  ·subst hb;rw [bq] at e;cases e;exact new
  ·rw [az hb] at e;refine(I.hok b u e).stay (λc v hc q=>k c v (λz=>?_) q) (λc q=>by rw [az (nD _ _ q)];exact q) (λc xs q=>by rw [az (nD _ _ q)];exact q);rcases hc with r | r
   ·subst r;exact nC _ _ e z
   ·exact nC _ _ r z
theorem Lg{k:Nat}{f:Yz}{fd:YG}{ps:List Str}{sp:Sp}{v:V}{u:Yx}{Q:VK}(Fk:aA X.prog X.w X.K X.mg X.base CX0 k f fd ps sp)(hr:bp k X.A.in1.in1)(hb:cT X.K fd ps [])(I:ag X aac σ H s)(r:aJ v u)(h:sp [v] H Q E0):
 YC (YE X.prog X.w) X.A.in1.in1 (call (.ref f) [u]) (EP X aac σ Q) (λ_ _=>False) s:=by
 have r2:aI [v] [u]:= .cons r .nil;have hl:([u]++[]).length=ps.length:=by
  have:=Fk.len _ _ _ _ h;simpa using this
 have hb2:=hb s [u] I.kIn hl;rw [RN] at hb2;refine wpAny_call (Zn (Fk.run X.A.in1.in1 X.stack s H ⟨[u],[]⟩ [u] [v] Q E0 hr I.env0.in1.in1 hb2 r2 h) λr s' hq=>?_);cases r with
 | error e=>exact hq.elim
 | ok fl=>
  cases fl with
  | ret u=>exact I.after hq
  | next=>exact S0 hq
  | brk=>exact S0 hq
  | cont=>exact S0 hq
def nk(X:Cx)(aac:List (Yz×Obj))(b:Yz):Prop:=b≠X.env.locals/\b ∉ X.fs/\(b∈X.ex\/X.s₀.heap.objs.size<=b)/\(∀x c,X.env.cells.lookup x=some c->c≠b)/\∀p∈X.pn++aac,p.1≠b
theorem ag.out(I:ag X aac σ H s){b:Yz}(hb:s.heap.objs.size<=b):nk X aac b:=(I.fpOk (H':=H) hb (I.hok.fresh hb)).2
structure nq (X:Cx) (aac:List (Yz×Obj)) (σ:St) (H:Hp) (O:Ex) (kS D:Yz) (e1:Nat) (kds:List Yw) (ks:List Yx) (s:YA):Prop where
 ex:∃H' kvs e,ag X (aac++[(kS,YQ "list" ks.toArray e),(D,YQ "list" #[] e1)]) σ H' s/\au H H'/\ai X.K H' O kvs kds/\aI kvs ks
theorem nq.push{O:Ex}{kS D:Yz}{e1:Nat}{kds:List Yw}{ks:List Yx}{H':Hp}{kvs:List V}{e:Nat}{h':YK}{kv:V}{kd:Yw}{k:Yx}(oS:nk X aac kS)(oD:nk X aac D)(hne:kS≠D)
 (I:ag X (aac++[(kS,YQ "list" ks.toArray e),(D,YQ "list" #[] e1)]) σ H' s)(hs:au H H')(hk:ai X.K H' O kvs kds)(hv:aI kvs ks)(k1:Dt X.K H' O kv kd)(k2:aJ kv k)
 (hu:∃e',h'.get? kS=some (YQ "list" (ks++[k]).toArray e'))(kept:∀b u,b≠kS->s.heap.get? b=some u->h'.get? b=some u):nq X aac σ H O kS D e1 (kds++[kd]) (ks++[k]) {s with heap:=h'}:=by
 obtain⟨e',hu⟩:=hu;have pS:=I.pin (kS,YQ "list" ks.toArray e) Yv;have pD:=I.pin (D,YQ "list" #[] e1) Yv;have I1:ag X aac σ H' s:=I.pins_of λp hp=>I.pin p (by simp only [Rj] at hp⊢;exact .inr (.inl hp));have I2:ag X aac σ H' {s with heap:=h'}:=I1.turned (t':=s.toks) (it:=kS) kept pS.2.1 oS.1 oS.2.2.1 oS.2.2.2.1 oS.2.2.2.2;refine⟨H',kvs++[kv],e',I2.pins_of λp hp=>?_,hs,hk.append (.cons k1 .nil),hv.append (.cons k2 .nil)⟩;rcases Rj.mp hp with z | z
 ·exact I2.pin p (R0 _ z)
 ·simp only [Q4,Rt,or_false] at z;rcases z with rfl | rfl
  ·exact⟨hu,pS.2.1,oS.1,oS.2.1,λv z=>by cases z⟩
  ·exact⟨kept _ _ (Ne.symm hne) pD.1,pD.2.1,oD.1,oD.2.1,λv z=>by cases z⟩
theorem C3{k:Nat}{f:Yz}{fd:YG}{ps:List Str}{F:List Yw->(Yw->Prop)->Prop}{O:Ex}{kS D:Yz}{e1:Nat}{kd:Yw->Yw}(Fk:aA X.prog X.w X.K X.mg X.base CX0 k f fd ps (aU X.K F))(hr:bp k X.A.in1.in1)(hb:cT X.K fd ps [])(trk:∀l,O l->H l≠none)
 (oS:nk X aac kS)(oD:nk X aac D)(hne:kS≠D){body:Yx->PUnit->Sem (ForInStep PUnit)}{E:Yx->YA->Prop}
 (hbo:∀(x:Yx) (s:YA) (Q':YA->Prop),YC (YE X.prog X.w) X.A.in1.in1 (call (.ref f) [x]) (λk s'=>YC (YE X.prog X.w) X.A.in1.in1 (WD (.ref kS) (·.push k)) (λ_ s''=>Q' s'') (λ_ _=>False) s') (λ_ _=>False) s->YC (YE X.prog X.w) X.A.in1.in1 (body x ⟨⟩) (λr s'=>r= .yield ⟨⟩/\Q' s') E s):
 ∀(r:List Yx)(xr:List V)(dr:List Yw)(kds:List Yw)(ks:List Yx)(s:YA)(Q:YA->Prop),aI xr r->ai X.K H O xr dr->(∀d∈dr,∀R:Yw->Prop,R (kd d)->F [d] R)->nq X aac σ H O kS D e1 kds ks s->ks.length+r.length < 64->
  (∀ks' s',nq X aac σ H O kS D e1 (kds++dr.map kd) ks' s'->ks'.length=ks.length+r.length->Q s')->YC (YE X.prog X.w) X.A.in1.in1 (forIn r PUnit.unit body) (λ_ s'=>Q s') E s
 | [],xr,dr,kds,ks,s,Q,hv,hd,hF,M,hl,q=>by
  cases hv;cases hd;rw [XW];exact YB (q ks s (by rw [RW,RN];exact M) Yv)
 | x::r,xr,dr,kds,ks,s,Q,hv,hd,hF,M,hl,q=>by
  cases hv with
  | @cons v _ xr _ h1 h2=>
   cases hd with
   | @cons _ d _ dr g1 g2=>
    rw [XM];rw [Q8] at hl;obtain⟨H',kvs,e,I,hs,hk,hvk⟩:=M.ex;refine Yy (YY (hbo x s (λs'=>∃k,nq X aac σ H O kS D e1 (kds++[kd d]) (ks++[k]) s') (YY (Lg (Q:=λv2 H2=>au H' H2/\Dt X.K H2 O v2 (kd d)) Fk hr hb I h1 ⟨O,[d],λy=>y=kd d,λl z e=>trk l z (by
     cases q:H l with
     | none=>rfl
     | some u=>rw [hs _ _ q] at e;cases e),.cons (g1.mono hs) .nil,hF d Yv _ rfl,λy v2 H2 e s2 r2=>by subst e;exact⟨s2,r2⟩⟩) (λkk s' hq=>?_) λ_ _ z=>z)) (λr' s' hq=>?_) λ_ _ z=>z)
    ·obtain⟨kv,H2,I2,rk,s2,dk⟩:=hq;have pS:=I2.pin (kS,YQ "list" ks.toArray e) Yv;refine ZA pS.1 rfl ⟨kk,?_⟩ (by rw [Rc];have:YH=16777216:=Y1;omega) (by rw [Array.size_push,Rc];have:YH=16777216:=Y1;omega);have u1:=RV s'.heap kS (So (·.push kk));have gk:=ZE pS.1 (·.push kk);rw [show ks.toArray.push kk=(ks++[kk]).toArray by simp] at gk;exact nq.push oS oD hne I2 (hs.trans s2) (hk.mono s2) hvk dk rk ⟨_,gk⟩ λb u n z=>(u1.2 b n).trans z
    ·obtain⟨rfl,kk,M'⟩:=hq;refine C3 Fk hr hb trk oS oD hne hbo r xr dr (kds++[kd d]) (ks++[kk]) s' Q h2 g2 (λy hy=>hF y (by simp [hy])) M' (by simp;omega) λks' s2 M2 l2=>q ks' s2 ?_ (by rw [l2];simp;omega);rw [Q0,<-List.singleton_append,<-UX];exact M2
def cx(p:Int×Str):Yw:= .tuple [.int p.1,.str p.2]
theorem vX{h:V}{u:Yx}{O:Ex}{p:Int×Str}(I:ag X aac σ H s)(d:Dt X.K H O h (cx p))(r:aJ h u):iN s.heap u p:=by
 obtain⟨a,xs,rfl,hq,hd⟩:=(Sh.dt d).tup;cases r;obtain⟨its,rv,⟨o,e,c,n,dd⟩,_⟩:=I.tuple hq;cases hd with
 | cons g1 g2=>
  cases g2 with
  | cons g2 g3=>
   cases g3;cases g1;cases g2;cases rv with
   | cons r1 r2=>
    cases r2 with
    | cons r2 r3=>
     cases r3;obtain⟨t,rfl⟩:=r1;obtain⟨u,rfl⟩:=r2;exact⟨a,o,n,t,u,rfl,e,c,dd⟩
theorem qO{K:QV}{H:Hp}{O:Ex}:∀{xs:List V}{ds:List Yw}{i:Nat}{d:Yw},ai K H O xs ds->ds[i]?=some d->∃x,xs[i]?=some x/\Dt K H O x d
 | _,_,0,d,.cons h r,e=>by simp at e;subst e;exact⟨_,rfl,h⟩
 | _,_,i+1,d,.cons h r,e=>by simp only [RY] at e⊢;exact qO r e
theorem sZ{xs:List V}{us:List Yx}:∀{i:Nat}{u:Yx},aI xs us->us[i]?=some u->∃x,xs[i]?=some x/\aJ x u:=by
 intro i u h e;have hl:=h.length;have hi:i < us.length:=(Q7.mp e).1;obtain⟨u',e',r⟩:=h.get (show xs[i]?=some (xs[i]'Yr) by simp);rw [e] at e';cases e';exact⟨_,Yv,r⟩
theorem Lh{O:Ex}{kS D:Yz}{e1:Nat}{kps:List (Int×Str)}{ks:List Yx}(M:nq X aac σ H O kS D e1 (kps.map cx) ks s):(∀i v,ks[i]?=some v->iN s.heap v (kps.getD i (0,QU "")))/\ks.length=kps.length:=by
 obtain⟨H',kvs,e,I,hs,hk,hv⟩:=M.ex;have hl:ks.length=kps.length:=by rw [<-hv.length,hk.length,QW]
 refine⟨λi v ei=>?_,hl⟩;have hi:i < kps.length:=by rw [<-hl];exact(Q7.mp ei).1
 obtain⟨x,ex,rx⟩:=sZ hv ei;obtain⟨y,ey,dy⟩:=qO (i:=i) (d:=cx kps[i]) hk (by rw [Q9,RF hi];rfl);rw [ex] at ey;cases ey;have:kps.getD i (0,QU "")=kps[i]:=by simp [hi]
 rw [this];exact vX I dy rx
theorem Li{k:Nat}{f:Yz}{fd:YG}{ps:List Str}{F:List Yw->(Yw->Prop)->Prop}{O:Ex}{D:Yz}{n0:Nat}{kf:Yw->Int×Str}{vs:List Yx}{xs:List V}{ds:List Yw}{Q:V->Hp->Prop}{C:Xi->YA->Prop}{E:Yx->YA->Prop}
 (Fk:aA X.prog X.w X.K X.mg X.base CX0 k f fd ps (aU X.K F))(hr:bp k X.A.in1.in1)(hb:cT X.K fd ps [])(trk:∀l,O l->H l≠none)(I:ag X aac σ H s)(oD:nk X aac D)(hHD:H D=none)(hD:s.heap.get? D=some (YQ "list" vs.toArray n0))
 (hv:aI xs vs)(hd:ai X.K H O xs ds)(hF:∀d∈ds,∀R:Yw->Prop,R (cx (kf d))->F [d] R)(h64:ds.length < 64)(nd:(ds.map kf).Nodup)
 (q:∀(H':Hp) (xs':List V) (ds':List Yw),au H H'->H' D=none->ai X.K H' O xs' ds'->ds'.Perm ds->ds'.Pairwise (λa b=>aY (kf a) (kf b)=true)->Q (.ref D) (ah H' D (.lst xs')))
 (fin:∀s',EP X aac σ Q (.ref D) s'->C (.done (.ret .none)) s'):YC (YE X.prog X.w) X.A.in1.in1 (ksk_tree D (.ref f) false) C E s:=by
 have hsl:YH=16777216:=Y1;have lv:vs.length=ds.length:=by rw [<-hv.length,hd.length]
 have lD:D < s.heap.objs.size:=Rh hD;unfold ksk_tree;refine Yy (listItems_at hD rfl (Yy (ZA hD rfl ?_ (by rw [Rc];omega) (RL _))));have u1:=RV s.heap D (So λ_=>(#[]:Array Yx));have g1:=ZE hD λ_=>(#[]:Array Yx);have I1:ag X aac σ H {s with heap:=s.heap.update D (So λ_=>(#[]:Array Yx))}:=I.turned (t':=s.toks) (it:=D) (λb u n z=>(u1.2 b n).trans z) hHD oD.1 oD.2.2.1 oD.2.2.2.1 oD.2.2.2.2;generalize s.heap.update D (So λ_=>(#[]:Array Yx))=h1 at*;generalize (if (#[]:Array Yx).size==vs.toArray.size then n0 else n0+1)=e1 at*;refine Yy (seqEpoch_at (s:={s with heap:=h1}) g1 rfl ?_);refine Yy (wpAny_newTuple ?_ (by show vs.length<=_;omega));have I2:ag X aac σ H {s with heap:=h1.push {cls:= .type "tuple",data:= .seq vs.toArray}}:=I1.kept (t':=s.toks) λb u z=>Q1 _ z;have g2:(h1.push {cls:= .type "tuple",data:= .seq vs.toArray}).get? D=some (YQ "list" #[] e1):=Q1 _ g1;show YC _ _ _ _ _ {s with heap:=h1.push {cls:= .type "tuple",data:= .seq vs.toArray}};generalize h1.push {cls:= .type "tuple",data:= .seq vs.toArray}=h2 at*;refine Yy (Zy (s:={s with heap:=h2}) ?_ (RL _));have oS:nk X aac h2.objs.size:=I2.out (QY _);have hne:h2.objs.size≠D:=TX (Rh g2);have I3:ag X aac σ H {s with heap:=h2.push (YQ "list" #[] 0)}:=I2.kept (t':=s.toks) λb u z=>Q1 _ z;have hS0:H h2.objs.size=none:=I2.hok.fresh (QY _);have M0:nq X aac σ H O h2.objs.size D e1 [] [] {s with heap:=h2.push (YQ "list" #[] 0)}:=by
  refine⟨H,[],0,I3.pins_of λp hp=>?_,au.refl _,.nil,.nil⟩;rcases Rj.mp hp with z | z
  ·exact I3.pin p (R0 _ z)
  ·simp only [Q4,Rt,or_false] at z;rcases z with rfl | rfl
   ·exact⟨Rl _ rfl,hS0,oS.1,oS.2.1,λv z=>by cases z⟩
   ·exact⟨Q1 _ g2,hHD,oD.1,oD.2.1,λv z=>by cases z⟩
 refine Y2 ?_;unfold ksk_rest;refine Yy (ZX ?_);rw [List.forIn_toArray];refine Yy (C3 (kd:=λd=>cx (kf d)) (E:=E) Fk hr hb trk oS oD hne (λx s' Q' hx=>?_) vs xs ds [] [] _ _ hv hd hF M0 (by simp;omega) λks s' M hkl=>?_)
 ·refine Yy (Zz (YY hx (λkk s2 hk=>?_) λ_ _ z=>z.elim));exact Yy (YY hk (λ_ s3 z=>YB ⟨rfl,z⟩) λ_ _ z=>z.elim)
 ·rw [R7,<-Function.comp_def,<-Rm] at M;obtain⟨hk,hkn⟩:=Lh M;rw [QW] at hkn;obtain⟨H',kvs,e,I4,hs,_,_⟩:=M.ex;have pS:=I4.pin (h2.objs.size,YQ "list" ks.toArray e) Yv;have pD:=I4.pin (D,YQ "list" #[] e1) Yv;have I5:ag X aac σ H' s':=I4.pins_of λp hp=>I4.pin p (by simp only [Rj] at hp⊢;exact .inr (.inl hp));refine Yy (listItems_at pS.1 rfl ?_);refine Lf (n:=ds.length) (kp:=λi=>(ds.map kf).getD i (0,QU "")) lv hkn h64 pS.1 pD.1 hne hk (λi j hi hj ee=>?_) λp pp pu h' c gD kept=>?_
  ·have e1':(ds.map kf).getD i (0,QU "")=(ds.map kf)[i]'(by simpa using hi):=by simp [hi]
   have e2':(ds.map kf).getD j (0,QU "")=(ds.map kf)[j]'(by simpa using hj):=by simp [hj]
   rw [e1',e2'] at ee;exact(VB nd).mp ee
  ·refine fin _ ⟨.ref D,ah H' D (.lst (p.toList.map λi=>xs.getD i .non)),?_,rfl,q H' _ (p.toList.map λi=>ds.getD i .none) hs pD.2.1 ?_ ?_ ?_⟩
   ·refine I5.track (t':=s'.toks) (ch:=[h2.objs.size,D]) Yv (λb hb=>?_) (λb u hb z=>kept b u (λy=>hb (by simp [y])) (λy=>hb (by simp [y])) z) ⟨?_,_,c,?_,gD⟩
    ·simp only [Q4,Rt,or_false] at hb;rcases hb with rfl | rfl
     ·exact⟨pS.2.1,oS⟩
     ·exact⟨pD.2.1,oD⟩
    ·rw [QW,RE,pp.size];omega
    ·have:∀l:List Nat,(∀i∈l,i < ds.length)->aI (l.map λi=>xs.getD i .non) (l.map λi=>vs.getD i .none):=by
      intro l
      induction l with
      | nil=>intro _;exact .nil
      | cons a l ih=>
       intro hl;have ha:=hl a Yv;refine .cons ?_ (ih λi hi=>hl i (by simp [hi]));obtain⟨x,ex,rx⟩:=sZ hv (show vs[a]?=some (vs[a]'Yr) by simp);have e1':xs.getD a .non=x:=by simp [ex]
       have e2':vs.getD a .none=vs[a]'Yr:=by simp [show a < vs.length by omega]
       show aJ (xs.getD a .non) (vs.getD a .none);rw [e1',e2'];exact rx
     exact this _ λi hi=>by simpa using pp.perm.mem_iff.mp hi
   ·have:∀l:List Nat,(∀i∈l,i < ds.length)->ai X.K H' O (l.map λi=>xs.getD i .non) (l.map λi=>ds.getD i .none):=by
     intro l
     induction l with
     | nil=>intro _;exact .nil
     | cons a l ih=>
      intro hl;have ha:=hl a Yv;refine .cons ?_ (ih λi hi=>hl i (by simp [hi]));obtain⟨x,ex,dx⟩:=qO (i:=a) (d:=ds[a]) hd (by simp [ha]);have e1':xs.getD a .non=x:=by simp [ex]
      have e2':ds.getD a .none=ds[a]:=by simp [ha]
      show Dt X.K H' O (xs.getD a .non) (ds.getD a .none);rw [e1',e2'];exact dx.mono hs
    exact this _ λi hi=>by simpa using pp.perm.mem_iff.mp hi
   ·have h1:=pp.perm.map λi=>ds.getD i .none;have e:(SO ds.length).map (λi=>ds.getD i UW)=ds:=by
     apply UD Yv;intro i a b;simp at a b⊢;rw [RF b];rfl
    rw [e] at h1;exact h1
   ·rw [Sm,Vh];intro i j hi hj hij;have:=pu i j hij (by rw [RE,pp.size] at hj;exact hj);have ei:p.getD i 0=p.toList[i]:=by simp [Ux,show i < p.size by simpa using hi]
    have ej:p.getD j 0=p.toList[j]:=by simp [Ux,show j < p.size by simpa using hj]
    rw [ei,ej] at this;have li:p.toList[i] < ds.length:=by simpa using pp.perm.mem_iff.mp (Tg hi)
    have lj:p.toList[j] < ds.length:=by simpa using pp.perm.mem_iff.mp (Tg hj)
    have ff:∀a,a < ds.length->(ds.map kf).getD a (0,QU "")=kf (ds.getD a .none):=λa ha=>by simp [ha]
    dsimp only at this;rw [ff _ li,ff _ lj] at this;exact this
theorem Lj{k:Nat}{f l:Yz}{fd:YG}{ps:List Str}{F:List Yw->(Yw->Prop)->Prop}{O:Ex}{kf:Yw->Int×Str}{xs:List V}{ds:List Yw}{Q:VK}
 (hc:X.calm=true)(Fk:aA X.prog X.w X.K X.mg X.base CX0 k f fd ps (aU X.K F))(hr:bp k X.A.in1.in1)(hb:cT X.K fd ps [])(trk:∀l,O l->H l≠none)(I:ag X aac σ H s)(hq:bo X.K H l xs)
 (hd:ai X.K H O xs ds)(hF:∀d∈ds,∀R:Yw->Prop,R (cx (kf d))->F [d] R)(h64:ds.length < 64)(nd:(ds.map kf).Nodup)
 (q:∀(H':Hp) (p:Yz) (xs':List V) (ds':List Yw),au H H'->H' p=none->ai X.K H' O xs' ds'->ds'.Perm ds->ds'.Pairwise (λa b=>aY (kf a) (kf b)=true)->Q (.ref p) (ah H' p (.lst xs'))):
 YC (YE X.prog X.w) X.A (call (.builtin "sorted") [.ref l] [(QU "key",.ref f)]) (EP X aac σ Q) X.xe s:=by
 have hsl:YH=16777216:=Y1;obtain⟨vs,hv,pl,hz⟩:=I.list hq;have lv:vs.length=ds.length:=by rw [<-hv.length,hd.length]
 refine call_function_entry_kw kind_sorted plain_sorted entry_sorted (ksk_s1 _ _) ?_;unfold Builtin.«sorted»;refine Yy (m:=checkCount "sorted" 1 1 _) (YB ?_);refine Yy (collect_list pl.isList ?_ Yr);have I1:ag X aac σ H {s with heap:=(s.heap.push (YQ "list" #[] 0)).update s.heap.objs.size (So (·++vs.toArray))}:=by
  refine I.kept (t':=s.toks) λb u z=>?_;have hlt:b < s.heap.objs.size:=Rh z;exact(W4 _ _ _ _ (RH hlt)).trans (Q1 _ z)
 generalize (s.heap.push (YQ "list" #[] 0)).update s.heap.objs.size (So (·++vs.toArray))=h1 at*;refine Yy (Zy (s:={s with heap:=h1}) ?_ Yr);have I2:ag X aac σ H {s with heap:=h1.push (YQ "list" vs.toArray 0)}:=I1.kept (t':=s.toks) λb u z=>Q1 _ z;have gD:(h1.push (YQ "list" vs.toArray 0)).get? h1.objs.size=some (YQ "list" vs.toArray 0):=Rl _ rfl;refine Yy (Y2 (wpAny_call_entry_kw Z0 ⟨_,gD,rfl⟩ ZZ ?_ (ksk_l1 _ _)));rw [ksk_t1];refine Li (kf:=kf) Fk hr hb trk I2 (I1.out (QY _)) (I1.hok.fresh (QY _)) gD hv hd hF h64 nd (Q:=Q) (λH' xs' ds' a b c d e=>q H' _ xs' ds' a b c d e) λs' hs'=>?_;exact⟨_,rfl,YB ⟨_,rfl,hs'⟩⟩
end
section
variable {P:YI} {w:YJ} {A:YN} {E:Yx->YA->Prop} {s:YA}
theorem Ll{D:Yz}{vs:List Yx}{n n0:Nat}{kp:Nat->Int×Str}{C:Xi->YA->Prop}(hv:vs.length=n)(h64:n < 64)(hD:s.heap.get? D=some (YQ "list" vs.toArray n0))(hk:∀i v,vs[i]?=some v->iN s.heap v (kp i)/\v≠ .ref D)(hd:∀i j,i < n->j < n->kp i=kp j->i=j)
 (q:∀p,bS n p->Up (λi j=>aY (kp i) (kp j)) p n->∀h' c,h'.get? D=some (YQ "list" (p.toList.map λi=>vs.getD i .none).toArray c)->(∀b u,b≠D->s.heap.get? b=some u->h'.get? b=some u)->C (.done (.ret .none)) {s with heap:=h'}):
 YC (YE P w) A (Builtin.«list.sort» ⟨[.ref D],[]⟩) C E s:=by
 have hsl:YH=16777216:=Y1;rw [list_sort_plain];refine Yy (listItems_at hD rfl (Yy (ZA hD rfl ?_ (by rw [Rc];omega) (RL _))));have u1:=RV s.heap D (So λ_=>(#[]:Array Yx));have g1:=ZE hD λ_=>(#[]:Array Yx);have k1:∀b u,b≠D->s.heap.get? b=some u->(s.heap.update D (So λ_=>(#[]:Array Yx))).get? b=some u:=λb u n z=>(u1.2 b n).trans z;generalize s.heap.update D (So λ_=>(#[]:Array Yx))=h1 at*;generalize (if (#[]:Array Yx).size==vs.toArray.size then n0 else n0+1)=e1 at*;refine Yy (seqEpoch_at (s:={s with heap:=h1}) g1 rfl ?_);refine Yy (wpAny_newTuple ?_ (by show vs.length<=_;omega));refine Yy (Zy ?_ (RL _));have g2:((h1.push {cls:= .type "tuple",data:= .seq vs.toArray}).push {cls:= .type "list",data:= .seq ([]:List Yx).toArray}).get? D=some (YQ "list" #[] e1):=Q1 _ (Q1 _ g1);have k2:∀b u,b≠D->s.heap.get? b=some u->((h1.push {cls:= .type "tuple",data:= .seq vs.toArray}).push {cls:= .type "list",data:= .seq ([]:List Yx).toArray}).get? b=some u:=λb u n z=>Q1 _ (Q1 _ (k1 b u n z));show YC _ _ _ _ _ {s with heap:=(h1.push {cls:= .type "tuple",data:= .seq vs.toArray}).push {cls:= .type "list",data:= .seq ([]:List Yx).toArray}};generalize (h1.push {cls:= .type "tuple",data:= .seq vs.toArray}).push {cls:= .type "list",data:= .seq ([]:List Yx).toArray}=h2 at*;refine Y2 ?_;have hz:vs.toArray.size=n:=by rw [Rc];exact hv
 have last:∀(st:SortSt)(p:Array Nat),bS n p->Up (λi j=>aY (kp i) (kp j)) p n->failedOf st=none->(arrOf st).map (·.2)=(p.toList.map λi=>vs.getD i .none).toArray->
  YC (YE P w) A (do
   let touched:=(<-seqEpoch D) !=e1
   WD (.ref D) λ_=>(arrOf st).map (·.2)
   if let some e:=failedOf st then rule "list.sort.comparison-raised";throw e
   if touched then rule "list.sort.modified";raiseError "ValueError" "list modified during sort"
   ret .none) C E {s with heap:=h2}:=by
  intro st p p1 p2 hf ho;rw [ho,hf];refine Yy (seqEpoch_at (s:={s with heap:=h2}) g2 rfl ?_);refine Yy (ZA (s:={s with heap:=h2}) g2 rfl ?_ (RL _) (by rw [Rc,QW,RE,p1.size];omega));simp only [bne_self_eq_false,Sg,if_false];have u3:=RV h2 D (So λ_=>(p.toList.map λi=>vs.getD i SS).toArray);exact YB (q p p1 p2 _ _ (ZE g2 λ_=>(p.toList.map λi=>vs.getD i SS).toArray) λb u n z=>(u3.2 b n).trans (k2 b u n z))
 by_cases h2':n < 2
 ·simp only [hz,h2',if_true];refine Yy (YB (Yy (YB ?_)));refine last _ (Xh (SO n)) (vU n) (λi j a b=>by omega) rfl ?_;show(vs.toArray.zip vs.toArray).map (·.2)=_;apply Wv.mp;simp only [XD,XE];rw [XF Yr];apply UD (by simp [hv]);intro i a b;simp at a b⊢;rw [RF a];rfl
 ·simp only [hz,h2',if_false];have hk2:∀i v,vs[i]?=some v->iN h2 v (kp i):=λi v e=>by
   obtain⟨⟨a,o,m,t,u,rfl,x1,x2,x3⟩,ne⟩:=hk i v e;exact⟨a,o,m,t,u,rfl,k2 a o (λz=>ne (by rw [z])) x1,x2,x3⟩
  refine Yy (CY (s:={s with heap:=h2}) hk2 Yr ?_);refine Yy (YY (kat_run (κ:=tuples' true) (ks:=vs) (s:={s with heap:=h2}) (E:=λ_ _=>False) (Q:=λst' s'=>s'={s with heap:=h2}/\∃p,bS n p/\Up (λi j=>aY (kp i) (kp j)) p n/\arrOf st'=p.map (kas_item (vs.toArray.zip vs.toArray))/\failedOf st'=none) (G:=λp s'=>s'={s with heap:=h2}/\bS n p/\Up (λi j=>aY (kp i) (kp j)) p n) rfl Yr Yr
   (λp st' s' a b c d=>⟨d.1,p,d.2.1,d.2.2,b,c⟩) ?_) (λr s' hr=>?_) λ_ _ x=>x.elim)
  ·rw [hv];exact CZ (s:={s with heap:=h2}) hv Yr hk2 hd λp a b=>⟨rfl,a,b⟩
  ·obtain⟨rfl,p,p1,p2,p3,p4⟩:=hr;exact last _ p p1 p2 p4 (kat_snds rfl p3)
end
theorem Lm{X:Cx}:d8 X (.builtin "sorted") (λxs H Q=>∃(p:Yz)(us:List V)(O:Ex)(ps:List (Int×Str)),xs=[.ref p]/\bo X.K H p us/\ai X.K H O us (ps.map cx)/\ps.length < 64/\ps.Nodup/\∀(l:Yz)(us':List V)(ps':List (Int×Str)),H l=none->ai X.K H O us' (ps'.map cx)->ps'.Perm ps->ps'.Pairwise (λa b=>aY a b=true)->Q (.ref l) (ah H l (.lst us'))):=by
 intro aac s σ H xs ws Q I r h;obtain⟨l,us,O,ps,rfl,hq,hd,h64,nd,q⟩:=h;obtain⟨u,rfl,rx⟩:=ft r;cases rx;have hsl:YH=16777216:=Y1;obtain⟨vs,hv,pl,hz⟩:=I.list hq;have lv:vs.length=ps.length:=by rw [<-hv.length,hd.length,QW]
 refine Ve kind_sorted plain_sorted entry_sorted (args_sorted1 _) ?_;unfold Builtin.«sorted»;refine Yy (m:=checkCount "sorted" 1 1 _) (YB ?_);refine Yy (collect_list pl.isList ?_ Yr);have I1:ag X aac σ H {s with heap:=(s.heap.push (YQ "list" #[] 0)).update s.heap.objs.size (So (·++vs.toArray))}:=by
  refine I.kept (t':=s.toks) λb u z=>?_;have hlt:b < s.heap.objs.size:=Rh z;exact(W4 _ _ _ _ (RH hlt)).trans (Q1 _ z)
 generalize (s.heap.push (YQ "list" #[] 0)).update s.heap.objs.size (So (·++vs.toArray))=h1 at*;refine Yy (Zy (s:={s with heap:=h1}) ?_ Yr);have I2:ag X aac σ H {s with heap:=h1.push (YQ "list" vs.toArray 0)}:=I1.kept (t':=s.toks) λb u z=>Q1 _ z;have gD:(h1.push (YQ "list" vs.toArray 0)).get? h1.objs.size=some (YQ "list" vs.toArray 0):=Rl _ rfl;have hH:H h1.objs.size=none:=I1.hok.fresh (QY _);have oD:nk X aac h1.objs.size:=I1.out (QY _);have isp:∀i v,vs[i]?=some v->iN (h1.push (YQ "list" vs.toArray 0)) v (ps.getD i (0,QU ""))/\v≠ .ref h1.objs.size:=λi v ei=>by
  have hi:i < ps.length:=by rw [<-lv];exact(Q7.mp ei).1
  obtain⟨x,ex,rx⟩:=sZ hv ei;obtain⟨y,ey,dy⟩:=qO (i:=i) (d:=cx ps[i]) hd (by rw [Q9,RF hi];rfl);rw [ex] at ey;cases ey;have e:ps.getD i (0,QU "")=ps[i]:=by simp [hi]
  rw [e];have a:=vX I1 dy rx;refine⟨vX I2 dy rx,λz=>?_⟩;obtain⟨ad,o,m,t,u,e1,e2,_⟩:=a;rw [e1] at z;cases z;exact absurd (Rh e2) (S5 _)
 refine Yy (Y2 (YV Z0 ⟨_,gD,rfl⟩ ZZ ?_ (args_list_sort _)));refine Ll (s:={s with heap:=h1.push (YQ "list" vs.toArray 0)}) (n:=ps.length) (kp:=λi=>ps.getD i (0,QU "")) lv h64 gD isp (λi j hi hj ee=>?_) λp pp pu h' c g kept=>?_
 ·have e1':ps.getD i (0,QU "")=ps[i]:=by simp [hi]
  have e2':ps.getD j (0,QU "")=ps[j]:=by simp [hj]
  rw [e1',e2'] at ee;exact(VB nd).mp ee
 ·have lt:∀i∈p.toList,i < ps.length:=λi hi=>by simpa using pp.perm.mem_iff.mp hi
  have dm:ai X.K H O (p.toList.map λi=>us.getD i .non) ((p.toList.map λi=>ps.getD i (0,QU "")).map cx):=by
   have:∀l:List Nat,(∀i∈l,i < ps.length)->ai X.K H O (l.map λi=>us.getD i .non) ((l.map λi=>ps.getD i (0,QU "")).map cx):=by
    intro l
    induction l with
    | nil=>intro _;exact .nil
    | cons a l ih=>
     intro hl;have ha:=hl a Yv;refine .cons ?_ (ih λi hi=>hl i (by simp [hi]));obtain⟨x,ex,dx⟩:=qO (i:=a) (d:=cx ps[a]) hd (by rw [Q9,RF ha];rfl);have e1':us.getD a .non=x:=by simp [ex]
     have e2':ps.getD a (0,QU "")=ps[a]:=by simp [ha]
     show Dt X.K H O (us.getD a .non) (cx (ps.getD a (0,QU "")));rw [e1',e2'];exact dx
   exact this _ lt
  have vm:aI (p.toList.map λi=>us.getD i .non) (p.toList.map λi=>vs.getD i .none):=by
   have:∀l:List Nat,(∀i∈l,i < ps.length)->aI (l.map λi=>us.getD i .non) (l.map λi=>vs.getD i .none):=by
    intro l
    induction l with
    | nil=>intro _;exact .nil
    | cons a l ih=>
     intro hl;have ha:=hl a Yv;refine .cons ?_ (ih λi hi=>hl i (by simp [hi]));obtain⟨x,ex,rx⟩:=sZ hv (show vs[a]?=some (vs[a]'Yr) by simp);have e1':us.getD a .non=x:=by simp [ex]
     have e2':vs.getD a .none=vs[a]'Yr:=by simp [show a < vs.length by omega]
     show aJ (us.getD a .non) (vs.getD a .none);rw [e1',e2'];exact rx
   exact this _ lt
  refine⟨_,rfl,YB ⟨_,rfl,.ref h1.objs.size,ah H h1.objs.size (.lst (p.toList.map λi=>us.getD i .non)),?_,rfl,q _ _ (p.toList.map λi=>ps.getD i (0,QU "")) hH dm ?_ ?_⟩⟩
  ·refine I2.track (t':=s.toks) (ch:=[h1.objs.size]) Yv (λb hb=>?_) (λb u hb z=>kept b u (λy=>hb (by simp [y])) z) ⟨?_,_,c,vm,g⟩
   ·rw [Rk] at hb;subst hb;exact⟨hH,oD⟩
   ·rw [QW,RE,pp.size];omega
  ·have h1:=pp.perm.map λi=>ps.getD i (0,QU "");have e:(SO ps.length).map (λi=>ps.getD i (0,QU ""))=ps:=by
    apply UD Yv;intro i a b;simp at a b⊢;rw [RF b];rfl
   rw [e] at h1;exact h1
  ·rw [Sm,Vh];intro i j hi hj hij;have:=pu i j hij (by rw [RE,pp.size] at hj;exact hj);have ei:p.getD i 0=p.toList[i]:=by simp [Ux,show i < p.size by simpa using hi]
   have ej:p.getD j 0=p.toList[j]:=by simp [Ux,show j < p.size by simpa using hj]
   rw [ei,ej] at this;exact this
section
variable {X:Cx} {H0:Hp} {O0:Ex}
def kW(t:DA):DA:=λδ Q=>t δ λds=>∃ps:List (Int×Str),ds=[.list (ps.map cx)]/\ps.length < 64/\ps.Nodup/\∀ps':List (Int×Str),ps'.Perm ps->ps'.Pairwise (λa b=>aY a b=true)->Q (ps'.map cx)
theorem Ln{a:YF}{t:DA}{np p:Pos}(hg:Gl X "sorted")(hm:X.mg "sorted"=none)(hv:YX "sorted"=some (.builtin "sorted"))(ha:PA X [a] (hZ X.K H0 O0 t))(he:YD [a] X.env=(false,eval a X.env)::YD [] X.env:=by rfl)(hpl:(YR p (YD [] X.env)).any (·.1)=false:=by rfl):
 FE X H0 O0 (.Call (.Name "sorted" np) [a] [] p) (kW t):=
 (bU Lm hg hm hv ha (he:=he) (hpl:=hpl)).imp λσ H Q uu1=>by obtain⟨O,δ,Qd,w,q,k⟩:=uu1;exact⟨O,δ,_,w,q,λds vs H1 uu2 s1 r1=>by
  obtain⟨ps,e,h64,nd,q1⟩:=uu2;subst e;cases r1 with
  | cons h r=>
   cases r;obtain⟨a,us,rfl,h1,d1⟩:=h.lst;exact⟨a,us,O,ps,rfl,h1,d1,h64,nd,λl us' ps' hl hd hp hs=>k _ _ _ _ (q1 ps' hp hs) s1 hl hd⟩⟩
def kX(F:List Yw->(Yw->Prop)->Prop)(kf:Yw->Int×Str)(t:DA):DA:=λδ Q=>t δ λds0=>∃ds,ds0=[.list ds]/\(∀d∈ds,∀R:Yw->Prop,R (cx (kf d))->F [d] R)/\ds.length < 64/\(ds.map kf).Nodup/\∀ds',ds'.Perm ds->ds'.Pairwise (λa b=>aY (kf a) (kf b)=true)->Q ds'
theorem C4{a:YF}{t:DA}{np p gp kp:Pos}{g:Str}{k:Nat}{f:Yz}{fd:YG}{ps:List Str}{F:List Yw->(Yw->Prop)->Prop}(kf:Yw->Int×Str)(hc:X.calm=true)(Fk:aA X.prog X.w X.K X.mg X.base CX0 k f fd ps (aU X.K F))(hr:bp k X.A.in1.in1)(hb:cT X.K fd ps [])
 (hgg:Gl X g)(hgm:X.mg g=some (.ref f))(hg:Gl X "sorted")(hm:X.mg "sorted"=none)(hv:YX "sorted"=some (.builtin "sorted"))(ha:PA X [a] (hZ X.K H0 O0 t))(hdb:(g==("__debug__":Str))=false:=by decide)
 (he:YR p (YD [a] X.env)=(false,eval a X.env)::YR p (YD [] X.env):=by rfl)(hplain:(YR p (YD [a] X.env)).any (·.1)=false:=by rfl):
 FE X H0 O0 (.Call (.Name "sorted" np) [a] [⟨some "key",.Name g gp,kp⟩] p) (kX F kf t):=by
 intro aac s σ H Q I h;obtain⟨O,δ,Qd,w,q,kk⟩:=h;refine Zg (nP I hg hm hv ?_);refine callWith_kw (aB (ha p aac s σ H (λvs H1=>∃ds0,au H H1/\pe X.K H1 O vs ds0/\∃ds,ds0=[.list ds]/\(∀d∈ds,∀R:Yw->Prop,R (cx (kf d))->F [d] R)/\ds.length < 64/\(ds.map kf).Nodup/\∀ds',ds'.Perm ds->ds'.Pairwise (λa b=>aY (kf a) (kf b)=true)->Qd ds') I ⟨O,δ,_,w,q,λds0 vs H1 q1 s1 r1=>⟨ds0,s1,r1,q1⟩⟩) λus s1 hus=>?_) he hplain rfl rfl;obtain⟨vs,H1,I1,rv,ds0,s1',r1,ds,e,hF,h64,nd,q1⟩:=hus;subst e;refine kws_cons (qg I1 hgg hgm (kws_nil ?_) hdb);cases r1 with
 | cons h r=>
  cases r;obtain⟨ad,xs,rfl,hq,hd⟩:=h.lst;obtain⟨u,rfl,rx⟩:=ft rv;cases rx;exact Lj (kf:=kf) hc Fk hr hb (w.mono s1').trk I1 hq hd hF h64 nd λH' l xs' ds' a b c d e=>kk _ _ _ _ (q1 ds' d e) (s1'.trans a) b c
end
section
open PySem.SeqAt
open PySem.AutoSeq1 (wpAny_loadPart')
open PySem.MeetsSeq PySem.MeetsSeq2 PySem.MeetsSeq3
theorem Lo(l b:Yz)(n n2:Nat)(dd dd2:Option Yz)(sl sl2:Array (Option Yx))(p q:Int×Str)(t1 t2 t3 t4:Tok):
 Meets (Builtin.«tuple.__lt__» ⟨[.ref l,.ref b],[]⟩)
  (λ_ R s=>s.heap.get? l=some {cls:= .type "tuple",dict:=dd,data:= .seq #[.int p.1 t1,.str p.2 t2] n,slots:=sl}/\s.heap.get? b=some {cls:= .type "tuple",dict:=dd2,data:= .seq #[.int q.1 t3,.str q.2 t4] n2,slots:=sl2}/\
   R (.ok (.ret (.bool (aY p q)))) s):=
 .of_wp λprog w A R s h=>by
  obtain⟨hp,g,d,tk,os⟩:=s;obtain⟨hl,hb,h⟩:=h;have f2:=AutoSeq1.sub_tuple_tuple
  wp_walk using Zb hl,Zb hb,wpAny_forIn_list _ (λrest b s'=>b.1=none/\s'=⟨hp,g,d,tk,os⟩/\(rest=[(TL p.1 t1,TL q.1 t3),(UK p.2 t2,UK q.2 t4)]\/(rest=[(UK p.2 t2,UK q.2 t4)]/\p.1=q.1)\/(rest=[]/\p.1=q.1/\p.2=q.2))) _
  case turn=>
   rintro⟨y,x⟩ rest b s' ⟨hb',rfl,h3⟩;rcases h3 with h3 | ⟨h3,e1⟩ | ⟨h3,_⟩
   ·injection h3 with hyx hrest
    injection hyx with hy hx
    subst hy hx;obtain⟨e,he,hiff⟩:=HT.eqAt_int A.in1 ⟨hp,g,d,tk,os⟩ p.1 t1 q.1 t3;refine Yy (he prog w _ _ ?_);cases e with
    | true=>
     wp_walk
     exact⟨rfl,rfl,.inr (.inl ⟨hrest,hiff.mp rfl⟩)⟩
    | false=>
     have ne:p.1≠q.1:=λz=>absurd (hiff.mpr z) Q5;have hri:=HT.rcLt_int A.in1 ⟨hp,g,d,tk,os⟩ p.1 t1 q.1 t3 prog w;have hv:aY p q=decide (p.1 < q.1):=by unfold aY;simp [ne]
     rw [hv] at h
     wp_walk using hri
     exact⟨_,rfl,by simpa using h⟩
   ·injection h3 with hyx hrest
    injection hyx with hy hx
    subst hy hx;have he:=EqAt.str_str (A:=A.in1) (s:=⟨hp,g,d,tk,os⟩) p.2 t2 q.2 t4;refine Yy (he prog w _ _ ?_);cases e:(p.2==q.2) with
    | true=>
     wp_walk
     exact⟨rfl,rfl,.inr (.inr ⟨hrest,e1,eq_of_beq e⟩)⟩
    | false=>
     have hri:∀(E:Yx->YA->Prop)(Q:Yx->YA->Prop),Q (.bool (decide (p.2.cps.toList < q.2.cps.toList))) ⟨hp,g,d,tk,os⟩->YC (YE prog w) A.in1 (richCompare .Lt (.str p.2 t2) (.str q.2 t4)) Q E ⟨hp,g,d,tk,os⟩:=λE Q z=>(lt_str z:YC (YE prog w) A.in1 (YU .Lt (.str p.2 t2) (.str q.2 t4)) Q E _);have hv:aY p q=decide (p.2.cps.toList < q.2.cps.toList):=by unfold aY;simp [e1]
     rw [hv] at h
     wp_walk using hri
     exact⟨_,rfl,by simpa using h⟩
   ·cases h3
  case fin=>
   rintro⟨b1,b2⟩ s' ⟨hb',rfl,h3⟩;simp only at hb';subst hb';rcases h3 with h3 | ⟨h3,e1⟩ | ⟨h3,e1,e2⟩
   ·cases h3
   ·cases h3
   ·have hv:aY p q=false:=by unfold aY;rw [e1,e2];simp
    rw [hv] at h
    wp_walk
    exact⟨_,rfl,by simpa [Builtin.Tuple.tupleCompareSizes] using h⟩
  case h=>
   exact⟨rfl,rfl,.inl rfl⟩
end
def C5(K:QV):R2:=λx y H Q=>∃a b p q,x= .ref a/\y= .ref b/\aZ K H a [.int p.1,.str p.2]/\aZ K H b [.int q.1,.str q.2]/\Q (.bl (aY p q)) H
theorem Lp{X:Cx}(hu:X.A.units < Y0):bG X (YU .Lt) (C5 X.K):=by
 intro aac s σ H x y v u Q I rx ry h;obtain⟨a,b,p,q,rfl,rfl,ha,hb,z⟩:=h;cases rx;cases ry;obtain⟨its,r1,⟨⟨c1,d1,da1,s1⟩,o1,k1,n1,e1⟩,_⟩:=I.tuple ha;obtain⟨its2,r2,⟨⟨c2,d2,da2,s2⟩,o2,k2,n2,e2⟩,_⟩:=I.tuple hb;simp only at k1 e1 k2 e2;subst k1 e1 k2 e2;cases r1 with
 | cons x1 r1=>
  cases r1 with
  | cons x2 r1=>
   cases r1;obtain⟨t1,rfl⟩:=x1;obtain⟨t2,rfl⟩:=x2;cases r2 with
   | cons y1 r2=>
    cases r2 with
    | cons y2 r2=>
     cases r2;obtain⟨t3,rfl⟩:=y1;obtain⟨t4,rfl⟩:=y2;exact richCompare_meets_room (op:= .Lt) ⟨_,o1,rfl⟩ ⟨_,o2,rfl⟩ PySem.F.slot_tuple_lt PySem.F.entry_tuple_lt (PySem.F.args_tuple_lt_2 _ _) (Lo a b n1 n2 d1 d2 s1 s2 p q t1 t2 t3 t4) ⟨o1,o2,(λx=>nomatch x),.bl (aY p q),H,I,rfl,z⟩ hu
def kY:Yw->Yw->(Yw->Prop)->Prop:=λx y Q=>∃p q:Int×Str,x=cx p/\y=cx q/\Q (.bool (aY p q))
theorem Lq{K:QV}:cw K (C5 K) kY:=λH O x y dx dy Qd R _ hx hy uu3 k=>by
 obtain⟨p,q,e1,e2,z⟩:=uu3;subst e1 e2;obtain⟨a,xs,rfl,h1,g1⟩:=hx.tup;obtain⟨b,ys,rfl,h2,g2⟩:=hy.tup;cases g1 with
 | cons x1 g1=>
  cases g1 with
  | cons x2 g1=>
   cases g1;cases x1;cases x2;cases g2 with
   | cons y1 g2=>
    cases g2 with
    | cons y2 g2=>
     cases g2;cases y1;cases y2;exact⟨a,b,p,q,rfl,rfl,h1,h2,k _ _ H z (au.refl _) (.bl _)⟩
section
variable {X:Cx} {H0:Hp} {O0:Ex}
def Lr(tc:DB)(tb:DS):DS:=λE δ=>∃W:Nat->Dl->Prop,(∃m,W m δ)/\∀m δ,W m δ->tc δ λb=>if b=true then tb {E with nx:=λδ'=>∃m',m' < m/\W m' δ',ct:=λδ'=>∃m',m' < m/\W m' δ',bk:=E.nx} δ else E.nx δ
theorem Lu{c:YF}{body:List YL}{tc:DB}{tb:DS}{pos:Pos}(hp:Zw (YE X.prog X.w) X.A X.env X.xe)(hc:PT X c (bT X.K H0 O0 tc))(hb:bP X body (bf X.K H0 O0 tb)):PS X (.While c body [] pos) (bf X.K H0 O0 (Lr tc tb)):=
 (A4 hp hc hb).imp λD σ H uu4=>by
  obtain⟨O,δ,E,w,⟨W,⟨m0,w0⟩,st⟩,k1,k2,k3,k4⟩:=uu4;refine⟨λm σ' H'=>∃O' δ',Wd X.K H0 O0 H' O' σ' δ'/\aH H H' O O'/\W m δ',⟨m0,O,δ,w,aH.refl _ _,w0⟩,λm σ1 H1 ⟨O1,δ1,w1,S1,q1⟩=>⟨O1,δ1,_,w1,st m δ1 q1,λb H2 q2 s2=>?_⟩⟩;cases b with
  | false=>
   rw [Ys Yv] at q2⊢;exact k1 O1 δ1 σ1 H2 q2 (w1.mono s2) (S1.trans (.same s2))
  | true=>
   rw [Yt rfl] at q2⊢;refine⟨λσ' H'=>∃O' δ' m',m' < m/\Wd X.K H0 O0 H' O' σ' δ'/\aH H H' O O'/\W m' δ',λσ' H' uu6=>by obtain⟨O',δ',m',lt,w',S',q'⟩:=uu6;exact⟨m',lt,O',δ',w',S',q'⟩,O1,δ1,_,w1.mono s2,q2,?_,k2,?_,?_⟩
   ·rintro O' δ' σ' H' ⟨m',lt,q'⟩ w' S';exact⟨O',δ',m',lt,w',S1.trans ((aH.same s2).trans S'),q'⟩
   ·intro O' δ' σ' H' q' w' S';exact k1 O' δ' σ' H' q' w' (S1.trans ((aH.same s2).trans S'))
   ·rintro O' δ' σ' H' ⟨m',lt,q'⟩ w' S';exact⟨O',δ',m',lt,w',S1.trans ((aH.same s2).trans S'),q'⟩
theorem bC.vals{K:QV}{H:Hp}{O:Ex}{kv:List (aq×V)}{kd:List (aq×Yw)}(h:bC K H O kv kd):ai K H O (kv.map (·.2)) (kd.map (·.2)):=by
 induction h with
 | nil=>exact .nil
 | cons a _ ih=>exact .cons a ih
abbrev gb(ks:List Str)(ds:List Yw):Yw:=BV (ks.map .str) ds
def kZ(i:Nat)(t:DS):DS:=λE δ=>∃kd,δ[i]?=some (some (.k kd))/\∃ks:List Str,kd.map (·.1)=ks.map Sx/\t E (δ.set i (some (.v (gb ks (kd.map (·.2))))))
theorem cF.z{H:Hp}{a:Yz}{ob:Obj}{kvs:List (aq×V)}{k:aq}(e:H a=some (.frz ob (.dK kvs))):cF H a (kV k) (dJ kvs k):= .inl ⟨kvs,k,.inr ⟨ob,e⟩,rfl,rfl⟩
theorem ag.fast{X:Cx}{aac:List (Yz×Obj)}{σ:St}{H:Hp}{s:YA}(I:ag X aac σ H s){a:Yz}{kv:List (aq×V)}(ha:H a=some (.dK kv)):∃o,ag X aac σ (ah H a (.frz o (.dK kv))) s:=by
 obtain⟨z,hd,vs,rel,o,es,ep,g,r1,r2,r3⟩:=I.hok a _ ha;exact⟨o,I.write (x:=a) (e:=a) (o:= .frz o (.dK kv)) (h':=s.heap) (t':=s.toks) (by rw [ha];exact Tr) (.inl rfl) (λ_ _ _ q=>q) ⟨o,g⟩ ⟨g,z,hd,vs,rel,o,es,ep,g,r1,r2,r3⟩⟩
theorem Lv{st:YL}{t:TS}(h:PS X st t)(i:Nat):PS X st (λD σ H=>∃a kv,σ[i]?=some (some (.ref a))/\H a=some (.dK kv)/\∀o,t D σ (ah H a (.frz o (.dK kv)))):=by
 intro aac s σ H D I q;obtain⟨a,kv,_,ha,q⟩:=q;obtain⟨o,I2⟩:=I.fast ha;exact h aac s σ _ D I2 (q o)
theorem Wd.tell{K:QV}{H0 H:Hp}{O0 O:Ex}{σ:St}{δ:Dl}(w:Wd K H0 O0 H O σ δ){i:Nat}{v:V}{d:Yw}(h:σ[i]?=some (some v))(hd:Dt K H O v d):Wd K H0 O0 H O σ (δ.set i (some (.v d))):=by
 have li:i < δ.length:=by rw [<-w.len];exact(Q7.mp h).1
 have ne:∀{j:Nat}{y:Sl},(δ.set i (some (.v d)))[j]?=some (some y)->y.own->j≠i:=λ{j y} q hy z=>by
  subst z;rw [Ry li] at q;cases q;exact hy
 refine⟨w.same,w.sub,w.new,w.trk,by simp [w.len],λj y q=>?_,λj k y z l' e1 y1 e2 z2 e3 e4=>?_⟩
 ·by_cases hj:j=i
  ·subst hj;rw [Ry li] at q;cases q;exact⟨v,by rw [h];rfl,hd⟩
  ·rw [Rg (Ne.symm hj)] at q;exact w.sl j y q
 ·have n1:=ne e1 y1;have n2:=ne e2 z2;rw [Rg (Ne.symm n1)] at e1;rw [Rg (Ne.symm n2)] at e2;exact w.dis j k _ _ l' e1 y1 e2 z2 e3 e4
theorem C6(i:Nat){st:YL}{t:DS}(h:PS X st (bf X.K H0 O0 t)):PS X st (bf X.K H0 O0 (kZ i t)):=
 (Lv h i).imp λD σ H uu7=>by
  obtain⟨O,δ,E,w,⟨kd,e,ks,ek,q⟩,k1,k2,k3,k4⟩:=uu7;obtain⟨l,kv,h,a,b,c,r⟩:=w.ownK e;refine⟨l,kv,h,c,λo=>?_⟩;obtain⟨O',w',S,n⟩:=w.frzK (y0:= .k kd) e trivial h (.frz o (.dK kv));have w2:=w'.tell (d:=gb ks (kd.map (·.2))) h (.dic bq (by rw [r.keys];exact ek) rfl n (r.vals.step S));rw [List.set_set] at w2;exact⟨O',_,E,w2,q,λO2 δ2 σ2 H2 z2 w2 S2=>k1 O2 δ2 σ2 H2 z2 w2 (S.trans S2),k2,λO2 δ2 σ2 H2 z2 w2 S2=>k3 O2 δ2 σ2 H2 z2 w2 (S.trans S2),λO2 δ2 σ2 H2 z2 w2 S2=>k4 O2 δ2 σ2 H2 z2 w2 (S.trans S2)⟩
theorem pz:∀{a b:List Str},a.map QZ=b.map QZ->a=b
 | [],[],_=>rfl
 | [],_::_,h=>by cases h
 | _::_,[],h=>by cases h
 | x::a,y::b,h=>by
  simp only [Q0,RO,Sj] at h;rw [h.1,pz h.2]
def bh:List Str->List Yw->Str->Option Yw
 | k::ks,d::ds,z=>if k=z then some d else bh ks ds z
 | _,_,_=>none
theorem qP{K:QV}{H:Hp}{O:Ex}{z:Str}{d:Yw}:∀{kv:List (aq×V)}{ks:List Str}{ds:List Yw},kv.map (·.1)=ks.map Sx->ai K H O (kv.map (·.2)) ds->bh ks ds z=some d->∃v,dJ kv (.inr z)=some v/\Dt K H O v d
 | [],[],ds,_,_,e=>by unfold bh at e;cases e
 | [],_::_,ds,h,_,_=>by cases h
 | _::_,[],ds,h,_,_=>by cases h
 | p::kv,k::ks,ds,h,hd,e=>by
  rw [Q0] at hd;cases hd with
  | cons h1 h2=>
   simp only [Q0,RO] at h;obtain⟨p1,p2⟩:=p;obtain⟨rfl,h⟩:=h;unfold bh at e;by_cases hk:k=z
   ·rw [Yt hk] at e;cases e;exact⟨p2,qG (by rw [hk]),h1⟩
   ·rw [Ys hk] at e;obtain⟨v,a,b⟩:=qP h h2 e;exact⟨v,by rw [pk (λq=>hk (jr.mp q))];exact a,b⟩
def iO(to tk:DT):DT:=λδ Q=>to δ λx=>∃ks ds,x=gb ks ds/\tk δ λy=>∃z,y= .str z/\∃d,bh ks ds z=some d/\Q d
theorem C7{o e:YF}{to tk:DT}{pos:Pos}(hu:X.A.units+64 < Y0)(ho:DE X H0 O0 o to)(he:DE X H0 O0 e tk)(hs:sP e):DE X H0 O0 (.Subscript o e pos) (iO to tk):=
 (Cb Yr ho he hs).imp λσ H Q uu8=>by
  obtain⟨O,δ,Qd,w,q,k⟩:=uu8;refine⟨O,δ,_,w,q,λx vx H1 ⟨ks,ds,ex,q1⟩ s1 r1=>?_⟩;subst ex;refine⟨O,δ,_,w.mono s1,q1,λy vy H2 ⟨z,ey,d,ed,q2⟩ s2 r2=>?_⟩;subst ey;cases r2;cases r1 with
  | @dic a ob kv ks' kp ds h e1 e2 n rr=>
   have ek:ks'=ks:=by
    have:ks'.map QZ=ks.map QZ:=e2.symm;exact pz this
   subst ek;obtain⟨v,hv,dv⟩:=qP e1 rr ed;exact⟨a,v,rfl,by rw [<-hv];exact cF.z (k:= .inr z) (s2 _ _ h),k _ _ _ q2 (s1.trans s2) (dv.mono s2)⟩
theorem ai.ofInts{K:QV}{H:Hp}{O:Ex}:∀(ns:List Int),ai K H O (ns.map V.int) (ns.map Rv)
 | []=>.nil
 | n::ns=>.cons (.int n) (ai.ofInts ns)
def k6(t:DT)(g:DG)(tc:DB)(te:DT)(k:Nat)(fr:List Nat):DA:=λδ Q=>iI t g tc te k fr δ Q\/iJ t g tc te k fr δ Q
theorem Lw{N':List Str}{k:Nat}{fr:List Nat}{scope:Za}{iter elt tg:YF}{ifs:List YF}{t te:DT}{tc:DB}{g:TG}{dg:DG}{pos:Pos}(hc:X.calm=true)(S:bb X.env.scope X.N N' k fr scope)(hi:DF X H0 O0 iter t)(gd:GD X.K g dg)(hk:j1 g k)(hfr:fr.Nodup)
 (hg:∀fp C s H,PG (bF X scope N' fp C s H) tg g)(hf:∀fp C s H,fy (bF X scope N' fp C s H) ifs (bT X.K H0 O0 tc))(he:∀fp C s H,PE (bF X scope N' fp C s H) elt (up X.K H0 O0 te))
 (hs:∀x,YO iter X.env x=pure x:=by intro _;rfl):FE X H0 O0 (.ListComp elt [⟨tg,iter,ifs,0⟩] scope pos) (k6 t dg tc te k fr):=by
 intro aac s σ H Q I h;obtain⟨O,δ,Qd,w,q,kk⟩:=h;rcases q with q | q
 ·exact eF hc S hi gd hk hfr hg hf he hs aac s σ H Q I ⟨O,δ,Qd,w,q,kk⟩
 ·exact j2 hc S hi gd hk hfr hg hf he hs aac s σ H Q I ⟨O,δ,Qd,w,q,kk⟩
end
theorem Lx{fr:List Nat}{σ:St}{v u:Option V}:nT (bB 2 fr σ) (((bB 2 fr σ).set 0 v).set 1 u):=by
 refine⟨Yv,λi w h=>?_⟩
 match i with
 | 0=>simp [bB,Ri] at h
 | 1=>simp [bB,Ri] at h
 | i+2=>simpa [bB,Ri] using h
theorem vY{K:QV}{n:Nat}:j1 (rM K n (qi (i8 0) (qi (i8 1) rL))) 2:=λfr σ v H' R uu11=>by obtain⟨a,xs,e,h1,h2,x,r,e1,y,r2,e2,e3,h⟩:=uu11;exact⟨a,xs,e,h1,h2,x,r,e1,y,r2,e2,e3,Lx,h⟩
def C8(K:QV):R2:=λx y H Q=>∃a b xs ys,x= .ref a/\y= .ref b/\aZ K H a xs/\aZ K H b ys/\xs.length+ys.length<=YH/\(xs=[]->Q (.ref b) H)/\(xs≠[]->vd K x y H Q)
theorem C9{X:Cx}:bG X (Y8 .Add) (C8 X.K):=by
 intro aac s σ H x y v u Q I rx ry h;obtain⟨a,b,xs,ys,rfl,rfl,ha,hb,hz,q0,q1⟩:=h;by_cases hx:xs=[]
 ·subst hx;cases rx;cases ry;obtain⟨its,r1,⟨⟨c1,d1,da1,s1⟩,o1,k1,n1,e1⟩,_⟩:=I.tuple ha;obtain⟨its2,r2,⟨⟨c2,d2,da2,s2⟩,o2,k2,n2,e2⟩,_⟩:=I.tuple hb;simp only at k1 e1 k2 e2;subst k1 e1 k2 e2;cases r1;exact concat_meets ⟨_,o1,rfl⟩ ⟨_,o2,rfl⟩ Z8 seq_tuple_add Vx Vs (Vk _ _)
   (tuple_addW0 a b _ its2.toArray n1 n2 d1 d2 s1 s2 Yv) ⟨o1,o2,.ref b,H,I,rfl,q0 rfl⟩
 ·exact IG aac s σ H _ _ v u Q I rx ry (q1 hx)
def k7:Yw->Yw->(Yw->Prop)->Prop:=λx y Q=>∃xs ys,x= .tuple xs/\y= .tuple ys/\xs.length+ys.length<=YH/\Q (.tuple (xs++ys))
theorem Dc{K:QV}:cw K (C8 K) k7:=λH O x y dx dy Qd R tr hx hy uu12 k=>by
 obtain⟨xs,ys,e1,e2,hz,q⟩:=uu12;subst e1 e2;have hx0:=hx;have hy0:=hy;obtain⟨a,vs,rfl,h1,d1⟩:=hx.tup;obtain⟨b,us,rfl,h2,d2⟩:=hy.tup;refine⟨a,b,vs,us,rfl,rfl,h1,h2,by rw [d1.length,d2.length];exact hz,λz=>?_,λz=>?_⟩
 ·subst z;cases d1;rw [R7] at q;cases hy0 with
  | dt hy0=>exact k _ _ H q (au.refl _) hy0
 ·exact JS H O _ _ _ _ Qd R tr hx0 hy0 ⟨xs,ys,rfl,rfl,λe=>z (by subst e;cases d1;rfl),hz,q⟩ k
def dB(f:Str)(d:Yw):List (Str×Yw)->List (Str×Yw)
 | []=>[(f,d)]
 | (g,x)::r=>if g=f then(g,d)::r else(g,x)::dB f d r
theorem iD.put{K:QV}{H:Hp}{O:Ex}{f:Str}{v:V}{d:Yw}(hv:Dt K H O v d):∀{fs:List (Str×V)}{fd:List (Str×Yw)},iD K H O fs fd->iD K H O (cY f v fs) (dB f d fd)
 | [],[],_=>⟨rfl,.cons hv .nil⟩
 | [],_::_,h=>by cases h.1
 | _::_,[],h=>by cases h.1
 | (g,x)::fs,(g',y)::fd,⟨h1,h2⟩=>by
  simp only [Q0,RO] at h1;obtain⟨rfl,h1⟩:=h1;simp only [Q0] at h2;cases h2 with
  | cons a r=>
   unfold cY dB;by_cases e:g=f
   ·rw [Yt e,Yt e];exact⟨by simp only [Q0,h1],.cons hv r⟩
   ·rw [Ys e,Ys e];obtain⟨q1,q2⟩:=iD.put hv (fs:=fs) (fd:=fd) ⟨h1,r⟩;exact⟨by simp only [Q0,q1],.cons a q2⟩
section
variable {X:Cx} {H0:Hp} {O0:Ex}
def k8(C:Yz)(i:Nat)(f:Str)(t:DT):DS:=λE δ=>t δ λd=>∃l fd,δ[i]?=some (some (.i l C fd))/\fd.length < 1000/\E.nx (δ.set i (some (.i l C (dB f d fd))))
theorem fI{C:Yz}{i:Nat}{f:Str}{o e:YF}{t:DT}{pos pos':Pos}(hc:cS X.K C)(hn:NoAttr X.K C f)(ho:PE X o (cK i))(he:DE X H0 O0 e t)(hs:YS e (some (.Attribute o f pos')) pos.line X.env=pure false:=by rfl):
 PS X (.Assign [.Attribute o f pos'] e pos) (bf X.K H0 O0 (k8 C i f t)):=
 (vb ho he hs).imp λD σ H ⟨O,δ,E,w,q,k1,k2,k3,k4⟩=>⟨O,δ,_,w,q,λd u H1 uu14 s1 r1=>by
  obtain⟨l,fd,e,hl,q1⟩:=uu14;have w1:=w.mono s1;obtain⟨dx,fs,h,a,b,c,r⟩:=w1.ownI e;have lf:fs.length=fd.length:=by have:=congrArg VU r.1;simpa using this
  refine⟨.ref l,h,l,C,dx,fs,rfl,c,hc,hn,by rw [lf];exact hl,k1 _ _ _ _ q1 (w1.putY (y0:= .i l C fd) (y1:= .i l C (dB f d fd)) trivial trivial e h λS a b=>⟨dx,_,rfl,a,b,bq,?_⟩) ⟨λb' o' z n=>?_,λ_ _ n=>n⟩⟩
  ·obtain⟨z1,z2⟩:=r.put (f:=f) r1;exact⟨z1,z2.step S⟩
  ·rw [az (λy=>n (by rw [y];exact a))];exact s1 _ _ z⟩
abbrev Dd(C:Yz)(fd:List (Str×Yw)):Yw:=fz C (fd.map λp=>.str p.1) (fd.map (·.2))
inductive qQ (K:QV) (C:Yz) (F:List Yw->(Yw->Prop)->Prop) (vs:List V) (H:Hp) (Q:VK) (E:XK):Prop
 | mk (x dx:Yz) (vs':List V) (H1:Hp) (O:Ex) (ds:List Yw) (Qd:Yw->Prop):vs= .ref x::vs'->H=ah (ah H1 dx (.own x)) x (.ins C dx [])->H1 x=none->H1 dx=none->dx≠x->(∀l,O l->H1 l≠none)->ai K H1 O vs' ds->F ds Qd->
 (∀d H',Qd d->au H1 H'->Dt K H' O (.ref x) d->Q .non H')->qQ K C F vs H Q E
theorem vZ{K:QV}{C:Yz}{F:List Yw->(Yw->Prop)->Prop}{t:DA}{E:XK}:∀σ H Q,up K H0 O0 (gH F t) σ H Q->Bs C (qQ K C F) [] E (fT K H0 O0 t) σ H Q:=
 λσ H Q uu15=>by obtain⟨O,δ,Qd,w,q,k⟩:=uu15;exact⟨O,δ,_,w,q,λds vs H1 q1 s1 r1 x dx hx hdx ne=>⟨x,dx,vs,H1,O,ds,Qd,by rw [RN],rfl,hx,hdx,ne,(w.mono s1).trk,r1,q1,λd H2 q2 s2 r2=>⟨rfl,k d _ H2 q2 (s1.trans s2) r2⟩⟩⟩
def tf(N:List Str)(l C:Yz)(ds:List Yw):Dl:=some (.i l C [])::(eJ N (.none::ds)).tail
theorem Ly{K:QV}{H1:Hp}{O:Ex}{N:List Str}{vs:List V}{ds:List Yw}{x dx C:Yz}(tr:∀l,O l->H1 l≠none)(r:ai K H1 O vs ds)(hx:H1 x=none)(hdx:H1 dx=none)(ne:dx≠x):
 Wd K H1 O (ah (ah H1 dx (.own x)) x (.ins C dx [])) (λl=>O l\/l=x) (start N (.ref x::vs)) (tf N x C ds):=by
 have w0:=B1 (N:=N) tr (.cons .non r);have w1:=w0.mono (au.new (o:=HO.own x) hdx);have hx1:(ah H1 dx (.own x)) x=none:=by rw [az (Ne.symm ne)];exact hx
 have:=w1.setY (i:=0) (p:=x) (ho:= .ins C dx []) (y0:= .i x C []) trivial hx1 λO' S a b=>⟨dx,[],rfl,a,b,bq,rfl,.nil⟩;exact this
end
section
variable {P:YI} {w:YJ} {K:QV} {mg:Str->Option Yx} {base:YK}
theorem eB.okI{x qual:Str}{st:YL}{f C:Yz}{fd:YG}{N ps:List Str}{k:Nat}{F:List Yw->(Yw->Prop)->Prop}(Fu:eB K x qual st f fd)(S:aO N ps (av st))(len:∀ds Q,F ds Q->ds.length+1=ps.length)
 (hbody:∀(cdv:Yx) (A:YN) (outer:List Env) (s:YA) (H H1:Hp) (O:Ex) (ds:List Yw) (Q:Yw->Prop) (E:XK) (l:Yz),bp k (A.deeper (Zx qual (av st) s.heap.objs.size f cdv))->F ds Q->
  ∃t,bP (iB CX0 P w K mg base N qual (av st) f cdv A outer s H E).nox (fu st) (bf K H1 O t)/\t {nx:=λδ=>∃fd,δ[0]?=some (some (.i l C fd))/\Q (Dd C fd),rt:=λ_=>False} (tf N l C ds)):aA P w K mg base CX0 (k+1) f fd ps (qQ K C F):=by
 refine Fu.ok S (λvs H Q E h=>?_) (λcdv A outer s H vs Q E hr h=>?_)
 ·obtain⟨x,dx,vs',H1,O,ds,Qd,rfl,_,_,_,_,_,r,q,_⟩:=h;rw [Q8,r.length];exact len _ _ q
 ·obtain⟨x,dx,vs',H1,O,ds,Qd,rfl,rfl,hx,hdx,ne,tr,r,q,k⟩:=h;obtain⟨t,ht,q'⟩:=hbody cdv A outer s _ H1 O ds Qd E x hr q;refine⟨_,ht,_,_,_,Ly tr r hx hdx ne,q',λO' δ' σ' H' z w' S'=>?_,λd v H' z s' r'=>z.elim,λ_ _ _ _ z=>z.elim,λ_ _ _ _ z=>z.elim⟩;obtain⟨fd,e,z⟩:=z;obtain⟨dx',fs,h,a,b,c,r1,r2⟩:=w'.ownI e;refine k _ _ z w'.same (.obj c ?_ b (r2.step ⟨λ_ _ y _=>y,λb' _ n z=>n (w'.sub b' z)⟩));rw [show(fd.map λp:Str×Yw=>QZ p.1)=(fd.map (·.1)).map QZ by rw [Rm];rfl,<-r1,Rm];rfl
end
theorem Dt.objI{K:QV}{H:Hp}{O:Ex}{v:V}{C:Yz}{kp ds:List Yw}(h:Dt K H O v (fz C kp ds)):∃a dx fs,v= .ref a/\H a=some (.ins C dx fs)/\kp=fs.map (λp=>QZ p.1)/\ai K H O (fs.map (·.2)) ds:=by
 generalize e:fz C kp ds=x at h;cases h with
 | @obj a C' dx fs kp' ds' h1 h2 n r=>
  simp only [fz,Xr,RO,VA,Si,Sb,SU,and_true,true_and] at e;obtain⟨e1,e2,e3⟩:=e;have e1:C=C':=by exact_mod_cast e1
  subst e1 e2 e3;exact⟨a,dx,fs,rfl,h1,h2,r⟩
 | _=>first | cases e | simp [fz] at e
section
variable {X:Cx} {H0:Hp} {O0:Ex}
theorem Df{K:QV}{H:Hp}{O:Ex}{f:Str}{d:Yw}:∀{fs:List (Str×V)}{ks:List Str}{ds:List Yw},fs.map (λp=>QZ p.1)=ks.map QZ->ai K H O (fs.map (·.2)) ds->bh ks ds f=some d->∃v,fs.lookup f=some v/\Dt K H O v d
 | [],[],ds,_,_,e=>by unfold bh at e;cases e
 | [],_::_,ds,h,_,_=>by cases h
 | _::_,[],ds,h,_,_=>by cases h
 | (g,x)::fs,k::ks,ds,h,hd,e=>by
  rw [Q0] at hd;cases hd with
  | cons h1 h2=>
   simp only [Q0,RO,Sj] at h;obtain⟨rfl,h⟩:=h;unfold bh at e;rw [RG];by_cases hk:g=f
   ·rw [Yt hk] at e;cases e;subst hk;exact⟨x,Yv,h1⟩
   ·rw [Ys hk] at e;have:(f==g)=false:=by simpa using Ne.symm hk
    rw [this];exact Df h h2 e
def k9(C:Yz)(f:Str)(t:DT):DT:=λδ Q=>t δ λx=>∃ks ds d,x=fz C (ks.map .str) ds/\bh ks ds f=some d/\Q d
theorem cb{C:Yz}{f:Str}{e:YF}{t:DT}{pos:Pos}(hc:cS X.K C)(hn:NoAttr X.K C f)(he:DE X H0 O0 e t)(hb:Y4 e f X.env (eval e X.env)=eval e X.env:=by rfl):DE X H0 O0 (.Attribute e f pos) (k9 C f t):=
 (rV he hb).imp λσ H Q uu16=>by obtain⟨O,δ,Qd,w,q,k⟩:=uu16;exact⟨O,δ,_,w,q,λx v H1 uu17 s1 r1=>by
  obtain⟨ks,ds,d,ex,ed,q1⟩:=uu17;subst ex;obtain⟨a,dx,fs,rfl,h1,h2,r⟩:=r1.objI;obtain⟨v,hv,dv⟩:=Df h2.symm r ed;exact⟨a,C,dx,fs,v,rfl,h1,hc,hn,hv,k _ _ _ q1 s1 dv⟩⟩
end
def gc(xs:Array Nat):Prop:=xs.toList.Pairwise (· < ·)
theorem gc.lt{xs:Array Nat}(h:gc xs){i k:Nat}(hik:i < k)(hk:k < xs.size):xs[i]'Yr < xs[k]:=by
 have:=Vh.mp h i k (by simpa using(by omega:i < xs.size)) (by simpa using hk) hik;simpa using this
theorem Lz{xs:Array Nat}(h:gc xs){j:Nat}:∀(f lo hi:Nat),hi - lo<=f->lo<=hi->hi<=xs.size->(∀k(hk:k < xs.size),k < lo->xs[k] < j)->(∀k(hk:k < xs.size),hi<=k->j<=xs[k])->
 lo<=UZ xs j f lo hi/\UZ xs j f lo hi<=hi/\(∀k(hk:k < xs.size),k < UZ xs j f lo hi->xs[k] < j)/\(∀k(hk:k < xs.size),UZ xs j f lo hi<=k->j<=xs[k]):=by
 intro f
 induction f with
 | zero=>
  intro lo hi a b c d e;obtain rfl:lo=hi:=Yr
  exact⟨QY _,QY _,d,e⟩
 | succ f ih=>
  intro lo hi a b c d e;unfold UZ;by_cases hl:lo < hi
  ·rw [Yt hl];simp only;have hm:(lo+hi)/ 2 < xs.size:=Yr
   have eg:xs.getD ((lo+hi)/ 2) j=xs[(lo+hi)/ 2]:=by simp [Ux,hm]
   rw [eg];split
   ·rename_i hx;have d':∀k(hk:k < xs.size),k < (lo+hi)/ 2+1->xs[k] < j:=λk hk hlt=>by
     rcases Tf k ((lo+hi)/ 2) with z | z
     ·exact X9 (h.lt z hm) hx
     ·obtain rfl:k=(lo+hi)/ 2:=Yr
      exact hx
    obtain⟨p,q,r,s⟩:=ih ((lo+hi)/ 2+1) hi Yr Yr c d' e;exact⟨Yr,q,r,s⟩
   ·rename_i hx;have e':∀k(hk:k < xs.size),(lo+hi)/ 2<=k->j<=xs[k]:=λk hk hge=>by
     rcases Tf ((lo+hi)/ 2) k with z | z
     ·exact Rx (TJ hx) (TV (h.lt z hk))
     ·obtain rfl:k=(lo+hi)/ 2:=Yr
      exact TJ hx
    obtain⟨p,q,r,s⟩:=ih lo ((lo+hi)/ 2) Yr Yr Yr d e';exact⟨p,Yr,r,s⟩
  ·rw [Ys hl];obtain rfl:lo=hi:=Yr
   exact⟨QY _,QY _,d,e⟩
theorem v8{xs:Array Nat}(h:gc xs)(j:Nat):SK xs j<=xs.size/\(∀k(hk:k < xs.size),k < SK xs j->xs[k] < j)/\(∀k(hk:k < xs.size),SK xs j<=k->j<=xs[k]):=by
 unfold SK;obtain⟨_,b,c,d⟩:=Lz h (j:=j) xs.size 0 xs.size Yr (RL _) (QY _) (λk hk z=>absurd z Yr) (λk hk z=>absurd hk Yr);exact⟨b,c,d⟩
theorem LA{xs:Array Nat}(h:gc xs){i:Nat}(hi:i < xs.size):SK xs (xs[i]+1)=i+1:=by
 obtain⟨a,b,c⟩:=v8 h (xs[i]+1);apply Nat.le_antisymm
 ·refine TJ λz=>?_;have:=b (i+1) Yr z;have:=h.lt (show i < i+1 by omega) (show i+1 < xs.size by omega);omega
 ·refine TJ λz=>?_;have:=c i hi Yr;omega
theorem LB{xs:Array Nat}(h:gc xs):SK xs 0=0:=by
 obtain⟨a,b,c⟩:=v8 h 0;refine Nat.eq_zero_of_not_pos λz=>?_;exact absurd (b 0 Yr z) Yr
theorem gc.ins{xs:Array Nat}(h:gc xs){j:Nat}(hj:xs[SK xs j]?≠some j):gc (SetTable.insertAt xs (SK xs j) j):=by
 obtain⟨a,b,c⟩:=v8 h j;have h0:xs.toList.Pairwise (· < ·):=h;unfold gc;rw [SetTable.toList_insertAt];generalize SK xs j=p at*;rw [<-TQ p xs.toList,U6] at h0;rw [U6];have lt1:∀x∈xs.toList.take p,x < j:=λx hx=>by
  obtain⟨k,hk,rfl⟩:=VP hx;rw [RI] at hk;rw [List.getElem_take];have:=b k (by simp at hk;omega) Yr;simpa using this
 have lt2:∀x∈xs.toList.drop p,j < x:=λx hx=>by
  obtain⟨k,hk,rfl⟩:=VP hx;rw [TH] at hk;rw [List.getElem_drop];have hs:p+k < xs.size:=by simp at hk;omega
  have h1:=c (p+k) hs Yr;have h2:xs[p+k]≠j:=λe=>by
   rcases VW k with z | z
   ·subst z;exact hj (by rw [Uy (show p < xs.size from hs)];exact congrArg some e)
   ·have:=c p Yr (QY _);have:=h.lt (show p < p+k by omega) hs;omega
  have:j < xs[p+k]:=Yr
  simpa using this
 refine⟨h0.1,Sy.mpr ⟨lt2,h0.2.1⟩,λx hx y hy=>?_⟩;rcases Q4.mp hy with e | hy
 ·rw [e];exact lt1 x hx
 ·exact h0.2.2 x hx y hy
theorem LC{t:Zc}{ha:Nat->Int}{h:Int}(hd:t.dummies=#[]):∀(f:Nat)(p:SetTable.Probe){j:Nat}{d:Option Nat},p.dummy=none->Xs t ha h f p=some (.empty j d)->d=none/\t.place[SK t.place j]?≠some j:=by
 intro f
 induction f with
 | zero=>intro p j d _ e;cases e
 | succ f ih=>
  intro p j d hp e;unfold Xs at e;have nd:∀k,SetTable.has t.dummies k=false:=λk=>by rw [hd];rfl
  have adv:(t.advance p).dummy=none:=by unfold SetTable.advance;split <;> exact hp
  cases hs:t.slot p.j with
  | empty=>
   rw [hs] at e;simp only [Sn,SetTable.Met.empty.injEq] at e;obtain⟨rfl,rfl⟩:=e;refine⟨hp,λz=>?_⟩;unfold X4 at hs;simp only [z,beq_self_eq_true,if_true] at hs;cases hs
  | dummy=>
   unfold X4 at hs;simp only [nd] at hs;split at hs
   ·cases hs
   ·simp at hs
  | live i=>
   rw [hs] at e;simp only at e;split at e
   ·cases e
   ·exact ih _ adv e
structure dS (t:Zc):Prop where
 ris:gc t.place
 dum:t.dummies=#[]
theorem dS.fresh{f m:Nat}{l:Bool}:dS (.fresh f m l):=⟨.nil,rfl⟩
theorem LD(n:Nat):gc (Array.range n):=by
 unfold gc;rw [Array.toList_range];exact WN
theorem dS.standIn{t:Zc}{n:Nat}:dS (t.standIn n):=⟨LD n,rfl⟩
theorem dS.orStandIn{t:Zc}{n:Nat}(h:dS t):dS (t.orStandIn n):=by
 unfold Xf;split
 ·exact h
 ·exact .standIn
theorem dS.layNew{t:Zc}(h:dS t)(es:Array (Int×Yx))(hs:Int)(x:Yx):dS (layNew t es hs x).2.1:=by
 unfold PySem.layNew;cases hf:t.freeSlot hs with
 | none=>exact .standIn
 | some q=>
  obtain⟨slot,wd⟩:=q;simp only;refine dS.orStandIn ?_;unfold SetTable.freeSlot at hf;split at hf
  ·rename_i j d hp;simp only [Sn,VA] at hf;obtain⟨e1,e2⟩:=hf;obtain⟨rfl,nj⟩:=LC h.dum _ _ (by rfl) hp;simp at e1;subst e1;unfold SetTable.put;refine⟨h.ris.ins nj,?_⟩;simp only [h.dum];rfl
  ·cases hf
theorem dS.relay{t:Zc}(h:dS t)(es:Array (Int×Yx))(n:Nat):dS (ZN t es n).2.1:=by
 unfold ZN;split
 ·rename_i t' order hr;dsimp only;split
  ·unfold XQ X1 at hr;cases hc:Xp (Xg n - 1) (es.map (·.1)) with
   | none=>rw [hc] at hr;cases hr
   | some ow=>
    rw [hc] at hr;simp only [bind,Yh,pure,Sn,VA] at hr;obtain⟨e1,_⟩:=hr;subst e1;refine⟨?_,rfl⟩;unfold gc;simp only [List.toList_toArray];rw [Sm];refine List.Pairwise.filterMap _ (λa a' hl b hb b' hb'=>?_) WN;cases h1:ow.getD a none with
    | none=>rw [h1] at hb;cases hb
    | some u=>
     cases h2:ow.getD a' none with
     | none=>rw [h2] at hb';cases hb'
     | some u'=>
      rw [h1] at hb;rw [h2] at hb';cases hb;cases hb';exact hl
  ·exact .standIn
 ·exact .standIn
structure LF (P:YI) (w:YJ) (o:Obj) (ss:List Int):Prop where
 ex:o.ExactSet
 da:∃es ep t,o.data= .set es ep t/\ElemsOf (ZG P w) es.toList/\(∃ss',YZ (es.toList.map (·.2)) ss'/\ss'.Perm ss)/\es.size < Zt/\t.fits es.size=true/\(fY w=true\/t.led=true)/\dS t
def cM(P:YI)(w:YJ)(h:YK)(a:Yz)(ss:List Int):Prop:=∃o,h.get? a=some o/\LF P w o ss
theorem Dg{k:Int}:∀{vs:List Yx}{ss:List Int},YZ vs ss->((∃v∈vs,v.isInt k=true)↔k∈ss)
 | _,_,.nil=>by simp
 | _,_,.cons x t r=>by
  have ih:=Dg (k:=k) r;constructor
  ·rintro⟨v,hv,e⟩;rcases Q4.mp hv with z | z
   ·subst z;obtain⟨u,e'⟩:=Xm e;cases e';exact RK
   ·exact Ru _ (ih.mp ⟨v,z,e⟩)
  ·intro hk;rcases Q4.mp hk with z | z
   ·subst z;exact⟨_,RK,by simp [Xx]⟩
   ·obtain⟨v,hv,e⟩:=ih.mpr z;exact⟨v,Ru _ hv,e⟩
theorem ti{vs vs':List Yx}(p:vs'.Perm vs):∀{ss:List Int},YZ vs ss->∃ss',YZ vs' ss'/\ss'.Perm ss:=by
 induction p with
 | nil=>intro ss h;exact⟨ss,h,.refl _⟩
 | cons x p ih=>
  intro ss h;cases h with
  | cons y t r=>obtain⟨s1,a,b⟩:=ih r;exact⟨y::s1,.cons y t a,b.cons y⟩
 | swap x y l=>
  intro ss h;cases h with
  | cons a t r=>cases r with | cons b u r=>exact⟨b::a::_,.cons b u (.cons a t r),.swap _ _ _⟩
 | trans p q ih1 ih2=>
  intro ss h;obtain⟨s1,a,b⟩:=ih2 h;obtain⟨s2,c,d⟩:=ih1 a;exact⟨s2,c,d.trans b⟩
theorem Dh{x:Int}{t:Tok}:∀{vs:List Yx}{ss:List Int},YZ vs ss->YZ (vs++[.int x t]) (ss++[x])
 | _,_,.nil=>.cons x t .nil
 | _,_,.cons y u r=>.cons y u (Dh r)
theorem qR:∀{vs:List Yx}{ss:List Int},YZ vs ss->vs.length=ss.length
 | _,_,.nil=>rfl
 | _,_,.cons y u r=>by simp [qR r]
def dU(ss:List Int)(x:Int):List Int:=if x∈ss then ss else ss++[x]
section
variable {P:YI} {w:YJ} {A:YN} {E:Yx->YA->Prop} {s:YA}
theorem cM.mk{h:YK}{a:Yz}{o:Obj}{es es':Array (Int×Yx)}{ep:Nat}{t t':Zc}{ss:List Int}(o1:h.get? a=some o)(x1:o.ExactSet)(d1:o.data= .set es ep t)
 (el:ElemsOf (ZG P w) es'.toList)(sp:∃ss',YZ (es'.toList.map (·.2)) ss'/\ss'.Perm ss)(b1:es'.size < Zt)(f1:t'.fits es'.size=true)(l1:fY w=true\/t'.led=true)(p1:dS t'):
 (h.update a (Wm es' t')).get? a=some {o with data:= .set es' (ep+1) t'}/\cM P w (h.update a (Wm es' t')) a ss:=by
 have g:(h.update a (Wm es' t')).get? a=some {o with data:= .set es' (ep+1) t'}:=by
  have z:=SV (Wm es' t') o1 (by rw [putSet_of es' t' d1];rfl);rw [putSet_of es' t' d1] at z;exact z
 exact⟨g,_,g,x1,es',ep+1,t',rfl,el,sp,b1,f1,l1,p1⟩
theorem Di{g:Bool->Sem Unit}(hg:∀(b:Bool) (s₁:YA) (Q':Unit->YA->Prop),Q' () s₁->YC (YE P w) A (g b) Q' E s₁)
 {a:Yz}{o:Obj}{es:Array (Int×Yx)}{ep:Nat}{t:Zc}(o1:s.heap.get? a=some o)(x1:o.ExactSet)(d1:o.data= .set es ep t)
 {es1:Array (Int×Yx)}{t2:Zc}{ss:List Int}(el:ElemsOf (ZG P w) es1.toList)(sp:∃ss',YZ (es1.toList.map (·.2)) ss'/\ss'.Perm ss)
 (b1:es1.size < Zt)(f2:t2.fits es1.size=true)(l2:fY w=true\/t2.led=true)(p2:dS t2){wd:Bool}{R:Option Bool->YA->Prop}
 (h:∀h',Tx a s.heap h'->cM P w h' a ss->R (some true) {s with heap:=h'}):
 YC (YE P w) A (do
  storeSet a es1 t2
  if (!wd && t2.tooFull)=true then do
   g (ZN t2 es1 (Ub es1.size)).2.2
   storeSet a (ZN t2 es1 (Ub es1.size)).1 (ZN t2 es1 (Ub es1.size)).2.1
   pure (some true)
   else pure (some true)) R E s:=by
 refine Yy (wpAny_storeSet_of o1 d1 ?_ (fits_of_scanBound b1));obtain⟨o2,S2⟩:=cM.mk (P:=P) o1 x1 d1 el sp b1 f2 l2 p2;have sb:=RV s.heap a (Wm es1 t2);split
 ·have rp:=relayAll_perm t2 es1 (Ub es1.size);have rf:=relayAll_fits t2 es1 (Ub es1.size);have rl:=KZ t2 es1 (Ub es1.size);have rq:=p2.relay es1 (Ub es1.size);generalize ZN t2 es1 (Ub es1.size)=Z at rp rf rl rq⊢;obtain⟨es2,t3,gv⟩:=Z;dsimp only at rp rf rl rq⊢;have sz:es2.size=es1.size:=by rw [<-RE,rp.length_eq,RE]
  obtain⟨ss',q1,q2⟩:=sp;obtain⟨ss2,q3,q4⟩:=ti (rp.map (·.2)) q1;refine Yy (hg _ _ _ (Yy (wpAny_storeSet_of o2 rfl ?_ (fits_of_scanBound (by rw [sz];exact b1)))));obtain⟨_,S3⟩:=cM.mk (P:=P) (w:=w) (t':=t3) o2 x1 rfl (el.perm rp) ⟨ss2,q3,q4.trans q2⟩ (by rw [sz];exact b1) rf (by rw [rl];exact l2) rq;exact YB (h _ (sb.trans (RV _ a _)) S3)
 ·exact YB (h _ sb S2)
theorem LG{a:Yz}{ss:List Int}{x:Int}{tk:Tok}{Q:Bool->YA->Prop}(hS:cM P w s.heap a ss)(hroom:ss.length+1 < Zt)
 (h:∀h' b,Tx a s.heap h'->cM P w h' a (dU ss x)->Q b {s with heap:=h'}):
 YC (YE P w) A (setAddHashed a (.int x tk) (hashInt x)) Q E s:=by
 obtain⟨o,o1,x1,es,ep,t,d1,el,⟨ss',s1,s2⟩,b1,f1,l1,p1⟩:=hS;have hk:(ZG P w).is x (.int x tk)=true:=intKind_is _ _ _ _;have hsc:(TL x tk).scannable=true:=rfl;have ln:es.size=ss.length:=by rw [<-s2.length_eq,<-qR s1,QW,RE]
 unfold setAddHashed setAddHashedIn;refine Y2 (Yy (Zl o1 d1 f1 ?_));dsimp only;rw [byScan_of hsc b1 el,Yt rfl];unfold setAddByScan;refine Yy (Yy (ZX (Yy (wpAny_setScan_of hk o1 d1 f1 el ?_))));have mem:(∃e∈es.toList,(ZG P w).is x e.2=true)↔x∈ss:=by
  rw [<-s2.mem_iff,<-Dg s1];constructor
  ·rintro⟨e,he,q⟩;exact⟨e.2,Rf.mpr ⟨e,he,rfl⟩,q⟩
  ·rintro⟨v,hv,q⟩;obtain⟨e,he,rfl⟩:=Rf.mp hv;exact⟨e,he,q⟩
 cases hr:List.findIdx? (λe=>(ZG P w).is x e.2) es.toList with
 | some j=>
  obtain⟨hj,hp,_⟩:=List.findIdx?_eq_some_iff_getElem.mp hr;have hx:x∈ss:=mem.mp ⟨_,Tg hj,hp⟩;refine YB (YB ?_);have z:=h s.heap false (Tx.refl a s.heap) (by unfold dU;rw [Yt hx];exact⟨o,o1,x1,es,ep,t,d1,el,⟨ss',s1,s2⟩,b1,f1,l1,p1⟩);have e:s={s with heap:=s.heap}:=by cases s;rfl
  rw [e];exact z
 | none=>
  dsimp only;have hx:x ∉ ss:=λz=>by
   obtain⟨e,he,q⟩:=mem.mpr z;have:=List.findIdx?_eq_none_iff.mp hr e he;rw [q] at this;cases this
  have eS:dU ss x=ss++[x]:=Ys hx;rw [eS] at h;have lp:=layNew_perm t es (hashInt x) (.int x tk);have lf:=layNew_fits t es (hashInt x) (.int x tk);have ll:=KY t es (hashInt x) (.int x tk);have lt:=p1.layNew es (hashInt x) (.int x tk);generalize layNew t es (hashInt x) (.int x tk)=L at lp lf ll lt⊢;obtain⟨es1,t1,wd,gv⟩:=L;dsimp only at lp lf ll lt⊢;rw [Xq] at lp;have el1:ElemsOf (ZG P w) es1.toList:=(el.push hk hsc).perm lp;have sp1:∃ss',YZ (es1.toList.map (·.2)) ss'/\ss'.Perm (ss++[x]):=by
   have s3:YZ ((es.toList++[(hashInt x,TL x tk)]).map (·.2)) (ss'++[x]):=by
    rw [Rq];exact Dh s1
   obtain⟨s4,q1,q2⟩:=ti (lp.map (·.2)) s3;exact⟨s4,q1,q2.trans (s2.append_right _)⟩
  have n1:es1.size=es.size+1:=by rw [<-RE,lp.length_eq];simp
  have b2:es1.size < Zt:=Yr
  have l2:fY w=true\/t1.led=true:=by rw [ll];exact l1
  have gw:∀(b:Bool)(s₁:YA)(Q':Unit->YA->Prop),Q' () s₁->YC (YE P w) A (match b with | true=>rule "set.scan.the-table-gave-way" | false=>pure ()) Q' E s₁:=
   λb s₁ Q' z=>by cases b <;> first | exact YB z | exact ZX z
  refine Yy (gw _ _ _ ?_);split
  ·refine Yy ?_;rw [hashByValue_scannable 8 hsc];refine YB ?_;rw [Yt (show plainKind (TL x tk)=true from rfl)];exact Di gw o1 x1 d1 el1 sp1 b2 lf l2 lt λh' sb S'=>YB (h h' true sb S')
  ·refine Yy (YB ?_);rw [Yt rfl];exact Di gw o1 x1 d1 el1 sp1 b2 lf l2 lt λh' sb S'=>YB (h h' true sb S')
end
def lh(val:Nat->Int)(i:Nat):List Int:=((SO i).map val).foldl dU []
theorem Dj(val:Nat->Int)(i:Nat):lh val (i+1)=dU (lh val i) (val i):=by
 unfold lh;rw [WK,Rq,Uu];rfl
theorem Dk(val:Nat->Int):∀i,(lh val i).length<=i
 | 0=>QY _
 | i+1=>by
  have ih:=Dk val i;rw [Dj];unfold dU;split
  ·omega
  ·simp;omega
theorem LH{ss:List Int}{x:Int}(h:ss.Nodup):(dU ss x).Nodup:=by
 unfold dU;split
 ·exact h
 ·rename_i hx;refine Wh.mpr ⟨h,Yv,λa ha b hb=>?_⟩;rw [Rk] at hb;subst hb;intro e;subst e;exact hx ha
theorem LI{ss:List Int}{x y:Int}:y∈dU ss x↔y∈ss\/y=x:=by
 unfold dU;split
 ·rename_i hx;exact⟨.inl,λz=>z.elim id λe=>by subst e;exact hx⟩
 ·simp
theorem v9{y:Int}:∀{l ss:List Int},y∈l.foldl dU ss↔y∈ss\/y∈l
 | [],ss=>by simp
 | a::l,ss=>by rw [RX,v9,LI,Q4];exact or_assoc
theorem wa:∀{l ss:List Int},ss.Nodup->(l.foldl dU ss).Nodup
 | [],_,h=>h
 | a::l,_,h=>by rw [RX];exact wa (LH h)
theorem cM.stay{P:YI}{w:YJ}{h h':YK}{a:Yz}{ss:List Int}(x:cM P w h a ss)(k:∀o,h.get? a=some o->h'.get? a=some o):cM P w h' a ss:=
 let ⟨o,e,r⟩:=x;⟨o,k o e,r⟩
section
variable {P:YI} {w:YJ} {A:YN} {R:Result->YA->Prop} {I:Yz} {fp wr:List Yz} {G:Array aaa->Array aaa->Prop} {n:Nat} {Pv:Nat->Yx->Prop} {St:Nat->YA->Prop}
theorem LJ(W:WalksS P w A.in1 I fp wr G n Pv St)(S:Yz)(hSf:S ∉ fp)(val:Nat->Int)(hval:∀i v,Pv i v->∃t,v= .int (val i) t)(hb:n+1 < Zt):
 ∀(k i:Nat)(s:YA),n - i=k->i<=n->St i s->cM P w s.heap S (lh val i)->
  (∀s',Moved (S::wr) G s s'->cM P w s'.heap S (lh val n)->R (.ok (.ret .none)) s')->Zq (YE P w) A (.builtin "set.update.loop" ⟨[.ref S,.ref I],[]⟩) R s:=by
 have sw:S ∉ wr:=λz=>hSf (W.sub _ z);have sub:∀b∈wr,b∈S::wr:=λb z=>Ru _ z;intro k
 induction k with
 | zero=>
  intro i s e1 e2 st hS q;obtain rfl:i=n:=Yr
  refine Zs Vn ?_;rw [Uw Ug _];show YC _ A.in1 (Zr (.ref I) >>=_) _ _ s;exact Yy (W.done s _ _ st λs' m=>YB (q s' (m.mono sub) (hS.stay λo e=>m.heap S o sw e)))
 | succ k ih=>
  intro i s e1 e2 st hS q;have lt:i < n:=Yr
  refine Zs Vn ?_;rw [Uw Ug _];show YC _ A.in1 (Zr (.ref I) >>=_) _ _ s;refine Yy (W.item i s _ _ lt st λv s' hP st' m=>?_);obtain⟨t,rfl⟩:=hval i v hP;have hS':=hS.stay (h':=s'.heap) λo e=>m.heap S o sw e;show YC _ A.in1 (ZH [TL (val i) t] (setAdd S (.int (val i) t)) >>=_) _ _ s';refine Yy (Y2 ?_);unfold setAdd;refine Y2 (Yy ((ZG P w).pyHash (k:=val i) (intKind_is _ _ _ _) ?_));have rm:(lh val i).length+1 < Zt:=by have:=Dk val i;omega
  refine LG (s:={s' with toks:=s'.toks+1}) hS' rm λh' b sb S2=>?_;rw [<-Dj] at S2;refine YB ⟨ZM Ug _,ih (i+1) _ Yr lt (W.frame _ s' _ _ st' (Sr _) λb hb o e=>?_) S2 λs2 m2 S3=>?_⟩
  ·rw [sb.2 b (λz:b=S=>hSf (by rw [<-z];exact hb))];exact e
  ·refine q s2 (Moved.trans W.gtrans ((m.mono sub).then_heap (Sr _) λb o hb e=>?_) m2) S3;rw [sb.2 b (λz:b=S=>hb (by rw [z];exact RK))];exact e
end
section
variable {P:YI} {w:YJ} {A:YN} {E:Yx->YA->Prop} {s:YA}
theorem cM.fresh{h:YK}{a:Yz}(e:h.get? a=some {cls:= .type "set",dict:=none,data:= .set #[] 0 (.fresh 0 0 (!fY w))}):cM P w h a []:=by
 refine⟨_,e,⟨rfl,rfl,rfl⟩,#[],0,_,rfl,λe he=>by simp at he,⟨[],.nil,.refl _⟩,Yq,rfl,?_,dS.fresh⟩;cases hb:fY w with
 | true=>exact .inl rfl
 | false=>exact .inr rfl
theorem LK{l:Yz}{items:Array Yx}{ss:List Int}{Q:Yx->YA->Prop}
 (hh:A.handled=none)(hl:s.heap.IsList l items)(hi:YZ items.toList ss)(hb:items.size+1 < Zt)
 (h:∀(h':YK) (tk:Nat),cM P w h' s.heap.objs.size (ss.foldl dU [])->(∀b o,s.heap.get? b=some o->h'.get? b=some o)->Q (.ref s.heap.objs.size) {s with heap:=h',toks:=tk}):
 YC (YE P w) A (call (.type "set") [.ref l]) Q E s:=by
 obtain⟨c,tl,hmro⟩:=PySem.F.called_set.mro;have hmade:=PySem.F.called_set.made;have hsub:=PySem.F.called_set.sub;refine wpAny_call (codeAny_of_tree ?_);show YC _ _ (callAny (.type "set") _) _ _ _;refine YB ⟨Code.quiet_builtin _ Yp,Zs PySem.F.entry_type_call ?_⟩;rw [Around.under_plain (weight_type_call_type "set" [.ref l] []) rfl];have h1:=PySem.F.called_set.notType;have h2:=PySem.F.called_set.canCreate;have hct:=PySem.F.typeCall_set_1 (.ref l)
 repeat (any_goals (first | assumption | wp_step))
 generalize hob:({cls:= .type "set",dict:=none,data:= .set #[] 0 (.fresh 0 0 (!fY w))}:Obj)=ob;refine Zn (K0 (P:=P) (w:=w) (.ref l) (E:=E) (Q₁:=λu s₁=>u= .ref s.heap.objs.size/\s₁={s with heap:=s.heap.push ob}) (by subst hob;exact⟨rfl,rfl⟩)) λr s₁ hr=>?_;cases r with
 | error e=>exact hr
 | ok fl=>
  cases fl with
  | ret u=>
   obtain⟨rfl,rfl⟩:=hr;have hS:(s.heap.push ob).get? s.heap.objs.size=some ob:=Rl _ (by subst hob;rfl);have hT:Shared.TypeIs {s with heap:=s.heap.push ob} (.ref s.heap.objs.size) "set":=⟨_,hS,by subst hob;rfl⟩;have hli:=PySem.F.called_set.init.lookup;have hbi:=PySem.F.called_set.init.bind (.ref s.heap.objs.size)
   repeat (any_goals (first | assumption | wp_step))
   refine Zn (codeAny_call_builtin (R:=wants (λr s₂=>r= .none/\∃h' tk,s₂={s with heap:=h',toks:=tk}/\cM P w h' s.heap.objs.size (ss.foldl dU [])/\∀b o,s.heap.get? b=some o->h'.get? b=some o) E)
    PySem.F.called_set.init.plain PySem.F.entry_set_init (check_set_init_1 hT ?_)) λr₂ s₂ hr₂=>?_
   ·obtain⟨ol,o1,c1,nl,d1⟩:=hl;obtain⟨oc,od,oda,osl⟩:=ol;simp only at c1 d1;subst c1;subst d1;have o2:(s.heap.push ob).get? l=some {cls:= .type "list",dict:=od,data:= .seq items nl,slots:=osl}:=Q1 _ o1;have q1:=PySem.F.sub_list_set;have q2:=PySem.F.sub_list_frozenset;have q3:(UM "list"==UM "dict")=false:=Yq
    have l1:(s.heap.push ob).IsList l items:=⟨_,o2,rfl,nl,rfl⟩;subst hob;unfold Builtin.«set.__init__» noKeywords Builtin.Frozenset.updateFrom;generalize hPI:pyIter=PI
    wp_walk
    subst hPI;refine Z7 l1 ?_;refine Yy (wpAny_runValue ?_);have ll:l < s.heap.objs.size:=Rh o1;have sz:∀ob:Obj,(s.heap.push ob).objs.size=s.heap.objs.size+1:=λ_=>TM _ _;have n1:∀ob:Obj,l≠(s.heap.push ob).objs.size:=λ_=>by rw [sz];exact RH (Sv ll)
    have n2:∀ob:Obj,s.heap.objs.size ∉ [(s.heap.push ob).objs.size,l]:=λ_=>by
     rw [sz];simp only [Q4,Rt,or_false,not_or];exact⟨RH (S4 _),TX ll⟩
    have hv:∀(i:Nat)(v:Yx),items[i]?=some v->∃t,v= .int ((λi:Nat=>(ss[i]?).getD 0) i) t:=λi v e=>by
     rw [<-VF] at e;have:∀{vs:List Yx}{ss:List Int},YZ vs ss->∀(i:Nat)(v:Yx),vs[i]?=some v->∃t,v= .int ((ss[i]?).getD 0) t:=by
      intro vs ss x
      induction x with
      | nil=>intro i v e;simp at e
      | cons y t r ih=>
       intro i v e;cases i with
       | zero=>simp at e;exact⟨t,by rw [<-e];rfl⟩
       | succ i=>simp only [RY] at e⊢;exact ih i v e
     exact this hi i v e
    have hm:lh (λi=>(ss[i]?).getD 0) items.size=ss.foldl dU []:=by
     have e:items.size=ss.length:=by rw [<-qR hi,RE]
     unfold lh;rw [e];congr 1;apply UD Yv;intro i a b;simp at a b⊢;rw [RF Yr];rfl
    refine LJ (Yl (show A.in1.in1.in1.handled=none by simp [hh]) _ l (n1 _) items).toS s.heap.objs.size (n2 _) _ hv hb (items.size - 0) 0 _ Yr (RL _)
     ⟨⟨_,Rl _ rfl,rfl,rfl⟩,l1.push _⟩ ?hS0 ?hR
    case hS0=>
     exact cM.fresh (Q1 _ hS)
    case hR=>
     intro s' m S';rw [hm] at S';obtain⟨h',g',d',tk',os'⟩:=s';obtain rfl:g'=s.gens:=m.gens;obtain rfl:d'=s.drawn:=m.drawn;obtain rfl:os'=s.os:=m.os;show YC _ _ _ _ _ _;refine YB (YB ⟨rfl,h',tk',rfl,S',λb o e=>?_⟩);have hb1:b < s.heap.objs.size:=Rh e;refine m.heap b o ?_ (Q1 _ (Q1 _ e));rw [sz];simp only [Q4,Rt,or_false,not_or];exact⟨RH hb1,RH (Sv hb1)⟩
   ·cases r₂ with
    | error e=>exact hr₂
    | ok fl₂=>
     cases fl₂ with
     | ret r=>
      obtain⟨rfl,h',tk,rfl,S',k'⟩:=hr₂
      repeat (any_goals (first | assumption | wp_step))
      exact h _ _ S' k'
     | _=>exact hr₂.elim
  | _=>exact hr.elim
end
section
variable {P:YI} {w:YJ} {A:YN} {E:Yx->YA->Prop} {s:YA} {a:Yz} {o:Obj} {es:Array (Int×Yx)} {ep:Nat} {t:Zc}
theorem Dm{slot i:Nat}{Q:Option (Yx×Nat)->YA->Prop}(hb:fY w=false)(o1:s.heap.get? a=some o)(d1:o.data= .set es ep t)(f1:t.fits es.size=true)(hd:(!t.plain && decide (es.size > 1))=false)(hl:t.led=true)
 (h:Q (match es[SK t.place slot]?,t.place[SK t.place slot]? with | some (_,x),some j=>some (x,j+1) | _,_=>none) s):YC (YE P w) A (ZJ a slot i ep) Q E s:=by
 unfold ZJ setsByText;refine Yy (Zl o1 d1 f1 (Yy (Yy (Zo (YB ?_)))));rw [Ys (show ¬(YE P w).w.params.followText "set-order"=true from by show ¬fY w=true;rw [hb];decide)];show YC _ _ (if (!t.plain && decide (es.size > 1))=true then _ else _) _ _ _;rw [Ys (by rw [hd];decide)];refine Yy (m:=if (!t.led && !es.isEmpty)=true then unsupported "set:maker-not-led" else pure ()) ?_;rw [Ys (by simp [hl])];exact YB (YB h)
theorem LL{ss:List Int}{Q:Yx->YA->Prop}(hh:A.handled=none)(hS:cM P w s.heap a ss)
 (q:∀(I:Yz) (h1:YK) (d1:Drawn) (vs:List Yx) (fp wr:List Yz) (n:Nat) (St:Nat->YK->Prop),(∀b u,s.heap.get? b=some u->h1.get? b=some u)->(∃ss',YZ vs ss'/\ss'.Perm ss)->n=ss.length->
  Walks P w A I fp wr n (λi v=>vs[i]?=some v) St->St 0 h1->(∀b∈fp,b=a\/s.heap.objs.size<=b)->(∀b∈wr,s.heap.objs.size<=b)->vs.length=n->(∀b∈fp,b < h1.objs.size)->Q (.ref I) {s with heap:=h1,drawn:=d1}):
 YC (YE P w) A (pyIter (.ref a)) Q E s:=by
 obtain⟨o,o1,x1,es,ep,t,d1,el,⟨ss',s1,s2⟩,b1,f1,l1,p1⟩:=hS;have hT:s.TypeIs (.ref a) "set":=⟨o,o1,x1.1⟩;have la:a < s.heap.objs.size:=Rh o1;have ln:es.size=ss.length:=by rw [<-s2.length_eq,<-qR s1,QW,RE]
 refine wpAny_pyIter_slot hT WU (YV WU hT K1 ?_ (PySem.F.args_set_iter_1 _));unfold Builtin.«frozenset.__iter__»;refine Yy (m:=Builtin.Frozenset.slot0 _ _) (YB ?_);refine Yy (m:=Builtin.Frozenset.sizeOf a) (Yy (Zp o1 d1 f1 (YB ?_)));refine Yy (m:=setDrawn a) ?_;unfold setDrawn setsByText;refine Yy (Zl o1 d1 f1 (Yy (Yy (Zo (YB (YB ?_))))));show YC _ _ (if (!(fY w) && (!t.plain && decide (es.size > 1)))=true then _ else _) _ _ _;have lastly:∀(f:Yx)(h1:YK)(d:Drawn),h1.get? a=some o->(∀I h2,h2=h1.push {cls:= .type "set_iterator",data:= .fields #[f,.int (0:Nat) 0,.ref a,.int es.size 0,.int ep 0]}->I=h1.objs.size->Q (.ref I) {s with heap:=h2,drawn:=d})->
  YC (YE P w) A.in1 (setEpoch a >>=λe=>newFields "set_iterator" [f,Zf 0,.ref a,Zf es.size,Zf e] >>=λv=>ret v)
   (λfin s'=>∃v,fin= .done (.ret v)/\∃T' r,s'.TypeIs v T'/\typeLookup (.type T') "__next__"=pure (some r)/\Q v s') E {s with heap:=h1,drawn:=d}:=by
  intro f h1 d e1 k;refine Yy (wpAny_setEpoch_of (s:={s with heap:=h1,drawn:=d}) e1 d1 f1 ?_);refine Yy (YT (YB ?_));exact⟨_,rfl,"set_iterator",_,⟨_,Rl _ rfl,rfl⟩,js.lookup,k _ _ rfl rfl⟩
 have szp:∀(h:YK)(ob:Obj),(h.push ob).objs.size=h.objs.size+1:=λ_ _=>TM _ _;have n0:a≠s.heap.objs.size:=RH la;by_cases hdr:(!(fY w) && (!t.plain && decide (es.size > 1)))=true
 ·rw [Yt hdr];refine Yy (CJ es.size (SO es.size) s _ Yv λks d hp=>Yy (m:=newTuple _) (YT ?_ ?_))
  ·have lk:ks.length=es.size:=by rw [hp.length_eq,UY]
   refine lastly _ (s.heap.push _) d (Q1 _ o1) λI h2 e2 eI=>?_;subst e2 eI;have k1:a≠(s.heap.push {cls:= .type "tuple",data:= .seq (ks.map λ(i:Nat)=>Zf i).toArray}).objs.size:=by rw [szp];exact RH (Sv la)
   have k2:s.heap.objs.size≠(s.heap.push {cls:= .type "tuple",data:= .seq (ks.map λ(i:Nat)=>Zf i).toArray}).objs.size:=by rw [szp];exact RH (S4 _)
   have pm:(ks.map λk=>((es[k]?).map (·.2)).getD .none).Perm (es.toList.map (·.2)):=by
    refine(hp.map _).trans (.of_eq ?_);apply UD Yv;intro i a b;simp at a b⊢;rw [Uy a];rfl
   obtain⟨ss2,q3,q4⟩:=ti pm s1;refine q _ _ d _ _ _ es.size _ (λb u e=>Q1 _ (Q1 _ e)) ⟨ss2,q3,q4.trans s2⟩ ln
    (K9 hh _ _ k1 k2 d1 f1 _ ks rfl lk (λi k e=>?_)) ⟨⟨_,Rl _ rfl,rfl,rfl⟩,Q1 _ (Q1 _ o1),Q1 _ (Rl _ rfl)⟩ (λb hb=>?_) (λb hb=>?_) (by simp [lk]) (λb hb=>?_)
   ·have hk:k < es.size:=by
     have:=hp.mem_iff.mp (RA e);simpa using this
    refine⟨es[k].1,es[k].2,by simp [hk],?_⟩;rw [Q9,e];simp [hk]
   ·simp only [Q4,Rt,or_false] at hb;rcases hb with rfl | rfl | rfl
    ·right;rw [szp];exact Sr _
    ·left;rfl
    ·right;exact QY _
   ·rw [Rk] at hb;rw [hb,szp];exact Sr _
   ·simp only [Q4,Rt,or_false] at hb;rw [szp,szp];rcases hb with rfl | rfl | rfl
    ·rw [szp];exact S4 _
    ·exact Sv (Sv la)
    ·exact Sv (S4 _)
  ·unfold sizeOk;simp [hp.length_eq];have:Zt=4096:=rfl;have:YH=16777216:=by first | rfl | exact Y1
   omega
 ·rw [Ys hdr];refine Yy (YB ?_);have e0:s={s with heap:=s.heap,drawn:=s.drawn}:=by cases s;rfl
  show YC _ _ _ _ _ {s with heap:=s.heap,drawn:=s.drawn};refine lastly _ s.heap s.drawn o1 λI h2 e2 eI=>?_;subst e2 eI;have fpa:∀b∈[s.heap.objs.size,a],b=a\/s.heap.objs.size<=b:=λb hb=>by
   simp only [Q4,Rt,or_false] at hb;rcases hb with rfl | rfl
   ·right;exact QY _
   ·left;rfl
  have wra:∀b∈[s.heap.objs.size],s.heap.objs.size<=b:=λb hb=>by rw [Rk] at hb;rw [hb];exact QY _
  have fpl:∀(ob:Obj),∀b∈[s.heap.objs.size,a],b < (s.heap.push ob).objs.size:=λob b hb=>by
   rw [szp];simp only [Q4,Rt,or_false] at hb;rcases hb with rfl | rfl
   ·exact S4 _
   ·exact Sv la
  cases hb:fY w with
  | true=>
   have pm:=K2 (w.params.setOrder a ep) es;obtain⟨ss2,q3,q4⟩:=ti (pm.map (·.2)) s1;have lp:((Z5 (w.params.setOrder a ep) es).toList.map (·.2)).length=es.size:=by rw [QW,pm.length_eq,RE]
   refine q _ _ s.drawn _ _ _ es.size _ (λb u e=>Q1 _ e) ⟨ss2,q3,q4.trans s2⟩ ln
    (CO hh _ n0 d1 f1 _ lp (λ_=>0) (λs i hi E' Q' g z=>CK hb g d1 f1 ?_) (λs E' Q' g z=>CK hb g d1 f1 ?_)) ⟨⟨_,Rl _ rfl,rfl,rfl⟩,Q1 _ o1⟩ fpa wra lp (fpl _)
   ·have hi':i < (Z5 (w.params.setOrder a ep) es).size:=by rw [<-RE,<-QW (f:=(·.2))];exact hi
    rw [Uy hi'];simpa using z
   ·have:(Z5 (w.params.setOrder a ep) es).size=es.size:=by rw [<-RE,pm.length_eq,RE]
    rw [WO Yr];exact z
  | false=>
   have hled:t.led=true:=by
    rcases l1 with l1 | l1
    ·rw [hb] at l1;cases l1
    ·exact l1
   have hcd:(!t.plain && decide (es.size > 1))=false:=by
    cases hx:(!t.plain && decide (es.size > 1)) with
    | false=>rfl
    | true=>exfalso;apply hdr;rw [hb,hx];rfl
   have hpl:t.place.size=es.size:=by
    simp only [SetTable.fits,R5,beq_iff_eq] at f1;exact f1.1
   have lp:(es.toList.map (·.2)).length=es.size:=by rw [QW,RE]
   have bel:∀i,i<=es.size->SK t.place (if i=0 then 0 else t.place.getD (i - 1) 0+1)=i:=λi hi=>by
    by_cases h0:i=0
    ·rw [Yt h0,LB p1.ris,h0]
    ·rw [Ys h0];have hlt:i - 1 < t.place.size:=Yr
     have eg:t.place.getD (i - 1) 0=t.place[i - 1]:=by simp [Ux,hlt]
     rw [eg,LA p1.ris hlt];omega
   refine q _ _ s.drawn _ _ _ es.size _ (λb u e=>Q1 _ e) ⟨ss',s1,s2⟩ ln
    (CO hh _ n0 d1 f1 _ lp (λi=>if i=0 then 0 else t.place.getD (i - 1) 0+1) (λs i hi E' Q' g z=>Dm hb g d1 f1 hcd hled ?_) (λs E' Q' g z=>Dm hb g d1 f1 hcd hled ?_)) ⟨⟨_,Rl _ rfl,rfl,rfl⟩,Q1 _ o1⟩ fpa wra lp (fpl _)
   ·have hi':i < es.size:=by rw [<-lp];exact hi
    rw [bel i Yr];have h1:es[i]?=some es[i]:=by simp [hi']
    have h2:t.place[i]?=some (t.place[i]'Yr):=by simp [show i < t.place.size by omega]
    rw [h1,h2];have eg:t.place.getD (i+1 - 1) 0=t.place[i]'Yr:=by simp [Ux,show i < t.place.size by omega]
    rw [Ys Yr,eg] at z;simpa using z
   ·rw [bel es.size (QY _)];rw [WO Yr];exact z
end
section
variable {P:YI} {w:YJ} {A:YN} {E:Yx->YA->Prop} {s:YA} {a:Yz}
theorem LM{ss:List Int}{R:Result->YA->Prop}(hh:A.handled=none)(hS:cM P w s.heap a ss)(S:Yz)(hSa:S≠a)(res:Yx)(c₀:Nat)(l1:s.heap.get? S=some {cls:= .type "list",data:= .seq #[] c₀})(hn:ss.length<=4096)
 (hR:∀h' tk d acc c',(∀b u,b≠S->s.heap.get? b=some u->h'.get? b=some u)->h'.get? S=some {cls:= .type "list",dict:=none,data:= .seq acc c',slots:=#[]}->(∃ss',YZ acc.toList ss'/\ss'.Perm ss)->R (.ok (.ret res)) {s with heap:=h',toks:=tk,drawn:=d}):
 YC (YE P w) A.in1 (VX (.ref S) (.ref a) res)
  (λfin s'=>match fin with | .done f=>R (.ok f) s' | .again c'=>c'.quiet=true/\Zq (YE P w) A c' R s') (λe s'=>R (.error e) s') s:=by
 obtain⟨o,o1,x1,rest⟩:=id hS;have hT:s.TypeIs (.ref a) "set":=⟨o,o1,x1.1⟩;have lS:S < s.heap.objs.size:=Rh l1;unfold VX;refine Yy (ZV hT ?_);have e1:Ww (.ref S) (.ref a)=false:=by simp [Ww,hSa]
 have e2:(UM "set"==UM "list")=false:=Yq
 have e3:(UM "set"==UM "tuple")=false:=Yq
 simp only [e1,e2,e3,Tq,Sg,if_false];refine Yy (LL (A:=A.in1) hh hS λI h1 d1 vs fp wr n St k1 sv en W st hf hw hlv hfl=>?_);have nf:S ∉ fp:=λz=>by
  rcases hf S z with e | e
  ·exact hSa e
  ·exact absurd lS (Nat.not_lt.mpr e)
 have key:∀(h:YK)(c₁ tk:Nat),St 0 h->(∀b u,b≠S->s.heap.get? b=some u->h.get? b=some u)->
  h.get? S=some {cls:= .type "list",data:= .seq #[] c₁}->Zq (YE P w) A (.builtin "list.extend.loop" ⟨[.ref S,.ref I,res],[]⟩) R {s with heap:=h,toks:=tk,drawn:=d1}:=by
  intro h c₁ tk hst hk g;refine codeAny_extend_loopS W.toS (Rx (by omega:n<=4096) Yq) S nf res n 0 _ #[] c₁ rfl (RL _) hst g (ItemsOf.nil _) λs' acc c' m gq hacc=>?_;obtain⟨h',g',d',tk',os'⟩:=s';obtain rfl:g'=s.gens:=m.gens;obtain rfl:d'=d1:=m.drawn;obtain rfl:os'=s.os:=m.os;refine hR h' tk' d' acc c' (λb u hb e=>m.heap b u (λz=>?_) (hk b u hb e)) gq ?_
  ·rcases Q4.mp z with e' | z
   ·exact hb e'
   ·exact absurd (Rh e) (Nat.not_lt.mpr (hw b z))
  ·have ea:acc.toList=vs:=by
    apply List.ext_getElem?;intro i;rcases Tf i n with z | z
    ·have hz:i < acc.size:=by rw [hacc.1];exact z
     have:acc[i]?=some acc[i]:=Uy hz;rw [VF,this,hacc.2 i _ this]
    ·rw [SF (by rw [RE,hacc.1];exact z),SF Yr]
   rw [ea];exact sv
 have g1:=k1 S _ l1;refine Yy (Y2 (La (s:={s with heap:=h1,drawn:=d1}) ⟨o,k1 a o o1,x1.1⟩ ?_));refine ZY (λ_=>?_) (λ_=>YB ⟨ZM Wn _,key _ c₀ _ st (λb u _ e=>k1 b u e) g1⟩);refine Yy (ZX (Yy ?_));show YC _ _ (updateSeq S (·.push .none) >>=λ_=>updateSeq S (·.pop)) _ _ {s with heap:=h1,drawn:=d1};refine Yy (wpAny_updateSeq g1 rfl ?_);have g2:=SV (So (·.push SS)) g1 rfl;refine wpAny_updateSeq (hz:=by seq_fits) g2 rfl ?_;have g3:=SV (So (·.pop)) g2 rfl;refine YB ⟨ZM Wn _,key _ _ _ (W.frame 0 _ _ st λb hb u e=>?_) (λb u hb e=>?_) g3⟩
 ·have hbS:b≠S:=λz=>nf (z▸hb);exact(Ud _ _ (Ne.symm hbS)).trans ((Ud _ _ (Ne.symm hbS)).trans e)
 ·exact(Ud _ _ (Ne.symm hb)).trans ((Ud _ _ (Ne.symm hb)).trans (k1 b u e))
theorem LN{ss:List Int}{R:List Yx->YA->Prop}(hh:A.handled=none)(hS:cM P w s.heap a ss)(hn:ss.length<=4096)
 (h:∀(h':YK) (tk:Nat) (d:Drawn) (vs:List Yx),(∀b u,s.heap.get? b=some u->h'.get? b=some u)->(∃ss',YZ vs ss'/\ss'.Perm ss)->R vs {s with heap:=h',toks:=tk,drawn:=d}):
 YC (YE P w) A (collect (.ref a)) R E s:=by
 have la:a < s.heap.objs.size:=by obtain⟨o,o1,_⟩:=id hS;exact Rh o1
 unfold collect;refine Yy (wpAny_runValue (Zs entry_proto_collect' ?_));rw [Uw PySem.F.plain_proto_collect _];refine Yy (m:=newList []) (YT ?_);refine YB ⟨ZM WE _,Zs entry_list_iadd' ?_⟩;rw [Uw WE _];have g1:(s.heap.push {cls:= .type "list",data:= .seq ([]:List Yx).toArray}).get? s.heap.objs.size=some {cls:= .type "list",data:= .seq #[]}:=Rl _ rfl;have key:=LM (A:=A) (s:={s with heap:=s.heap.push {cls:= .type "list",data:= .seq ([]:List Yx).toArray}})
  (R:=λ(q:Result) (s':YA)=>∃(h':YK)(tk:Nat)(d:Drawn)(acc:Array Yx)(c':Nat),q= .ok (.ret (.ref s.heap.objs.size))/\s'={s with heap:=h',toks:=tk,drawn:=d}/\
   (∀b u,s.heap.get? b=some u->h'.get? b=some u)/\h'.get? s.heap.objs.size=some {cls:= .type "list",dict:=none,data:= .seq acc c',slots:=#[]}/\(∃ss',YZ acc.toList ss'/\ss'.Perm ss))
  hh (hS.stay λu e=>Q1 _ e) s.heap.objs.size (TX la) (.ref s.heap.objs.size) 0 g1 hn
  (λh' tk d acc c' hk g' hacc=>⟨h',tk,d,acc,c',rfl,rfl,λb u e=>hk b u (RH (Rh e)) (Q1 _ e),g',hacc⟩)
 refine YY key (λfin s' x=>?_) λe s' x=>?_
 ·cases fin with
  | done f=>
   obtain⟨h',tk,d,acc,c',e,rfl,hk,g',hacc⟩:=x;cases e;exact Yy (m:=load s.heap.objs.size) (wpAny_load g' (YB (h h' tk d acc.toList hk hacc)))
  | again c₁=>
   refine⟨x.1,Zn x.2 λq s₂ y=>?_⟩;obtain⟨h',tk,d,acc,c',rfl,rfl,hk,g',hacc⟩:=y;exact Yy (m:=load s.heap.objs.size) (wpAny_load g' (YB (h h' tk d acc.toList hk hacc)))
 ·obtain⟨_,_,_,_,_,e',_⟩:=x;cases e'
theorem LO{ss:List Int}{Q:Yx->YA->Prop}(hh:A.handled=none)(hS:cM P w s.heap a ss)(hn:ss.length < 64)
 (h:∀(h' h2:YK) (tk:Nat) (d:Drawn) (out:Array Yx) (e:Nat) (ss':List Int),(∀b o,s.heap.get? b=some o->h'.get? b=some o)->(∀b o,h'.get? b=some o->h2.get? b=some o)->h2.get? h'.objs.size=some (YQ "list" out e)->YZ out.toList ss'->ss'.Perm ss->ss'.Pairwise (·<=·)->Q (.ref h'.objs.size) {s with heap:=h2,toks:=tk,drawn:=d}):
 YC (YE P w) A (call (.builtin "sorted") [.ref a]) Q E s:=by
 refine Ve kind_sorted plain_sorted entry_sorted (args_sorted1 _) ?_;unfold Builtin.«sorted»;refine Yy (m:=checkCount "sorted" 1 1 _) (YB ?_);refine Yy (LN (A:=A.in1) hh hS Yr λh' tk d vs hk ⟨s1,sv,sp⟩=>?_);have hl:vs.length=ss.length:=by rw [qR sv,sp.length_eq]
 refine Yy (Zy ?_);have hoL:(h'.push (YQ "list" vs.toArray 0)).get? h'.objs.size=some (YQ "list" vs.toArray 0):=Rl _ rfl;refine Yy (Y2 (YV Z0 ⟨_,hoL,rfl⟩ ZZ (list_sort_tree (s:={s with heap:=h'.push (YQ "list" vs.toArray 0),toks:=tk,drawn:=d}) hoL sv Yr λout ss' h1 h2 h3=>?_) (args_list_sort _)));obtain⟨e,he⟩:=sortedHeap_at (n:=0) (vs:=vs) (out:=out) hoL;refine⟨_,rfl,YB ⟨_,rfl,h h' _ tk d _ e ss' hk (λb o q=>?_) he h1 (h2.trans sp) h3⟩⟩;have hlt:b < h'.objs.size:=Rh q;rw [sortedHeap_old (RH hlt) (by rw [size_push'];exact Sv hlt),Xo _ _ _ (RH hlt)];exact q
end
def wb(P:YI)(w:YJ)(a:Yz)(ss:List Int):HO:= .ext λh=>cM P w h a ss
theorem Dp:∀{vs:List Yx}{ss:List Int},YZ vs ss->aI (ss.map V.int) vs
 | _,_,.nil=>.nil
 | _,_,.cons y t r=>.cons ⟨t,rfl⟩ (Dp r)
theorem LP{X:Cx}:d8 X (.type "set") (λxs H Q=>X.calm=true/\∃(p:Yz)(ss:List Int),xs=[.ref p]/\bo X.K H p (ss.map V.int)/\ss.length < 4000/\∀l,H l=none->Q (.ref l) (ah H l (wb X.prog X.w l (ss.foldl dU [])))):=by
 intro aac s σ H xs us Q I r h;obtain⟨hc,p,ss,rfl,hq,h64,q⟩:=h;obtain⟨u,rfl,rx⟩:=ft r;cases rx;obtain⟨its,rv,pl,hz⟩:=I.list hq;have hlen:=rv.length;rw [QW] at hlen;refine LK (I.ok.hd hc) pl.isList (by simpa using CQ rv) (by have:Zt=4096:=rfl;simp;omega) λh' tk S' k'=>?_;refine⟨.ref _,_,I.laid (t':=tk) (o:=wb X.prog X.w _ (ss.foldl dU [])) k' (QY _) ?_,rfl,q _ (I.hok.fresh (QY _))⟩;obtain⟨o,e,_⟩:=id S';exact⟨S',⟨o,e⟩,λh1 h2 x k=>x.stay k⟩
theorem LQ{X:Cx}:d8 X (.builtin "sorted") (λxs H Q=>X.calm=true/\∃(a:Yz)(ss:List Int),xs=[.ref a]/\H a=some (wb X.prog X.w a ss)/\ss.length < 64/\∀(ns:List Int)(l:Yz),ns.Perm ss->ns.Pairwise (·<=·)->H l=none->Q (.ref l) (ah H l (.lst (ns.map V.int)))):=by
 intro aac s σ H xs us Q I r h;obtain⟨hc,a,ss,rfl,ha,h64,q⟩:=h;obtain⟨u,rfl,rx⟩:=ft r;cases rx;obtain⟨hS,_⟩:=I.hok a _ ha;refine LO (I.ok.hd hc) hS h64 λh' h2 tk d out e ss' k1 k2 at2 s1 s2 s3=>?_;have hl2:ss'.length=ss.length:=s2.length_eq;have I1:ag X aac σ H {s with heap:=h',toks:=tk,drawn:=d}:=(I.kept (t':=tk) k1).drw;refine⟨.ref _,_,I1.laid (t':=tk) (o:= .lst (ss'.map V.int)) k2 (QY _) ?_,rfl,q ss' _ s2 s3 (I1.hok.fresh (QY _))⟩;refine⟨by rw [QW,hl2];exact Rx (TV h64) Yq,out.toList,e,Dp s1,?_⟩;rw [at2]
section
variable {X:Cx} {H0:Hp} {O0:Ex}
def lq(t:DA):DA:=λδ Q=>t δ λds=>∃ss:List Int,ds=[.list (ss.map .int)]/\ss.length < 4000/\(ss.foldl dU []).length < 64/\∀ns:List Int,(∀z,z∈ns↔z∈ss)->ns.Pairwise (· < ·)->Q (ns.map .int)
theorem LR{a:YF}{t:DA}{np p np' p':Pos}(hc:X.calm=true)(hg:Gl X "sorted")(hm:X.mg "sorted"=none)(hv:YX "sorted"=some (.builtin "sorted"))(hg':Gl X "set")(hm':X.mg "set"=none)(ha:PA X [a] (hZ X.K H0 O0 t))
 (he:YD [a] X.env=(false,eval a X.env)::YD [] X.env:=by rfl)(hpl:(YR p' (YD [] X.env)).any (·.1)=false:=by rfl)
 (he':YD [.Call (.Name "set" np') [a] [] p'] X.env=(false,eval (.Call (.Name "set" np') [a] [] p') X.env)::YD [] X.env:=by rfl)(hpl':(YR p (YD [] X.env)).any (·.1)=false:=by rfl):
 FE X H0 O0 (.Call (.Name "sorted" np) [.Call (.Name "set" np') [a] [] p'] [] p) (lq t):=
 (bU LQ hg hm hv (bw (cU LP hg' hm' Lb ha (he:=he) (hpl:=hpl)) b5 he') (he:=he') (hpl:=hpl')).imp λσ H Q ⟨O,δ,Qd,w,q,k⟩=>⟨O,δ,_,w,q,λds vs H1 uu20 s1 r1=>by
  obtain⟨ss,e,h64,hl,q1⟩:=uu20;subst e;cases r1 with
  | cons h r=>
   cases r;obtain⟨a,us,rfl,h1,d1⟩:=h.lst;cases d1.intsL;refine⟨hc,a,ss,rfl,h1,h64,λl hl'=>⟨hc,l,_,rfl,bq,hl,λns l2 hp hs hl2=>?_⟩⟩;refine k _ _ _ _ (q1 ns (λz=>?_) ?_) (s1.trans (au.new hl')) hl2 (ai.ofInts _)
   ·rw [hp.mem_iff,v9];simp
   ·have nd:ns.Nodup:=hp.nodup_iff.mpr (wa .nil);exact(List.Pairwise.and hs nd).imp λ{a b} z=>by
     obtain⟨z1,z2⟩:=z;omega⟩
end
def wc(K:QV)(a:Yz):It:=
 ⟨λi H=>∃xs x,bo K H a xs/\xs[i]?=some x,λi H x H'=>∃p v,H p=none/\x= .ref p/\H'=ah H p (.tup [.int (i:Int),v])/\∀xs,bo K H a xs->xs[i]?=some v,λi H=>∃xs,bo K H a xs/\xs.length<=i⟩
theorem LS{P:YI}{w:YJ}{K:QV}{elts:List YF}{k0}{pos:Pos}(a it e:Yz)(hei:e≠it):oU P w K (.Tuple elts k0 pos) (wc K a) [e,it] e (λi h=>(∃old,IsEnum h e it (i:Int) old)/\h.IsListIter it a i) where
 mem:=Yv
 obj:=λi h st b hb=>by
  simp only [Q4,Rt,or_false] at hb;obtain⟨⟨old,he⟩,o,eo,c,d⟩:=st;rcases hb with rfl | rfl
  ·exact⟨_,he,λv z=>by cases z⟩
  ·exact⟨o,eo,λv z=>by rw [d] at z;cases z⟩
 keep:=λi h h' st k=>⟨let ⟨old,he⟩:=st.1;⟨old,k e Yv _ he⟩,st.2.at λo q=>k it Yv o q⟩
 item:=by
  intro X hP hw hK hc i aac s σ H E I hf st hg;subst hP hw hK;obtain⟨xs,x,hq,hx⟩:=hg;obtain⟨its,rv,p,hz⟩:=I.list hq;obtain⟨u,hu,ru⟩:=rv.get hx;obtain⟨⟨old,he⟩,hit⟩:=st;refine wpAny_pyNext_enum_item he hit p.isList (x:=u) (by simpa using hu) hei λh' ho hit' hT hsz hk=>?_;have hT0:H s.heap.objs.size=none:=I.hok.fresh (QY _);have lte:e < s.heap.objs.size:=Rh he;have lti:it < s.heap.objs.size:=by obtain⟨_,q,_⟩:=hit;exact Rh q
  have I1:ag X aac σ (ah H s.heap.objs.size (.tup [.int (i:Int),x])) {s with heap:=h',toks:=s.toks+1}:=by
   refine I.track (t':=s.toks+1) (ch:=[s.heap.objs.size,e,it]) Yv (λb hb=>?_) (λb v hb q=>hk b v (λz=>hb (by simp [z])) (λz=>hb (by simp [z])) q) ?_
   ·rcases Q4.mp hb with z | z
    ·rw [z];exact I.fpOk (QY _) hT0
    ·exact hf b z
   ·exact⟨by rw [Y1,Q8,Q8,RR];decide,[.int (i:Int) s.toks,u],.cons ⟨_,rfl⟩ (.cons ru .nil),_,hT,rfl,0,rfl⟩
  refine⟨_,rfl,Z6 ho λh2 he2 sb=>?_⟩;obtain⟨f0,f1,f2,f3,f4,f5⟩:=hf e Yv;have ne:s.heap.objs.size≠e:=TX lte;have I2:ag X aac σ (ah H s.heap.objs.size (.tup [.int (i:Int),x])) {s with heap:=h2,toks:=s.toks+1}:=I1.turned (t':=s.toks+1) (λb o hb q=>(sb.2 b hb).trans q) (by rw [az (Ne.symm ne)];exact f0) f1 f3 f4 f5;refine⟨.ref s.heap.objs.size,_,I2,rfl,⟨_,x,hT0,rfl,rfl,λys hy=>by rw [I.list_inj hy hq];exact hx⟩,⟨⟨_,by simpa using he2⟩,hit'.at λo q=>(sb.2 it (Ne.symm hei)).trans q⟩,λb hb=>?_⟩;rw [az λz=>?_]
  ·exact(hf b hb).1
  ·simp only [Q4,Rt,or_false] at hb;rcases hb with y | y
   ·rw [<-z,y] at lte;exact S5 _ lte
   ·rw [<-z,y] at lti;exact S5 _ lti
 done:=by
  intro X hP hw hK hc i aac s σ H E I hf st hg;subst hP hw hK;obtain⟨xs,hq,hx⟩:=hg;obtain⟨its,rv,p,hz⟩:=I.list hq;obtain⟨⟨old,he⟩,hit⟩:=st;obtain⟨f0,f1,f2,f3,f4,f5⟩:=hf it Yv;have hl:=rv.length;exact wpAny_pyNext_enum_end (I.ok.hd hc) he hit p.isList (by simp;omega) λh' eb=>⟨rfl,I.turned (t':=s.toks) (λb o hb e=>eb b o hb e) f0 f1 f3 f4 f5⟩
 self:=λA i s Q E st h=>by
  obtain⟨⟨old,he⟩,_⟩:=st;exact ZK he h
def LU(K:QV)(ta:TA):TI:=λσ H R=>ta σ H λvs H1=>∃a xs,vs=[.ref a]/\Rd H1 a (.lst xs)/\R (wc K a) H1
theorem LV{X:Cx}{elts:List YF}{k0}{tp:Pos}{a:YF}{ta:TA}{p pos:Pos}(hg:Gl X "enumerate")(hm:X.mg "enumerate"=none)(ha:PA X [a] ta)(hs:YD [a] X.env=[(false,eval a X.env)]:=by rfl):PI X (.Tuple elts k0 tp) (.Call (.Name "enumerate" p) [a] [] pos) (LU X.K ta):=by
 intro aac s σ H R I h;refine Call_ (nP I hg hm boot_enumerate (Tt (aB (ha pos aac s σ H _ I h) λus s1 ⟨vs,H1,I1,r1,q1⟩=>?_) hs rfl));obtain⟨b,xs,e,hr,q⟩:=q1;subst e;cases r1 with
 | cons r rr=>
  cases rr;cases r;have ho:∃(its:List Yx)(n:Nat),s1.heap.get? b=some {cls:= .type "list",dict:=none,data:= .seq its.toArray n,slots:=#[]}:=by
   rcases hr with hr | ⟨o,hr⟩
   ·obtain⟨_,its,n,_,z⟩:=I1.hok b _ hr;exact⟨its,n,z⟩
   ·obtain⟨_,_,its,n,_,z⟩:=I1.hok b _ hr;exact⟨its,n,z⟩
  obtain⟨its,n,ho⟩:=ho;refine call_enumerate_1 ho λh' he hit hsz hk=>ZK he ?_;have I2:ag X aac σ H1 {s1 with heap:=h'}:=I1.kept (t':=s1.toks) hk;refine⟨s1.heap.objs.size+1,[s1.heap.objs.size+1,s1.heap.objs.size],_,_,H1,rfl,I2,LS b s1.heap.objs.size (s1.heap.objs.size+1) (TX (S4 _)),⟨⟨_,he⟩,hit⟩,λc hc=>?_,q⟩;simp only [Q4,Rt,or_false] at hc;rcases hc with rfl | rfl
  ·exact I1.fpOk (Sr _) (I1.hok.fresh (Sr _))
  ·exact I1.fpOk (QY _) (I1.hok.fresh (QY _))
def gO:Nat->List Yw->List Yw
 | _,[]=>[]
 | k,x::r=>.tuple [.int (k:Int),x]::gO (k+1) r
theorem qS:∀(k:Nat)(xs:List Yw),(gO k xs).length=xs.length
 | _,[]=>rfl
 | k,x::r=>by rw [gO,Q8,qS,Q8]
theorem pA:∀(k:Nat)(xs:List Yw)(i:Nat),(gO k xs)[i]?=(xs[i]?).map λx=>.tuple [.int ((k+i:Nat):Int),x]
 | _,[],i=>by simp [gO]
 | k,x::r,0=>by simp [gO]
 | k,x::r,i+1=>by
  rw [gO,RY,RY,pA (k+1) r i,show k+1+i=k+(i+1) by omega]
theorem LW{K:QV}{H0:Hp}{O0:Ex}{a:Yz}{vs:List V}{xs:List Yw}{g:TG}{dg:DG}{tb:DS}{D:iy}{E:dP}{σ:St}{H:Hp}{O:Ex}{δ:Dl}(hr:Rd H a (.lst vs))(ho:¬O a)(gd:GD K g dg)
 (r:ai K H O vs xs)(w:Wd K H0 O0 H O σ δ)(q:gL dg tb E (gO 0 xs) δ)
 (k1:∀O' δ' σ' H',E.nx δ'->Wd K H0 O0 H' O' σ' δ'->aH H H' O O'->D.nx σ' H')(k2:∀d v H',E.rt d->au H0 H'->Dt K H' O0 v d->D.rt v H'):FR (wc K a) g (bf K H0 O0 tb) D σ H:=by
 obtain⟨Iv,q0,qs,qe⟩:=q;have hl:=r.length;have sq:∀H' O',aH H H' O O'->bo K H' a vs:=λH' O' S=>.inl (hr.same λo e=>S.keep _ o e ho);refine⟨λi m σ' H'=>∃O' δ',m=vs.length - i/\i<=vs.length/\Wd K H0 O0 H' O' σ' δ'/\aH H H' O O'/\Iv i δ',⟨vs.length,O,δ,Yv,RL _,w,aH.refl _ _,q0⟩,?_⟩;rintro i m σ1 H1 ⟨O1,δ1,rfl,hi,w1,S1,q1⟩;by_cases hlt:i < vs.length
 ·refine .inr ⟨⟨vs,vs[i],sq _ _ S1,by simp [hlt]⟩,λσ' H'=>∃O' δ',Wd K H0 O0 H' O' σ' δ'/\aH H H' O O'/\Iv (i+1) δ',λσ' H' uu22=>by obtain⟨O',δ',w',S',q'⟩:=uu22;exact⟨vs.length - (i+1),Yr,O',δ',rfl,hlt,w',S',q'⟩,λx H' y=>?_⟩;obtain⟨p,v,hp,rfl,rfl,hv⟩:=y;obtain⟨d,ed,rd⟩:=r.get (hv vs (sq _ _ S1));have sm:au H1 (ah H1 p (.tup [.int (i:Int),v])):=au.new hp;have w2:=w1.mono sm;have np:¬O1 p:=λz=>w1.trk p z hp;have dt:Dt K (ah H1 p (.tup [.int (i:Int),v])) O1 (.ref p) (.tuple [.int (i:Int),d]):= .tup (.inl bq) np (.cons (.int _) (.cons ((rd.step S1).mono sm) .nil));have S2:aH H (ah H1 p (.tup [.int (i:Int),v])) O O1:=S1.trans (.same sm);have e2:(gO 0 xs)[i]?=some (.tuple [.int (i:Int),d]):=by rw [pA,ed];simp
  refine gd H0 O0 _ O1 σ1 δ1 _ _ _ _ w2 dt (qs i _ δ1 e2 q1) λδ2 σ2 q2 w2=>?_;exact⟨O1,δ2,_,w2,q2,λO' δ' σ' H' z w' S'=>⟨O',δ',w',S2.trans S',z⟩,k2,λO' δ' σ' H' z w' S'=>k1 O' δ' σ' H' z w' (S2.trans S'),λO' δ' σ' H' z w' S'=>⟨O',δ',w',S2.trans S',z⟩⟩
 ·have e:i=vs.length:=Yr
  subst e;refine .inl ⟨⟨vs,sq _ _ S1,QY _⟩,?_⟩;rw [hl,<-qS 0 xs] at q1;exact k1 O1 δ1 σ1 H1 (qe δ1 q1) w1 S1
section
variable {X:Cx} {H0:Hp} {O0:Ex}
def lr(t:DA)(g:DG)(tb:DS):DS:=λE δ=>t δ λds=>∃xs,ds=[.list xs]/\gL g tb E (gO 0 xs) δ
theorem Dq{elts:List YF}{k0}{tp:Pos}{a:YF}{body:List YL}{p pos pos':Pos}{ta:DA}{g:TG}{dg:DG}{tb:DS}(hp:Zw (YE X.prog X.w) X.A X.env X.xe)(hc:X.calm=true)(hgl:Gl X "enumerate")(hm:X.mg "enumerate"=none)(ha:PA X [a] (fT X.K H0 O0 ta))(hg:PG X (.Tuple elts k0 tp) g)(gd:GD X.K g dg)(hb:bP X body (bf X.K H0 O0 tb))
 (hst:YD [a] X.env=[(false,eval a X.env)]:=by rfl)(hs:∀x,YO (.Call (.Name "enumerate" p) [a] [] pos') X.env x=pure x:=by intro _;rfl):
 PS X (.For (.Tuple elts k0 tp) (.Call (.Name "enumerate" p) [a] [] pos') body [] pos) (bf X.K H0 O0 (lr ta dg tb)):=
 (oW hp hc (LV hgl hm ha hst) hg hb hs).imp λD σ H uu23=>by obtain⟨O,δ,E,w,q,k1,k2,k3,k4⟩:=uu23;exact⟨O,δ,_,w,q,λds vs H1 uu24 s1 r1=>by
  obtain⟨xs,e,q1⟩:=uu24;subst e;cases r1 with
  | cons h r=>
   cases r;cases h with
   | lst h n r=>
    exact⟨_,_,rfl,h,LW h n gd r (w.mono s1) q1 (λO' δ' σ' H' z w' S=>k1 O' δ' σ' H' z w' (aH.trans (.same s1) S)) k2⟩⟩
end
def lx:List Yw->(Yw->Prop)->Prop:=λds Q=>∃i j:Int,ds=[.int i,.int j]/\gC i j/\Q (.tuple [.int (i / j),.int (i % j)])
theorem LX{K:QV}:jh K (λxs H Q=>∃i j,xs=[.int i,.int j]/\gC i j/\∀p,H p=none->Q (.ref p) (ah H p (.tup [.int (i / j),.int (i % j)]))) lx:=λH O xs ds Qd R tr hs uu25 k=>by
 obtain⟨i,j,e,c,q⟩:=uu25;subst e;cases hs with
 | cons h r=>cases r with
  | cons h2 r=>
   cases r;cases h.int;cases h2.int;exact⟨i,j,rfl,c,λp hp=>k _ _ _ q (au.new hp) (.tup (.inl bq) (λz=>tr p z hp) (.cons (.int _) (.cons (.int _) .nil)))⟩
def lz:List Yw->(Yw->Prop)->Prop:=λds Q=>∃ns:List Int,ds=[.list (ns.map .int)]/\Q (.int ns.sum)
theorem LY{K:QV}:jh K (λxs H Q=>∃(a:Yz)(ns:List Int),xs=[.ref a]/\bo K H a (ns.map V.int)/\Q (.int ns.sum) H) lz:=λH O xs ds Qd R tr hs uu26 k=>by
 obtain⟨ns,e,q⟩:=uu26;subst e;cases hs with
 | cons h r=>
  cases r;obtain⟨a,vs,rfl,h1,d1⟩:=h.lst;cases d1.intsL;exact⟨a,ns,rfl,h1,k _ _ H q (au.refl _) (.int _)⟩
def we(c:Int->Int->Prop):R2:=λx y H Q=>∃i j,x= .int i/\y= .int j/\c i j/\∀r:Int,Q (.int r) H
theorem Ds{X:Cx}:bG X (Y8 .RShift) (we λ_ j=>0<=j):=by
 intro aac s σ H x y v u Q I rx ry h;obtain⟨i,j,rfl,rfl,c,q⟩:=h;obtain⟨t,rfl⟩:=rx;obtain⟨t',rfl⟩:=ry;by_cases hb:j >= ((SE i:Nat):Int)
 ·exact PySem.AutoIntOps.rshift_1 Yr hb ⟨.int _,H,I.tok _,⟨_,rfl⟩,q _⟩
 ·exact PySem.AutoIntOps.rshift_2 Yr hb ⟨.int _,H,I.tok _,⟨_,rfl⟩,q _⟩
theorem Du{X:Cx}:bG X (Y8 .BitAnd) (we λ_ _=>True):=by
 intro aac s σ H x y v u Q I rx ry h;obtain⟨i,j,rfl,rfl,c,q⟩:=h;obtain⟨t,rfl⟩:=rx;obtain⟨t',rfl⟩:=ry;exact and_int ⟨.int _,H,I.tok _,⟨_,rfl⟩,q _⟩
def lA(c:Int->Int->Prop):Yw->Yw->(Yw->Prop)->Prop:=λx y Q=>∃i j:Int,x= .int i/\y= .int j/\c i j/\∀r:Int,Q (.int r)
theorem tj{K:QV}{c:Int->Int->Prop}:cw K (we c) (lA c):=λH O x y dx dy Qd R tr hx hy uu27 k=>by
 obtain⟨i,j,e1,e2,h,q⟩:=uu27;subst e1 e2;cases hx.int;cases hy.int;exact⟨i,j,rfl,rfl,h,λr=>k _ _ H (q r) (au.refl _) (.int _)⟩
section
variable {X:Cx} {H0:Hp} {O0:Ex}
def lB(n:Nat)(t:DA):DA:=λδ Q=>t δ λds=>ds.length<=1000/\Q (Ri n ds).flatten
theorem ai.rep{K:QV}{H:Hp}{O:Ex}{vs:List V}{ds:List Yw}(h:ai K H O vs ds):∀n:Nat,ai K H O (Ri n vs).flatten (Ri n ds).flatten
 | 0=>.nil
 | n+1=>by rw [SR,SR,Ut,Ut];exact h.append (ai.rep h n)
theorem wg{n:Nat}(hn:n<=1000){e:YF}{t:DA}{j}{pos cp:Pos}(h:FE X H0 O0 e t):FE X H0 O0 (.BinOp e .Mult (.Constant (.int (n:Int)) j cp) pos) (lB n t):=
 (bE IY h bL).imp λσ H Q ⟨O,δ,Qd,w,q,k⟩=>⟨O,δ,_,w,q,λds vs p H1 q1 s1 hp r1=>by
  refine⟨p,n,vs,rfl,rfl,bq,Yr,Yr,?_,λp' hp'=>?_⟩
  ·have h1:=r1.length;have h2:(YH:Nat)=16777216:=Yq
   have h3:=q1.1;rw [Sk];have h4:vs.length*n<=1000*1000:=Nat.mul_le_mul Yr hn;omega
  ·rw [Sk];exact k _ _ p' _ q1.2 (s1.trans (au.new hp)) hp' ((r1.rep n).mono (au.new hp))⟩
end
def LZ:V->List V->Hp->VK->Prop:=λx vs H Q=>∃l b xs zs,x= .ref l/\vs=[.ref b]/\H l=some (.lst xs)/\Rd H b (.lst zs)/\xs.length+zs.length<=YH/\Q .non (ah H l (.lst (xs++zs)))
theorem L1{X:Cx}:sh X "list.extend" LZ:=by
 intro aac s σ H x vs v us Q I rx rv h;obtain⟨l,b,xs,zs,rfl,rfl,hH,hB,hz,q⟩:=h;cases rx;obtain⟨u,rfl,ru⟩:=rv.one;cases ru;obtain⟨z,its,n,r,hl,e⟩:=I.lstM hH;obtain⟨z2,its2,n2,r2,e2⟩:=hB.ok I.hok;have hl2:=r2.length;have hsz:its.toArray.size+its2.toArray.size<=YH:=by rw [Rc,Rc];omega
 have hlong:¬(!its.toArray.isEmpty && TY (its.toArray.size+its2.toArray.size))=true:=by
  rw [vh hsz,XU];exact Q5
 refine Zm Vm ⟨_,e,rfl⟩ PySem.F.entry_list_extend (PySem.F.args_list_extend_2 _ _)
  (VD l its.toArray n b its2.toArray n2 hlong (by rw [Rc];omega) Yr) ⟨e,e2,?_⟩
 refine⟨.non,_,I.lset (its':=its++its2) hH e Yv (r.append r2) ?_,rfl,q⟩;rw [Ra];omega
section
variable {X:Cx} {H0:Hp} {O0:Ex}
def lC(i:Nat)(t:DT):DS:=λE δ=>∃ds,δ[i]?=some (some (.o ds))/\t δ λd=>∃es,d= .list es/\ds.length+es.length<=YH/\E.nx (δ.set i (some (.o (ds++es))))
theorem wj{i:Nat}{o e:YF}{t:DT}{apos cpos pos:Pos}(ho:PE X o (cK i))(he:DE X H0 O0 e t)(hbase:Y4 o "extend" X.env (eval o X.env)=eval o X.env:=by rfl)
 (hfew:((YR cpos (YD [e] X.env)).all (λx=>!x.1) && (Zk cpos (Y6 [] X.env)).all (λx=>x.1.isSome) && decide ([e].length+([]:List Zj).length+(if ([]:List Zj).isEmpty then 0 else 1) < 30))=true:=by rfl)
 (hline:(apos.endLine==cpos.line)=true:=by rfl)(hst:YD [e] X.env=(false,eval e X.env)::YD [] X.env:=by rfl)(hplain:(YR cpos (YD [] X.env)).any (·.1)=false:=by rfl)
 (hs:YS (.Call (.Attribute o "extend" apos) [e] [] cpos) none pos.line X.env=pure false:=by rfl):PS X (.Expr (.Call (.Attribute o "extend" apos) [e] [] cpos) pos) (bf X.K H0 O0 (lC i t)):=
 (qh (sf UJ Vm Wu L1 ho (bw he b5 hst) hbase hfew hline hst hplain) hs).imp λD σ H uu29=>by
  obtain⟨O,δ,E,w,⟨ds,e,q⟩,k1,k2,k3,k4⟩:=uu29;obtain⟨l,vs,h,a,b,c,r⟩:=w.own e;refine⟨_,h,.inl ⟨rfl,_,bo.of c⟩,O,δ,_,w,q,λd v H1 ⟨es,ed,q1,q2⟩ s1 r1=>?_⟩;subst ed;have hl:H1 l=some (.lst vs):=s1 _ _ c;cases r1 with
  | lst h1 n r1=>
   refine⟨l,_,vs,_,rfl,rfl,hl,h1,by rw [r.length,r1.length];exact q1,?_⟩;exact k1 _ _ _ _ q2 ((w.mono s1).putO (vs:=vs) e h ((r.mono s1).append r1)) ⟨λb' o' z n=>by rw [az (λy=>n (by rw [y];exact a))];exact s1 _ _ z,λ_ _ n=>n⟩
theorem Dv{i:Nat}{x:Str}{e:YF}{t:DA}{pos pos':Pos}(hN:X.N.Nodup)(hi:X.N[i]?=some x)(hx:g8 X.env.scope x)(he:PU X e (nV X.K H0 O0 t))(hs:YS e (some (.Name x pos')) pos.line X.env=pure true:=by rfl)(hf:X.fn x=true\/X.env.scope.names.lookup x=some .local:=by first | exact .inl rfl | exact .inr rfl | assumption):
 PS X (.Assign [.Name x pos'] e pos) (bf X.K H0 O0 (iF i t)):=
 (he _ _ _ _ hN hi hx hs hf).imp λD σ H ⟨O,δ,E,w,q,k1,k2,k3,k4⟩=>⟨O,δ,_,w,q,λds vs p H1 q1 s1 hp r1=>k1 _ _ _ _ q1 ((w.mono s1).setO hp r1)
  ⟨λb o e _=>(s1.trans (au.new hp)) b o e,λb e n z=>z.elim n λy=>by
   cases q:H b with
   | none=>exact e q
   | some o=>have:=s1 _ _ q;rw [y,hp] at this;cases this⟩⟩
end
end L2
namespace Day
def iP(y:Int):Bool:=decide (y % 400=0) || (decide (y % 4=0) && !decide (y % 100=0))
def ld(y:Int):Int:=if iP y=true then 1 else 0
def wk:List Int:=[31,28,31,30,31,30,31,31,30,31,30,31]
def bt(y m:Int):Int:=if m=2/\iP y=true then 29 else wk.getD (m - 1).toNat 0
def lb(y:Int):Int:=(y - 1)/ 4 - (y - 1)/ 100+(y - 1)/ 400
def cc(y:Int):Int:=365*(y - 2000)+lb y - lb 2000
def aT(y m:Int):Int:=((SO (m - 1).toNat).map λ(i:Nat)=>bt y (1+(i:Int))).sum
def oq(y m n:Int):Int:=cc y+aT y m+n - 1
structure nt (d y m n:Int):Prop where
 m1:1<=m
 m12:m<=12
 n1:1<=n
 nl:n<=bt y m
 eq:oq y m n=d
theorem L3(y:Int):0<=ld y/\ld y<=1:=by unfold ld;split <;> omega
theorem qT(y:Int):iP y=true↔(y % 400=0\/(y % 4=0/\y % 100≠0)):=by
 unfold iP;simp
theorem Dw(y:Int):cc (y+1)=cc y+365+ld y:=by
 unfold cc lb ld;by_cases h:iP y=true
 ·rw [Yt h];have:=(qT y).mp h;omega
 ·rw [Ys h];have:=mt (qT y).mpr h;omega
theorem Dx{a b:Int}(h:a+1<=b):cc (a+1)<=cc b:=by
 unfold cc lb;omega
theorem wm(y:Int):bt y 2=28+ld y:=by
 unfold bt ld;by_cases h:iP y=true
 ·rw [Yt ⟨rfl,h⟩,Yt h];rfl
 ·rw [Ys (λz=>h z.2),Ys h];rfl
theorem wq{y m:Int}(h:m≠2):bt y m=wk.getD (m - 1).toNat 0:=by
 unfold bt;rw [Ys (λz=>h z.1)]
theorem wt(y:Int):bt y 1=31/\bt y 3=31/\bt y 4=30/\bt y 5=31/\bt y 6=30/\bt y 7=31/\bt y 8=31/\bt y 9=30/\bt y 10=31/\bt y 11=30/\bt y 12=31:=by
 refine⟨?_,?_,?_,?_,?_,?_,?_,?_,?_,?_,?_⟩ <;> (rw [wq Yq];rfl)
theorem wu{m:Int}(h1:1<=m)(h2:m<=12):m=1\/m=2\/m=3\/m=4\/m=5\/m=6\/m=7\/m=8\/m=9\/m=10\/m=11\/m=12:=by
 obtain⟨k,e⟩:=SY (show 0<=m - 1 by omega);have e:m=(k:Int)+1:=Yr
 have hk:k < 12:=Yr
 have key:∀k:Fin 12,((k.1:Nat):Int)+1=1\/((k.1:Nat):Int)+1=2\/((k.1:Nat):Int)+1=3\/((k.1:Nat):Int)+1=4\/((k.1:Nat):Int)+1=5\/((k.1:Nat):Int)+1=6\/((k.1:Nat):Int)+1=7\/((k.1:Nat):Int)+1=8\/((k.1:Nat):Int)+1=9\/((k.1:Nat):Int)+1=10\/((k.1:Nat):Int)+1=11\/((k.1:Nat):Int)+1=12:=Yp
 rw [e];exact key ⟨k,hk⟩
theorem L4{y m:Int}(h1:1<=m)(h2:m<=12):28<=bt y m/\bt y m<=31:=by
 obtain⟨m1,m3,m4,m5,m6,m7,m8,m9,m10,m11,m12⟩:=wt y;have m2:28<=bt y 2/\bt y 2<=31:=by
  have:=L3 y;rw [wm];clear m1 m3 m4 m5 m6 m7 m8 m9 m10 m11 m12 h1 h2;omega
 have k:∀{z:Int},z=31\/z=30->28<=z/\z<=31:=λh=>by rcases h with h | h <;> rw [h] <;> decide
 rcases wu h1 h2 with h | h | h | h | h | h | h | h | h | h | h | h <;> subst h
 ·exact k (.inl m1)
 ·exact m2
 ·exact k (.inl m3)
 ·exact k (.inr m4)
 ·exact k (.inl m5)
 ·exact k (.inr m6)
 ·exact k (.inl m7)
 ·exact k (.inl m8)
 ·exact k (.inr m9)
 ·exact k (.inl m10)
 ·exact k (.inr m11)
 ·exact k (.inl m12)
theorem wx(y:Int):aT y 1=0:=rfl
theorem eQ{y m:Int}(h:1<=m):aT y (m+1)=aT y m+bt y m:=by
 unfold aT;have e:(m+1 - 1).toNat=(m - 1).toNat+1:=Yr
 rw [e,WK,Rq,List.sum_append];have e2:(1:Int)+(((m - 1).toNat:Nat):Int)=m:=Yr
 simp only [Q0,RW,Uo,List.sum_nil,e2];omega
theorem L5{a b c:Int}(l:Int)(h:a+b=c):a+(b+l)=c+l:=Yr
theorem ju{a b c:Int}(l:Int)(h:a+b=c):a+l+b=c+l:=Yr
theorem wy(y:Int):aT y 1=0/\aT y 2=31/\aT y 3=59+ld y/\aT y 4=90+ld y/\aT y 5=120+ld y/\aT y 6=151+ld y/\aT y 7=181+ld y/\aT y 8=212+ld y/\aT y 9=243+ld y/\aT y 10=273+ld y/\aT y 11=304+ld y/\aT y 12=334+ld y/\aT y 13=365+ld y:=by
 obtain⟨m1,m3,m4,m5,m6,m7,m8,m9,m10,m11,m12⟩:=wt y;have e2:aT y 2=31:=by rw [show aT y 2=aT y 1+bt y 1 from eQ (m:=1) Yq,m1];rfl
 have e3:aT y 3=59+ld y:=by rw [show aT y 3=aT y 2+bt y 2 from eQ (m:=2) Yq,e2,wm];exact L5 _ rfl
 have e4:aT y 4=90+ld y:=by rw [show aT y 4=aT y 3+bt y 3 from eQ (m:=3) Yq,e3,m3];exact ju _ rfl
 have e5:aT y 5=120+ld y:=by rw [show aT y 5=aT y 4+bt y 4 from eQ (m:=4) Yq,e4,m4];exact ju _ rfl
 have e6:aT y 6=151+ld y:=by rw [show aT y 6=aT y 5+bt y 5 from eQ (m:=5) Yq,e5,m5];exact ju _ rfl
 have e7:aT y 7=181+ld y:=by rw [show aT y 7=aT y 6+bt y 6 from eQ (m:=6) Yq,e6,m6];exact ju _ rfl
 have e8:aT y 8=212+ld y:=by rw [show aT y 8=aT y 7+bt y 7 from eQ (m:=7) Yq,e7,m7];exact ju _ rfl
 have e9:aT y 9=243+ld y:=by rw [show aT y 9=aT y 8+bt y 8 from eQ (m:=8) Yq,e8,m8];exact ju _ rfl
 have e10:aT y 10=273+ld y:=by rw [show aT y 10=aT y 9+bt y 9 from eQ (m:=9) Yq,e9,m9];exact ju _ rfl
 have e11:aT y 11=304+ld y:=by rw [show aT y 11=aT y 10+bt y 10 from eQ (m:=10) Yq,e10,m10];exact ju _ rfl
 have e12:aT y 12=334+ld y:=by rw [show aT y 12=aT y 11+bt y 11 from eQ (m:=11) Yq,e11,m11];exact ju _ rfl
 have e13:aT y 13=365+ld y:=by rw [show aT y 13=aT y 12+bt y 12 from eQ (m:=12) Yq,e12,m12];exact ju _ rfl
 exact⟨wx y,e2,e3,e4,e5,e6,e7,e8,e9,e10,e11,e12,e13⟩
theorem Dy{y m:Int}(h1:1<=m):∀k:Nat,m+k<=13->aT y m<=aT y (m+k)
 | 0,_=>by simp
 | k+1,h=>by
  have ih:=Dy (y:=y) h1 k Yr;have e:m+((k+1:Nat):Int)=(m+k)+1:=Yr
  rw [e,eQ Yr];have:=L4 (y:=y) (m:=m+k) Yr Yr;omega
theorem wz{y m m':Int}(h1:1<=m)(h2:m<=m')(h3:m'<=13):aT y m<=aT y m':=by
 have:=Dy (y:=y) h1 (m' - m).toNat Yr;rw [show m+(((m' - m).toNat:Nat):Int)=m' by omega] at this;exact this
theorem Dz{y m:Int}(h1:1<=m)(h2:m<=12):0<=aT y m/\aT y m+bt y m<=365+ld y:=by
 have a:=wz (y:=y) (m:=1) (m':=m) Yq h1 Yr;have b:=wz (y:=y) (m:=m+1) (m':=13) Yr Yr Yq;rw [eQ h1] at b;have c:=(wy y).1;have e:=(wy y).2.2.2.2.2.2.2.2.2.2.2.2;omega
theorem DC{y m m':Int}(h1:1<=m)(h2:m < m')(h3:m'<=12):aT y m+bt y m<=aT y m':=by
 have b:=wz (y:=y) (m:=m+1) (m':=m') Yr Yr Yr;rw [eQ h1] at b;exact b
theorem nt.in{d y m n:Int}(h:nt d y m n):cc y<=d/\d < cc (y+1):=by
 have:=Dz (y:=y) h.m1 h.m12;have:=h.n1;have:=h.nl;have e:=h.eq;have:=Dw y;unfold oq at e;omega
theorem nt.uniq{d y m n y' m' n':Int}(h:nt d y m n)(h':nt d y' m' n'):y=y'/\m=m'/\n=n':=by
 have a:=h.in;have b:=h'.in;have ey:y=y':=by
  rcases Xt y y' with z | z | z
  ·have:=Dx (a:=y) (b:=y') Yr;omega
  ·exact z
  ·have:=Dx (a:=y') (b:=y) Yr;omega
 subst ey;have e:=h.eq;have e':=h'.eq;unfold oq at e e';have em:m=m':=by
  rcases Xt m m' with z | z | z
  ·have:=DC (y:=y) h.m1 z h'.m12;have:=h.nl;have:=h'.n1;omega
  ·exact z
  ·have:=DC (y:=y) h'.m1 z h.m12;have:=h'.nl;have:=h.n1;omega
 subst em;exact⟨rfl,rfl,Yr⟩
def pB(d:Int):Int:=
 if d < cc (2000+d*400 / 146097) then 2000+d*400 / 146097 - 1
 else if cc (2000+d*400 / 146097+1)<=d then 2000+d*400 / 146097+1
 else 2000+d*400 / 146097
theorem L6(d:Int):cc (pB d)<=d/\d < cc (pB d+1):=by
 unfold pB;have e:2000+d*400 / 146097 - 1+1=2000+d*400 / 146097:=Yr
 by_cases h:d < cc (2000+d*400 / 146097)
 ·rw [Yt h,e];refine⟨?_,h⟩;unfold cc lb at*;omega
 ·rw [Ys h];by_cases h2:cc (2000+d*400 / 146097+1)<=d
  ·rw [Yt h2];refine⟨h2,?_⟩;unfold cc lb at*;omega
  ·rw [Ys h2];omega
def tm(y m n k:Int):Int:=oq ((y*12+m - 1+k)/ 12) ((y*12+m - 1+k)% 12+1) (min n (bt ((y*12+m - 1+k)/ 12) ((y*12+m - 1+k)% 12+1)))
theorem L7(y:Int):365*(y - 2000)+(y - 2000+3)/ 4 - (y - 2000+99)/ 100+(y - 2000+399)/ 400=cc y:=by
 unfold cc lb;omega
theorem length_eq(y m:Int)(h1:1<=m)(h2:m<=12):(if m=2/\(y % 4≠0\/(y % 100=0/\y % 400≠0)) then(28:Int) else [31,29,31,30,31,30,31,31,30,31,30,31].getD (m - 1).toNat 0)=bt y m:=by
 by_cases h:m=2
 ·subst h;rw [wm];unfold ld;by_cases l:iP y=true
  ·rw [Yt l,Ys (by have:=(qT y).mp l;omega)];rfl
  ·rw [Ys l,Yt (by have:=mt (qT y).mpr l;omega)];rfl
 ·rw [wq h,Ys (λz=>h z.1)];rcases wu h1 h2 with z | z | z | z | z | z | z | z | z | z | z | z <;> subst z <;> first | rfl | exact absurd rfl h
def fst(M:Int):Int:=oq (M / 12) (M % 12+1) 1
def Dn(M n:Int):Int:=fst M+n - 1
end Day
namespace L2
open PySem PySem.Spec PyProof.Rows PySem.W
def d2(m:Nat):List Nat:=[48+m / 10,48+m % 10]
def d4(y:Nat):List Nat:=[48+y / 1000,48+y / 100 % 10,48+y / 10 % 10,48+y % 10]
open PySem PySem.Spec PyProof.Rows PySem.W PySem.Calls
section
variable {prog:YI} {w:YJ} {A:YN} {E:Yx->YA->Prop} {s:YA}
theorem L8{j t:Yz}{i:Nat}{its:Array Yx}{x:Yx}{Q:Yx->YA->Prop}(hi:s.heap.IsTupleIter j t i)(ht:s.heap.IsTuple t its)(hx:its[i]?=some x)
 (k:∀h2,h2.IsTupleIter j t (i+1)->Tx j s.heap h2->Q x {s with heap:=h2}):YC (YE prog w) A (Uz (.ref j)) Q E s:=by
 obtain⟨oi,e1,c1,d1⟩:=id hi;obtain⟨ot,e2,_,n2,d2⟩:=ht;unfold Uz;refine Yy (YW (name:=QU "__next__") hi.typeIs F.slot_tuple_iterator_next (YV F.slot_tuple_iterator_next hi.typeIs F.entry_tuple_iterator_next ?_ (F.args_tuple_iterator_next_1 _)))
 (show YC _ _ (field (.ref j) 0 >>=_) _ _ s);refine Yy (Zu e1 d1 (x:= .ref t) rfl ?_)
 (show YC _ _ (if (RM t==SS)=true then _ else _) _ _ s);rw [Ys (show ¬((RM t==SS)=true) from Q5)]
 (show YC _ _ (field (.ref j) 1 >>=_) _ _ s);refine Yy (Zu e1 d1 (x:= .int i 0) rfl ?_)
 (show YC _ _ (seqItems? (.ref t) >>=_) _ _ s);refine Yy (Z2 e2 d2 ?_)
 simp only [Sk,hx];refine Yy (Zd e1 d1 Yv (YB ⟨x,rfl,YB (k _ ?_ (RV ..))⟩));exact⟨_,SV _ e1 (Ul (SQ d1 _)),(Vv ..).trans c1,by rw [SQ d1];simp [Zf]⟩
theorem DD{j t:Yz}{i:Nat}{its:Array Yx}{Q:Yx->YA->Prop}(hh:A.handled=none)(hi:s.heap.IsTupleIter j t i)(ht:s.heap.IsTuple t its)(hx:its[i]?=none)
 (k:∀h2 e,WM j s.heap h2->(∃o,h2.get? e=some o/\o.cls= .type "StopIteration")->E (.ref e) {s with heap:=h2}):YC (YE prog w) A (Uz (.ref j)) Q E s:=by
 obtain⟨oi,e1,c1,d1⟩:=id hi;obtain⟨ot,e2,_,n2,d2⟩:=ht;unfold Uz;refine Yy (YW (name:=QU "__next__") hi.typeIs F.slot_tuple_iterator_next (YV F.slot_tuple_iterator_next hi.typeIs F.entry_tuple_iterator_next ?_ (F.args_tuple_iterator_next_1 _)))
 (show YC _ _ (field (.ref j) 0 >>=_) _ _ s);refine Yy (Zu e1 d1 (x:= .ref t) rfl ?_)
 (show YC _ _ (if (RM t==SS)=true then _ else _) _ _ s);rw [Ys (show ¬((RM t==SS)=true) from Q5)]
 (show YC _ _ (field (.ref j) 1 >>=_) _ _ s);refine Yy (Zu e1 d1 (x:= .int i 0) rfl ?_)
 (show YC _ _ (seqItems? (.ref t) >>=_) _ _ s);refine Yy (Z2 e2 d2 ?_)
 simp only [Sk,hx];refine Yy (ZX (Yy (Zd e1 d1 Yv ?_)))
 (show YC _ _ (newExc (.type "StopIteration") [] >>=_) _ _ _);refine Yy ?_;simp only [newExc,newTuple]
 refine Yy (YT ?_ (by size_fits));refine Yy (m:=Zv _ _) (ZL (a:=SS) (by first | rfl | (simp only [Zv];rfl)) ?_);refine YT ?_ (by size_fits);simp only [raiseNew];refine Yy (wpAny_handled ?_)
 first | rw [show A.in1.handled=none from hh] | rw [hh]
 refine Yy (YB (wpAny_throw ?_));exact k _ _ (((RV ..).extBut.push _).push _) ⟨_,Rl _ rfl,rfl⟩
end
def gf{α:Type}(xs:List α)(n:Nat)(y:α):List α:=xs.take n++y::xs.drop n
theorem DH{α:Type}(xs:List α)(n:Nat)(y:α):(gf xs n y).Perm (y::xs):=by
 unfold gf;refine List.perm_middle.trans ?_;rw [TQ]
theorem L9{α β:Type}(f:α->β)(xs:List α)(n:Nat)(y:α):(gf xs n y).map f=gf (xs.map f) n (f y):=by
 unfold gf;rw [Rq,Q0,T4,V8]
theorem Ma{α:Type}(xs:List α)(n:Nat)(y:α):(gf xs n y).length=xs.length+1:=(DH xs n y).length_eq
def Mb:V->List V->Hp->VK->Prop:=λx vs H Q=>∃l xs y,∃n:Nat,x= .ref l/\vs=[.int (n:Int),y]/\H l=some (.lst xs)/\n<=xs.length/\xs.length < 1000000/\Q .non (ah H l (.lst (gf xs n y)))
theorem Mc(l:List Yx)(k:Nat)(y:Yx):(l.toArray.extract 0 k).push y++l.toArray.extract k=(gf l k y).toArray:=by
 apply Wv.mp;simp;unfold gf;congr 2;exact Rz Yv
theorem Md{X:Cx}:sh X "list.insert" Mb:=by
 intro aac s σ H x vs v us Q I rx rv h;obtain⟨l,xs,y,n,rfl,rfl,hH,hn,hz,q⟩:=h;cases rx;cases rv with
 | cons r1 r2=>
  obtain⟨u,rfl,ru⟩:=ft r2;obtain⟨t,rfl⟩:=r1;obtain⟨z,its,m,r,hl,e⟩:=I.lstM hH;have ef:Um (n:Int)=true:=by
   unfold Um;simp;omega
  have sl:(1000000:Nat)<=YH:=Yq
  have hsz:its.toArray.size<=YH:=by rw [Rc];exact Rx Yr sl
  have hfi:¬(!Um (n:Int))=true:=by rw [ef];decide
  generalize hni:(n:Int)=ni at hfi ef⊢;refine Zm Wx ⟨_,e,rfl⟩ PySem.F.entry_list_insert (PySem.F.args_list_insert_3 _ _ _) (PySem.AutoSeq1.list_insert_list_int_val_1 l its.toArray m ni t u hfi hsz) ⟨e,?_⟩;refine⟨.non,_,I.lset (its':=gf its n u) hH e ?_ ((r.take n).append (.cons ru (r.drop n))) ?_,rfl,q⟩
  ·show(its.toArray.extract 0 (if ni < 0 then(ni+(its.toArray.size:Int)).toNat else min ni.toNat its.toArray.size)).push u++its.toArray.extract (if ni < 0 then(ni+(its.toArray.size:Int)).toNat else min ni.toNat its.toArray.size)=_;subst hni;rw [Ys Yr,Rc,Sk,XR Yr];have:=Mc its n u;simp only [Rc] at this;exact this
  ·show(gf xs n y).length<=YH;rw [Ma];exact Rx Yr sl
section
variable {X:Cx} {H0:Hp} {O0:Ex}
theorem ai.takeN{K:QV}{H:Hp}{O:Ex}:∀{vs:List V}{ds:List Yw}(n:Nat),ai K H O vs ds->ai K H O (vs.take n) (ds.take n)
 | _,_,0,_=>by rw [XX,XX];exact .nil
 | _,_,n+1,.nil=>.nil
 | _,_,n+1,.cons a r=>.cons a (ai.takeN n r)
theorem ai.dropN{K:QV}{H:Hp}{O:Ex}:∀{vs:List V}{ds:List Yw}(n:Nat),ai K H O vs ds->ai K H O (vs.drop n) (ds.drop n)
 | _,_,0,r=>r
 | _,_,n+1,.nil=>.nil
 | _,_,n+1,.cons a r=>ai.dropN n r
def lE(i:Nat)(t1 t2:DT):DS:=λE δ=>∃ds,δ[i]?=some (some (.o ds))/\t1 δ λa=>t2 δ λd=>∃n:Nat,a= .int (n:Int)/\n<=ds.length/\ds.length < 1000000/\E.nx (δ.set i (some (.o (gf ds n d))))
theorem Me{i:Nat}{o e e2:YF}{t1 t2:DT}{apos cpos pos:Pos}(ho:PE X o (cK i))(he:DE X H0 O0 e t1)(he2:DE X H0 O0 e2 t2)(hbase:Y4 o "insert" X.env (eval o X.env)=eval o X.env:=by rfl)
 (hfew:((YR cpos (YD [e,e2] X.env)).all (λx=>!x.1) && (Zk cpos (Y6 [] X.env)).all (λx=>x.1.isSome) && decide ([e,e2].length+([]:List Zj).length+(if ([]:List Zj).isEmpty then 0 else 1) < 30))=true:=by rfl)
 (hline:(apos.endLine==cpos.line)=true:=by rfl)(hst:YD [e,e2] X.env=(false,eval e X.env)::YD [e2] X.env:=by rfl)(hst2:YD [e2] X.env=(false,eval e2 X.env)::YD [] X.env:=by rfl)(hplain:(YR cpos (YD [e2] X.env)).any (·.1)=false:=by rfl)
 (hs:YS (.Call (.Attribute o "insert" apos) [e,e2] [] cpos) none pos.line X.env=pure false:=by rfl):PS X (.Expr (.Call (.Attribute o "insert" apos) [e,e2] [] cpos) pos) (bf X.K H0 O0 (lE i t1 t2)):=
 (qh (sf UJ Wx PySem.F.type_list_insert Md ho (bw he (bw he2 b5 hst2) hst) hbase hfew hline hst hplain) hs).imp λD σ H uu32=>by
  obtain⟨O,δ,E,w,⟨ds,e,q⟩,k1,k2,k3,k4⟩:=uu32;obtain⟨l,vs,h,a,b,c,r⟩:=w.own e;refine⟨_,h,.inl ⟨rfl,_,bo.of c⟩,O,δ,_,w,q,λx vx H1 q1 s1 r1=>?_⟩;refine⟨O,δ,_,w.mono s1,q1,λd v H2 q2 s2 r2=>?_⟩;obtain⟨n,rfl,hn,hz,q2⟩:=q2;cases r1;have rl:=r.length;have S:=s1.trans s2;refine⟨l,vs,v,n,rfl,rfl,S _ _ c,Yr,Yr,?_⟩;exact k1 _ _ _ _ q2 ((w.mono S).putO (vs:=vs) e h (((r.mono S).takeN n).append (.cons r2 ((r.mono S).dropN n)))) ⟨λb' o' z n=>by rw [az (λy=>n (by rw [y];exact a))];exact S _ _ z,λ_ _ n=>n⟩
def gP(t:DT):DB:=λδ Q=>t δ λd=>∃ds,d= .list ds/\Q (!ds.isEmpty)
theorem tq{e:YF}{t:DT}(h:DE X H0 O0 e t)(he:∀whole,isTrue e X.env whole=(do let v<-whole;ZR e.pos;ZH [v] (truthy v)):=by intro _;rfl):PT X e (bT X.K H0 O0 (gP t)):=
 (HP h he).imp λσ H Q ⟨O,δ,Qd,w,q,k⟩=>⟨O,δ,_,w,q,λd v H' uu34 s r=>by
  obtain⟨ds,e,qb⟩:=uu34;subst e;obtain⟨a,vs,rfl,hs,r⟩:=(Sh.dt r).lst;refine⟨_,.inl ⟨vs,hs,rfl⟩,?_⟩;have:(!vs.isEmpty)=!ds.isEmpty:=by cases r <;> rfl
  rw [this];exact k _ H' qb s⟩
theorem tu{K:QV}{H:Hp}{O:Ex}{z:Str}:∀{kv:List (aq×V)}{ks:List Str}{ds:List Yw},kv.map (·.1)=ks.map Sx->ai K H O (kv.map (·.2)) ds->bh ks ds z=none->dJ kv (.inr z)=none
 | [],_,ds,_,_,e=>rfl
 | _::_,[],ds,h,_,_=>by cases h
 | p::kv,k::ks,ds,h,hd,e=>by
  rw [Q0] at hd;cases hd with
  | cons h1 h2=>
   simp only [Q0,RO] at h;obtain⟨p1,p2⟩:=p;obtain⟨rfl,h⟩:=h;unfold bh at e;by_cases hk:k=z
   ·rw [Yt hk] at e;cases e
   ·rw [Ys hk] at e;rw [pk (λq=>hk (jr.mp q))];exact tu h h2 e
def lF(to tk:DT):DT:=λδ Q=>to δ λx=>∃ks ds,x=gb ks ds/\tk δ λy=>∃z,y= .str z/\Q ((bh ks ds z).getD .none)
theorem Mf{o e:YF}{to tk:DT}{apos cpos:Pos}(hu:X.A.units+64 < Y0)(ho:DE X H0 O0 o to)(he:DE X H0 O0 e tk)(m:M1 X o "get" apos e cpos):DE X H0 O0 (.Call (.Attribute o "get" apos) [e] [] cpos) (lF to tk):=
 (Cf Yr ho he m).imp λσ H Q uu35=>by
  obtain⟨O,δ,Qd,w,q,k⟩:=uu35;refine⟨O,δ,_,w,q,λx vx H1 ⟨ks,ds,ex,q1⟩ s1 r1=>?_⟩;subst ex;cases r1 with
  | @dic a ob kv ks' kp ds h e1 e2 n rr=>
   have ek:ks'=ks:=by
    have:ks'.map QZ=ks.map QZ:=e2.symm;exact pz this
   subst ek;refine⟨a,rfl,.inl ⟨kv,.inr ⟨_,h⟩⟩,O,δ,_,w.mono s1,q1,λy vy H2 ⟨z,ey,q2⟩ s2 r2=>?_⟩;subst ey;cases r2;refine⟨_,cF.z (k:= .inr z) (s2 _ _ h),k _ _ _ q2 (s1.trans s2) ?_⟩;cases hd:bh ks' ds z with
   | none=>rw [tu e1 rr hd];exact .non
   | some d=>
    obtain⟨v,hv,dv⟩:=qP e1 rr hd;rw [hv];exact dv.mono s2
def lG(to tk tx:DT):DT:=λδ Q=>to δ λx=>∃ks ds,x=gb ks ds/\tk δ λy=>tx δ λu=>∃z,y= .str z/\Q ((bh ks ds z).getD u)
theorem Mg{o e f:YF}{to tk tx:DT}{apos cpos:Pos}(hu:X.A.units+64 < Y0)(ho:DE X H0 O0 o to)(he:DE X H0 O0 e tk)(hf:DE X H0 O0 f tx)(m:M2 X o "get" apos e f cpos):DE X H0 O0 (.Call (.Attribute o "get" apos) [e,f] [] cpos) (lG to tk tx):=
 (Kh Yr ho he hf m).imp λσ H Q uu38=>by
  obtain⟨O,δ,Qd,w,q,k⟩:=uu38;refine⟨O,δ,_,w,q,λx vx H1 ⟨ks,ds,ex,q1⟩ s1 r1=>?_⟩;subst ex;cases r1 with
  | @dic a ob kv ks' kp ds h e1 e2 n rr=>
   have ek:ks'=ks:=by
    have:ks'.map QZ=ks.map QZ:=e2.symm;exact pz this
   subst ek;refine⟨a,rfl,.inl ⟨kv,.inr ⟨_,h⟩⟩,O,δ,_,w.mono s1,q1,λy vy H2 q2 s2 r2=>?_⟩;refine⟨O,δ,_,(w.mono s1).mono s2,q2,λu vu H3 ⟨z,ey,q3⟩ s3 r3=>?_⟩;subst ey;cases r2;refine⟨_,cF.z (k:= .inr z) (s3 _ _ (s2 _ _ h)),k _ _ _ q3 ((s1.trans s2).trans s3) ?_⟩;cases hd:bh ks' ds z with
   | none=>rw [tu e1 rr hd];exact r3
   | some d=>
    obtain⟨v,hv,dv⟩:=qP e1 rr hd;rw [hv];exact(dv.mono s2).mono s3
end
theorem Dt.dicE{K:QV}{H:Hp}{O:Ex}{v:V}{ks:List Str}{ds:List Yw}(h:Dt K H O v (gb ks ds)):∃a ob kv,v= .ref a/\H a=some (.frz ob (.dK kv))/\kv.map (·.1)=ks.map Sx/\¬O a/\ai K H O (kv.map (·.2)) ds:=by
 cases h with
 | @dic a ob kv ks' kp ds h e1 e2 n rr=>
  have ek:ks'=ks:=pz e2.symm;subst ek;exact⟨a,ob,kv,rfl,h,e1,n,rr⟩
theorem DI{K:QV}{H:Hp}{O:Ex}{z:Str}{kv:List (aq×V)}{ks:List Str}{ds:List Yw}(e1:kv.map (·.1)=ks.map Sx)(r:ai K H O (kv.map (·.2)) ds):(dJ kv (.inr z)).isSome=(bh ks ds z).isSome:=by
 cases hd:bh ks ds z with
 | none=>rw [tu e1 r hd];rfl
 | some d=>
  obtain⟨v,hv,_⟩:=qP e1 r hd;rw [hv];rfl
section
variable {X:Cx} {H0:Hp} {O0:Ex}
def ig(neg:Bool)(tk to:DT):DT:=λδ Q=>tk δ λy=>to δ λx=>∃z ks ds,y= .str z/\x=gb ks ds/\Q (.bool (if neg then !(bh ks ds z).isSome else(bh ks ds z).isSome))
theorem Mh{o e:YF}{tk to:DT}(hu:X.A.units+64 < Y0)(ho:DE X H0 O0 o to)(he:DE X H0 O0 e tk):PC X .In e o (up X.K H0 O0 (ig false tk to)):=λaac s σ H Q I ⟨O,δ,Qd,w,q,k⟩=>
 Ka Yr he ho aac s σ H Q I ⟨O,δ,_,w,q,λy uy H2 q2 s2 r2=>⟨O,δ,_,w.mono s2,q2,λx ux H3 uu42 s3 r3=>by
  obtain⟨z,ks,ds,ey,ex,q3⟩:=uu42;subst ey ex;cases r2;obtain⟨a,ob,kv,rfl,h,e1,n,rr⟩:=r3.dicE;exact⟨a,_,rfl,cF.z (k:= .inr z) h,by rw [DI e1 rr];exact k _ _ _ q3 (s2.trans s3) (.bl _)⟩⟩⟩
theorem Mi{o e:YF}{tk to:DT}(hu:X.A.units+64 < Y0)(ho:DE X H0 O0 o to)(he:DE X H0 O0 e tk):PC X .NotIn e o (up X.K H0 O0 (ig true tk to)):=λaac s σ H Q I ⟨O,δ,Qd,w,q,k⟩=>
 Cc Yr he ho aac s σ H Q I ⟨O,δ,_,w,q,λy uy H2 q2 s2 r2=>⟨O,δ,_,w.mono s2,q2,λx ux H3 uu44 s3 r3=>by
  obtain⟨z,ks,ds,ey,ex,q3⟩:=uu44;subst ey ex;cases r2;obtain⟨a,ob,kv,rfl,h,e1,n,rr⟩:=r3.dicE;exact⟨a,_,rfl,cF.z (k:= .inr z) h,by rw [DI e1 rr];exact k _ _ _ q3 (s2.trans s3) (.bl _)⟩⟩⟩
theorem QT{o e:YF}{tk to:DT}{pos:Pos}(hu:X.A.units+64 < Y0)(ho:DE X H0 O0 o to)(he:DE X H0 O0 e tk)(hm:Y3 .In o=false:=by rfl):PT X (.Compare e [.In] [o] pos) (bT X.K H0 O0 (c7 (ig false tk to))):=
 (rJ (Mh hu ho he) hm).imp λσ H Q uu45=>by obtain⟨O,δ,Qd,w,q,k⟩:=uu45;exact⟨O,δ,_,w,q,λd v H' uu46 s r=>by obtain⟨b,e,qb⟩:=uu46;subst e;cases r;exact⟨b,rfl,k b H' qb s⟩⟩
theorem Mj{o e:YF}{tk to:DT}{pos:Pos}(hu:X.A.units+64 < Y0)(ho:DE X H0 O0 o to)(he:DE X H0 O0 e tk)(hm:Y3 .NotIn o=false:=by rfl):PT X (.Compare e [.NotIn] [o] pos) (bT X.K H0 O0 (c7 (ig true tk to))):=
 (rJ (Mi hu ho he) hm).imp λσ H Q uu47=>by obtain⟨O,δ,Qd,w,q,k⟩:=uu47;exact⟨O,δ,_,w,q,λd v H' uu48 s r=>by obtain⟨b,e,qb⟩:=uu48;subst e;cases r;exact⟨b,rfl,k b H' qb s⟩⟩
theorem DJ{X:Cx}{pos:Pos}:PE X (.Dict [] [] pos) (λ_ H Q=>∀p o,H p=none->Q (.ref p) (ah H p (.frz o (.dK [])))):=λaac s σ H Q I h=>by
 have I1:=I.laid (a:=s.heap.objs.size) (o:= .dK []) (t':=s.toks) (λ_ _ q=>Q1 _ q) (QY _) (Cd s.heap I.big);obtain⟨o,I2⟩:=I1.fast bq;rw [Hj] at I2;exact wpAny_Dict_empty ⟨.ref s.heap.objs.size,_,I2,rfl,h _ o (I.hok.fresh (QY _))⟩
end
mutual
def cG:Yw->Bool
 | .list ds=>fJ ds
 | .tuple ds=>fJ ds
 | .none=>true
 | .bool _=>true
 | .int _=>true
 | .str _=>true
 | _=>false
def fJ:List Yw->Bool
 | []=>true
 | d::ds=>cG d && fJ ds
end
def Gp(C:Yz)(H:Hp)(O O1:Ex):Prop:=∀a,O a->O1 a\/(∃o kv,H a=some (.frz o (.dK kv)))\/∃dx fs,H a=some (.ins C dx fs)
theorem Gp.ne{C:Yz}{H:Hp}{O O1:Ex}(g:Gp C H O O1){a:Yz}{u:HO}(h:Rd H a u)(n:¬O1 a)(h1:∀kv,u≠ .dK kv)(h2:∀dx fs,u≠ .ins C dx fs)(h3:∀o kv,u≠ .frz o (.dK kv)):¬O a:=λz=>by
 rcases g a z with q | ⟨o,kv,q⟩ | ⟨dx,fs,q⟩
 ·exact n q
 ·rcases h with h | ⟨o',h⟩ <;> rw [q] at h <;> cases h
  ·exact h3 _ _ rfl
  ·exact h1 _ rfl
 ·rcases h with h | ⟨o',h⟩ <;> rw [q] at h <;> cases h;exact h2 _ _ rfl
mutual
theorem Dt.cln{K:QV}{C:Yz}{H:Hp}{O O1:Ex}(g:Gp C H O O1):∀{v:V}{d:Yw},Dt K H O1 v d->cG d=true->Dt K H O v d
 | _,_,.non,_=>.non
 | _,_,.bl b,_=>.bl b
 | _,_,.int i,_=>.int i
 | _,_,.str x,_=>.str x
 | _,_,.tup h n r,c=>.tup h (g.ne h n (λ_ z=>nomatch z) (λ_ _ z=>nomatch z) (λ_ _ z=>nomatch z)) (ai.cln g r (by simpa [cG] using c))
 | _,_,.tupK h r,c=>.tupK h (ai.cln g r (by simpa [cG] using c))
 | _,_,.lst h n r,c=>.lst h (g.ne h n (λ_ z=>nomatch z) (λ_ _ z=>nomatch z) (λ_ _ z=>nomatch z)) (ai.cln g r (by simpa [cG] using c))
 | _,_,.pack _ _,c=>by simp [cG] at c
 | _,_,.purse _ _,c=>by simp [cG] at c
 | _,_,.dct0 _ _,c=>by simp [cG] at c
 | _,_,.obj _ _ _ _,c=>by simp [cG] at c
 | _,_,.dic _ _ _ _ _,c=>by simp [cG] at c
 | _,_,.scr _ _,c=>by simp [cG] at c
theorem ai.cln{K:QV}{C:Yz}{H:Hp}{O O1:Ex}(g:Gp C H O O1):∀{vs:List V}{ds:List Yw},ai K H O1 vs ds->fJ ds=true->ai K H O vs ds
 | _,_,.nil,_=>.nil
 | _,_,.cons h r,c=>by
  rw [fJ,R5] at c;exact .cons (Dt.cln g h c.1) (ai.cln g r c.2)
end
def wA(C:Yz)(d:Yw):Prop:=cG d=true\/∃C' kp ds,C'≠C/\d=fz C' kp ds/\fJ ds=true
theorem Dt.clnO{K:QV}{C:Yz}{H:Hp}{O O1:Ex}(g:Gp C H O O1){v:V}{d:Yw}(h:Dt K H O1 v d)(c:wA C d):Dt K H O v d:=by
 rcases c with c | ⟨C',kp,ds,ne,rfl,c⟩
 ·exact h.cln g c
 ·generalize e:fz C' kp ds=x at h;cases h with
  | @obj a C2 dx fs kp' ds' h1 h2 n r=>
   simp only [fz,Xr,RO,VA,Si,Sb,SU,and_true,true_and] at e;obtain⟨e1,e2,e3⟩:=e;have e1:C'=C2:=by exact_mod_cast e1
   subst e1 e2 e3;refine .obj h1 h2 ?_ (r.cln g c);exact g.ne (.inl h1) n (λ_ z=>nomatch z) (λ_ _ z=>by cases z;exact ne rfl) (λ_ _ z=>nomatch z)
  | _=>first | cases e | simp [fz] at e
theorem bK.thaw{P:YI}{w:YJ}{H:Hp}{h:YK}(x:bK P w H h){g:Yz}{o:Obj}{kv:List (aq×V)}(e:H g=some (.frz o (.dK kv))):bK P w (ah H g (.dK kv)) h:=λb u q=>by
 by_cases hb:b=g
 ·subst hb;rw [bq] at q;cases q;obtain⟨_,z⟩:=x b _ e;exact z
 ·rw [az hb] at q;exact(x b u q).stay (λ_ _ _ r=>r) (λc r=>by rw [az (λz=>by rw [z,e] at r;cases r)];exact r) λc xs r=>by rw [az (λz=>by rw [z,e] at r;cases r)];exact r
theorem ag.thaw{X:Cx}{aac:List (Yz×Obj)}{σ:St}{H:Hp}{s:YA}(I:ag X aac σ H s){g:Yz}{o:Obj}{kv:List (aq×V)}(e:H g=some (.frz o (.dK kv)))(hX:∀o u,X.H₀ g≠some (.frz o u)):ag X aac σ (ah H g (.dK kv)) s:=by
 have ne:∀{b:Yz},H b=none->b≠g:=λn z=>by rw [z,e] at n;cases n
 refine⟨I.ok,I.os,I.bare,⟨I.base.keep,I.base.slot,λb o' h1 h2 h3=>?_,I.base.there,λb xs q=>?_,λb o' u q=>?_,λb ps q=>?_⟩,I.loc,I.cell,?_,λx c q=>?_,λp hp=>?_,I.hok.thaw e,I.len⟩
 ·have:=I.base.free b o' h1 h2 h3;rw [az (ne this)];exact this
 ·have:=I.base.tups b xs q;rw [az (λz=>by rw [z,e] at this;cases this)];exact this
 ·have:=I.base.frzs b o' u q;rw [az (λz=>hX o' u (by rw [<-z];exact q))];exact this
 ·obtain⟨m,this⟩:=I.base.tbls b ps q;exact⟨m,by rw [az (λz=>by rw [z,e] at this;cases this)];exact this⟩
 ·rw [az (ne I.free)];exact I.free
 ·rw [az (ne (I.freeC x c q))];exact I.freeC x c q
 ·obtain⟨a,b,c⟩:=I.pin p hp;exact⟨a,by rw [az (ne b)];exact b,c⟩
section
variable {X:Cx} {CX:fc} {k:Nat} {f C:Yz} {fd:YG} {ps:List Str} {sp:Sp} {E:XK} {x m:Str} {p pos apos:Pos} {e o:YF} {es:List YF} {ta:TE} {t:TA}
def Ml(X:Cx)(C:Yz)(m:Str)(sp:Sp)(E:XK)(ta:TE)(t:TA):TE:=λσ H Q=>ta σ H λx H1=>∃a dx fs,x= .ref a/\H1 a=some (.ins C dx fs)/\fs.lookup m=none/\
 t σ H1 λvs H2=>∃g u og ou gv uv,g≠u/\H2 g=some (.frz og (.dK gv))/\H2 u=some (.frz ou (.dK uv))/\(∀o z,X.H₀ g≠some (.frz o z))/\(∀o z,X.H₀ u≠some (.frz o z))/\
  sp (x::vs) (ah (ah H2 g (.dK gv)) u (.dK uv)) (λv H3=>∃gv' uv',H3 g=some (.dK gv')/\H3 u=some (.dK uv')/\∀og' ou',Q v (ah (ah H3 g (.frz og' (.dK gv'))) u (.frz ou' (.dK uv')))) E
theorem Mm{pl:Sem Bool}(he:PE X o ta)(c:cS X.K C)(hm:hG X.K C m f)(F:aA X.prog X.w X.K X.mg X.base CX k f fd ps sp)(hr:bp k X.A)(hb:cT X.K fd ps [])(hx:hJ CX X E)(ha:PA X (e::es) t)
 (hst:YD (e::es) X.env=(false,eval e X.env)::YD es X.env:=by rfl)(hpl:(YR pos (YD es X.env)).any (·.1)=false:=by rfl)
 (ht:eval (.Call (.Attribute o m apos) (e::es) [] pos) X.env=(do
  let ov<-eval o X.env
  ZR apos.atName
  let (f,first)<-ZH [ov] (ZS ov m pl)
  callWith pos f first (YR pos (YD (e::es) X.env)) (Zk pos (Y6 [] X.env))):=by rfl):
 PE X (.Call (.Attribute o m apos) (e::es) [] pos) (Ml X C m sp E ta t):=by
 intro aac s σ H Q I h;refine U2 (pl:=pl) (aB (he aac s σ H _ I h) λu s1 ⟨x,H1,I1,rx,a,dx,fs,ex,ea,l,q⟩=>?_) ht;subst ex;obtain rfl:u=RM a:=rx;refine rT I1 ea c hm l ?_;refine Vj (first:=[.ref a]) (h₀:=X.base) I.ok.mod.kin hm.kp (aB (ha pos aac s1 σ H1 _ I1 q) λus s2 ⟨vs,H2,I2,r,q2⟩=>⟨I2.kIn,?_⟩) hst hpl;obtain⟨g,u,og,ou,gv,uv,ne,hg,hu,xg,xu,q2⟩:=q2;have I3:=(I2.thaw hg xg).thaw (g:=u) (o:=ou) (kv:=uv) (by rw [az (Ne.symm ne)];exact hu) xu;refine aB (qw (us:= .ref a::us) (vs:= .ref a::vs) (dvs:=[]) (ds:=[]) F hr hb .nil hx I3 (.cons rfl r) (by rw [RN];exact q2)) λv s3 z=>?_;obtain⟨y,H4,I4,ry,gv',uv',g4,u4,q4⟩:=z;obtain⟨og',I5⟩:=I4.fast g4;obtain⟨ou',I6⟩:=I5.fast (a:=u) (kv:=uv') (by rw [az (Ne.symm ne)];exact u4);exact⟨y,_,I6,ry,q4 og' ou'⟩
end
section
variable {X:Cx} {H0:Hp} {O0:Ex}
theorem DK{fs:List (Str×V)}{ks:List Str}{m:Str}(h:fs.map (λp=>QZ p.1)=ks.map QZ)(hm:m ∉ ks):fs.lookup m=none:=by
 have e:fs.map (·.1)=ks:=by
  apply pz;rw [<-h,Rm];rfl
 subst e
 induction fs with
 | nil=>rfl
 | cons p fs ih=>
  obtain⟨g,x⟩:=p;simp only [Q0,Q4,not_or] at hm;rw [RG,show(m==g)=false by simpa using hm.1];exact ih (by rw [Rm];rfl) hm.2
def pC(C:Yz)(m:Str)(F:List Yw->(Yw->Prop)->Prop)(to:DT)(t:DA):DT:=λδ Q=>to δ λx=>∃(ks:List Str)(ds:List Yw),x=fz C (ks.map .str) ds/\m ∉ ks/\t δ λes=>F (x::es) Q
theorem Mo{K:QV}{C:Yz}{m:Str}{F:List Yw->(Yw->Prop)->Prop}{to:DT}{t:DA}{E:XK}:∀σ H Q,up K H0 O0 (pC C m F to t) σ H Q->qv C m (aU K F) [] E (up K H0 O0 to) (fT K H0 O0 t) σ H Q:=
 λσ H Q uu51=>by obtain⟨O,δ,Qd,w,q,k⟩:=uu51;exact⟨O,δ,_,w,q,λx v H1 uu52 s1 r1=>by
  obtain⟨ks,ds,ex,hm,q1⟩:=uu52;have r0:=r1;subst ex;obtain⟨a,dx,fs,rfl,h1,h2,r⟩:=r1.objI;exact⟨a,dx,fs,rfl,h1,DK h2.symm hm,O,δ,_,w.mono s1,q1,λes vs H2 q2 s2 r2=>⟨O,_,Qd,(w.mono (s1.trans s2)).trk,by rw [RN];exact .cons (r0.mono s2) r2,q2,λd v H3 q3 s3 r3=>k d v H3 q3 (s1.trans (s2.trans s3)) r3⟩⟩⟩
theorem tw{K:QV}{C:Yz}{m:Str}{F:List Yw->(Yw->Prop)->Prop}{to:DT}{E:XK}:∀σ H Q,up K H0 O0 (pC C m F to gF) σ H Q->qv C m (aU K F) [] E (up K H0 O0 to) oY σ H Q:=
 λσ H Q uu53=>by obtain⟨O,δ,Qd,w,q,k⟩:=uu53;exact⟨O,δ,_,w,q,λx v H1 uu54 s1 r1=>by
  obtain⟨ks,ds,ex,hm,q1⟩:=uu54;have r0:=r1;subst ex;obtain⟨a,dx,fs,rfl,h1,h2,r⟩:=r1.objI;exact⟨a,dx,fs,rfl,h1,DK h2.symm hm,O,_,Qd,(w.mono s1).trk,.cons r0 .nil,q1,λd v H3 q3 s3 r3=>k d v H3 q3 (s1.trans s3) r3⟩⟩
end
def oz:Dl->Bool
 | []=>true
 | some (.r _ _ _ _ _ _ _)::_=>false
 | _::r=>oz r
theorem DL{l C g u:Yz}{fd:List (Str×Yw)}{gd ud:List (aq×Yw)}:∀{δ:Dl}{j:Nat},oz δ=true->δ[j]?≠some (some (.r l C g u fd gd ud))
 | [],_,_,z=>by simp at z
 | y::r,0,h,z=>by
  simp at z;subst z;simp [oz] at h
 | y::r,j+1,h,z=>by
  have h':oz r=true:=by
   unfold oz at h;split at h
   ·rename_i q;cases q
   ·cases h
   ·rename_i q;cases q;exact h
  exact DL (δ:=r) (j:=j) h' (by simpa using z)
section
variable {K:QV} {H0 H H':Hp} {O0 O:Ex} {σ:St} {δ:Dl}
theorem hU.goN{O':Ex}{x:Option V}{y:Option Sl}(h:hU K H O0 O x y)(nr:∀l C g u fd gd ud,y≠some (.r l C g u fd gd ud))(S:aH H H' O O')(kp:∀l o z,y=some z->z.own->x=some (.ref l)->O l->¬O0 l->H l=some o->O' l/\H' l=some o)(kp3:∀a o,O0 a->H a=some o->H' a=some o):hU K H' O0 O' x y:=by
 match y,h with
 | none,_=>exact Tr
 | some (.v d),⟨v,e,r⟩=>exact⟨v,e,r.step S⟩
 | some (.o ds),⟨l,vs,e,a,b,c,r⟩=>exact⟨l,vs,e,(kp l _ _ rfl trivial e a b c).1,b,(kp l _ _ rfl trivial e a b c).2,r.step S⟩
 | some (.k ds),⟨l,vs,e,a,b,c,r⟩=>exact⟨l,vs,e,(kp l _ _ rfl trivial e a b c).1,b,(kp l _ _ rfl trivial e a b c).2,r.step S⟩
 | some (.i l C ds),⟨dx,vs,e,a,b,c,r1,r2⟩=>exact⟨dx,vs,e,(kp l _ _ rfl trivial e a b c).1,b,(kp l _ _ rfl trivial e a b c).2,r1,r2.step S⟩
 | some (.r l C g u fd gd ud),_=>exact absurd rfl (nr l C g u fd gd ud)
 | some (.b ds),⟨l,vs,e,a,c,r⟩=>exact⟨l,vs,e,a,kp3 _ _ a c,r.step S⟩
theorem Mp{i j:Nat}(h:j≠i):(δ.set i none)[j]?=δ[j]?:=Rg (Ne.symm h)
theorem Wd.putR(w:Wd K H0 O0 H O σ δ){i:Nat}{l C g u:Yz}{fd:List (Str×Yw)}{gd ud gd' ud':List (aq×Yw)}{gv uv:List (aq×V)}{og ou:Obj}(e:δ[i]?=some (some (.r l C g u fd gd ud)))(nr:oz (δ.set i none)=true)(hg:bC K H O gv gd')(hu:bC K H O uv ud'):
 Wd K H0 O0 (ah (ah H g (.frz og (.dK gv))) u (.frz ou (.dK uv))) O σ (δ.set i (some (.r l C g u fd gd' ud')))/\aH H (ah (ah H g (.frz og (.dK gv))) u (.frz ou (.dK uv))) O O:=by
 obtain⟨x1,x2,x3,dx,fs,og0,ou0,gv0,uv0,hl,hf,ne,⟨g1,g2,g3,_⟩,u1,u2,u3,_⟩:=w.sl i _ e;have g0:H0 g=none:=(w.new g g1).resolve_left g2;have u0:H0 u=none:=(w.new u u1).resolve_left u2;have li:i < δ.length:=(Q7.mp e).1;have at_:∀{b:Yz},b≠g->b≠u->(ah (ah H g (.frz og (.dK gv))) u (.frz ou (.dK uv))) b=H b:=λh1 h2=>by rw [az h2,az h1]
 have S:aH H (ah (ah H g (.frz og (.dK gv))) u (.frz ou (.dK uv))) O O:=⟨λb o q n=>by rw [at_ (λz=>n (by rw [z];exact g1)) (λz=>n (by rw [z];exact u1))];exact q,λ_ _ n=>n⟩;have gg:(ah (ah H g (.frz og (.dK gv))) u (.frz ou (.dK uv))) g=some (.frz og (.dK gv)):=by rw [az ne,bq]
 have lg:l≠g:=λz=>by rw [z,g3] at hl;cases hl
 have lu:l≠u:=λz=>by rw [z,u3] at hl;cases hl
 refine⟨⟨λb o q=>by rw [at_ (λz=>by rw [z,g0] at q;cases q) (λz=>by rw [z,u0] at q;cases q)];exact w.same b o q,w.sub,w.new,λb z=>?_,by simp [w.len],λj y q=>?_,λj k y z b e1 y1' e2 z2 e3 e4=>?_⟩,S⟩
 ·by_cases q1:b=g
  ·rw [q1,gg];exact λz=>nomatch z
  ·by_cases q2:b=u
   ·rw [q2,bq];exact λz=>nomatch z
   ·rw [at_ q1 q2];exact w.trk b z
 ·by_cases hj:j=i
  ·subst hj;rw [Ry li] at q;cases q;exact⟨x1,x2,x3,dx,fs,og,ou,gv,uv,by rw [at_ lg lu];exact hl,⟨hf.1,hf.2.step S⟩,ne,⟨g1,g2,gg,hg.step S⟩,u1,u2,bq,hu.step S⟩
  ·rw [Rg (Ne.symm hj)] at q;refine(w.sl j y q).goN (λl' C' g' u' fd' gd' ud' z=>?_) S (λb o z hz ho e' a1 a2 a3=>⟨a1,?_⟩) λb o a1 a3=>?_
   ·subst z;exact DL nr (by rw [Mp hj];exact q)
   ·subst hz;have nf:=w.nofrz q ho (fA e');rw [at_ (λz=>nf _ _ (by rw [z];exact g3)) (λz=>nf _ _ (by rw [z];exact u3))];exact a3
   ·rw [at_ (λz=>g2 (by rw [<-z];exact a1)) (λz=>u2 (by rw [<-z];exact a1))];exact a3
 ·have eD:∀{j:Nat}{y:Sl},(δ.set i (some (.r l C g u fd gd' ud')))[j]?=some (some y)->y.own->∃y',δ[j]?=some (some y')/\y'.own:=λ{j y} q hq=>by
   by_cases hj:j=i
   ·subst hj;exact⟨_,e,trivial⟩
   ·rw [Rg (Ne.symm hj)] at q;exact⟨_,q,hq⟩
  obtain⟨_,q1,r1⟩:=eD e1 y1';obtain⟨_,q2,r2⟩:=eD e2 z2;exact w.dis j k _ _ b q1 r1 q2 r2 e3 e4
theorem Wd.setR(w:Wd K H0 O0 H O σ δ){i:Nat}{O':Ex}{l C g u:Yz}{fd:List (Str×Yw)}{gd ud:List (aq×Yw)}(sm:au H H')(sb:∀a,O a->O' a)(nw:∀a,O' a->O a\/H a=none)(tr:∀a,O' a->H' a≠none)(h1:O' l)(h2:¬O l)(R:vB K H' O O' l C g u fd gd ud):
 Wd K H0 O0 H' O' (σ.set i (some (.ref l))) (δ.set i (some (.r l C g u fd gd ud)))/\aH H H' O O':=by
 have S:aH H H' O O':=⟨λb o e _=>sm b o e,λb hb hn z=>(nw b z).elim hn hb⟩;have hl:H l=none:=(nw l h1).resolve_left h2;have none0:∀{a:Yz},H a=none->H0 a=none:=λ{a} h=>by
  cases e:H0 a with
  | none=>rfl
  | some o=>rw [w.same _ _ e] at h;cases h
 have n0:∀{a:Yz},¬O a->¬O0 a:=λh z=>h (w.sub _ z);refine⟨⟨w.same.trans sm,λa z=>sb a (w.sub a z),λa z=>(nw a z).elim (w.new a) λq=>.inr (none0 q),tr,by simp [w.len],λj y e=>?_,λj k y z a e1 y1 e2 z2 e3 e4=>?_⟩,S⟩
 ·by_cases hj:j=i
  ·subst hj;have li:j < δ.length:=by
    have:=(Q7.mp e).1;simpa using this
   rw [Ry li] at e;cases e;rw [Ry (by rw [w.len];exact li)];obtain⟨dx,fs,og,ou,gv,uv,r1,r2,r3,⟨a1,a2,a3⟩,b1,b2,b3⟩:=R;exact⟨rfl,h1,n0 h2,dx,fs,og,ou,gv,uv,r1,r2,r3,⟨a1,n0 a2,a3⟩,b1,n0 b2,b3⟩
  ·rw [Rg (Ne.symm hj)] at e⊢;exact(w.sl j y e).go S (λl o _ _ a _ c=>⟨sb _ a,sm _ _ c⟩) (λa o u a1 _ a3=>⟨sb _ a1,sm _ _ a3⟩) λa o _ a3=>sm _ _ a3
 ·have no:∀{j:Nat}{y:Sl},j≠i->δ[j]?=some (some y)->y.own->σ[j]?≠some (some (.ref l)):=λ{j y} _ e h z=>by
   obtain⟨l',x1,x2,_⟩:=w.adr e h;rw [z] at x1;cases x1;exact h2 x2
  by_cases hj:j=i
  ·by_cases hk:k=i
   ·rw [hj,hk]
   ·exfalso;rw [hj] at e3;have li:i < σ.length:=by
     have:=(Q7.mp e3).1;simpa using this
    rw [Ry li] at e3;cases e3;rw [Rg (Ne.symm hk)] at e2 e4;exact no hk e2 z2 e4
  ·by_cases hk:k=i
   ·exfalso;rw [hk] at e4;have li:i < σ.length:=by
     have:=(Q7.mp e4).1;simpa using this
    rw [Ry li] at e4;cases e4;rw [Rg (Ne.symm hj)] at e1 e3;exact no hj e1 y1 e3
   ·rw [Rg (Ne.symm hj)] at e1 e3;rw [Rg (Ne.symm hk)] at e2 e4;exact w.dis j k _ _ a e1 y1 e2 z2 e3 e4
end
def gh(m:Str)(ks:List Str):Bool:=ks.all (λk=>!(k==b7) && !(k==c0) && !(k==m)) && !(m==b7) && !(m==c0)
theorem wB{fs gs:List (Str×V)}{m:Str}(h:∀p∈fs,p.1≠m):(fs++gs).lookup m=gs.lookup m:=by
 induction fs with
 | nil=>rfl
 | cons p fs ih=>
  obtain⟨k,v⟩:=p;have hk:k≠m:=h (k,v) RK;rw [Sd,RG,show(m==k)=false by simpa using Ne.symm hk];exact ih λq hq=>h q (Ru _ hq)
theorem tD{K:QV}{H:Hp}{O:Ex}{fs:List (Str×V)}{fd:List (Str×Yw)}{m:Str}(hf:iD K H O fs fd)(h:gh m (fd.map (·.1))=true):(∀p∈fs,p.1≠b7/\p.1≠c0/\p.1≠m)/\m≠b7/\m≠c0:=by
 unfold gh at h;simp only [R5,Wt,Sw,beq_eq_false_iff_ne] at h;refine⟨λp hp=>?_,h.1.2,h.2⟩;have hm:p.1∈fd.map (·.1):=by rw [<-hf.1];exact List.mem_map_of_mem hp
 obtain⟨⟨a,b⟩,c⟩:=h.1.1 _ hm;exact⟨a,b,c⟩
theorem DM:b7≠c0:=Yp
section
variable {K:QV} {H:Hp} {O:Ex} {fs:List (Str×V)} {fd:List (Str×Yw)} {m:Str} {g u:Yz}
theorem DN(hf:iD K H O fs fd)(h:gh m (fd.map (·.1))=true):(fs++[(b7,V.ref g),(c0,V.ref u)]).lookup b7=some (.ref g):=by
 rw [wB λp hp=>((tD hf h).1 p hp).1];simp [RG]
theorem Mq(hf:iD K H O fs fd)(h:gh m (fd.map (·.1))=true):(fs++[(b7,V.ref g),(c0,V.ref u)]).lookup c0=some (.ref u):=by
 rw [wB λp hp=>((tD hf h).1 p hp).2.1,RG,show(c0==b7)=false by simpa using Ne.symm DM];simp [RG]
theorem DP(hf:iD K H O fs fd)(h:gh m (fd.map (·.1))=true):(fs++[(b7,V.ref g),(c0,V.ref u)]).lookup m=none:=by
 obtain⟨a,b,c⟩:=tD hf h;rw [wB λp hp=>(a p hp).2.2,RG,show(m==b7)=false by simpa using b,RG,show(m==c0)=false by simpa using c];rfl
end
inductive wC (K:QV) (C:Yz) (vs:List V) (H:Hp) (Q:VK) (E:XK):Prop
 | mk (l dx:Yz) (fs:List (Str×V)) (g u:Yz) (gv uv:List (aq×V)) (a:Yz) (x:Str) (y z:V):vs=[.ref l,.ref a]->H l=some (.ins C dx fs)->fs.lookup b7=some (.ref g)->fs.lookup c0=some (.ref u)->g≠u->H g=some (.dK gv)->H u=some (.dK uv)->
 aZ K H a [.str x,y,z]->gv.length < YH->uv.length < YH->((z= .non/\Q .non (ah H g (.dK (putK gv (.inr x) y))))\/∃s,z= .str s/\Q .non (ah (ah H g (.dK (putK gv (.inr x) y))) u (.dK (putK uv (.inr s) (.bl true)))))->wC K C vs H Q E
section
variable {X:Cx} {H0:Hp} {O0:Ex}
def wD(C:Yz)(i:Nat)(m:Str)(t:DT):DS:=λE δ=>∃l g u fd gd ud,δ[i]?=some (some (.r l C g u fd gd ud))/\oz (δ.set i none)=true/\gh m (fd.map (·.1))=true/\t δ λd=>∃x y z,d= .tuple [.str x,y,z]/\gd.length < YH/\ud.length < YH/\
 ((z= .none/\E.nx (δ.set i (some (.r l C g u fd (fW gd (.inr x) y) ud))))\/∃s,z= .str s/\E.nx (δ.set i (some (.r l C g u fd (fW gd (.inr x) y) (fW ud (.inr s) (.bool true))))))
theorem DQ{C f:Yz}{i k:Nat}{m:Str}{o e:YF}{t:DT}{fdt:YG}{ps:List Str}{pl:Sem Bool}{E:XK}{apos cpos pos:Pos}(hX:∀b,H0 b=none->∀o z,X.H₀ b≠some (.frz o z))(ho:PE X o (cK i))(c:cS X.K C)(hm:hG X.K C m f)(F:aA X.prog X.w X.K X.mg X.base CX0 k f fdt ps (wC X.K C))(hr:bp k X.A)(hb:cT X.K fdt ps [])(hx:hJ CX0 X E)
 (he:DE X H0 O0 e t)(hst:YD [e] X.env=(false,eval e X.env)::YD [] X.env:=by rfl)(hpl:(YR cpos (YD [] X.env)).any (·.1)=false:=by rfl)
 (ht:eval (.Call (.Attribute o m apos) [e] [] cpos) X.env=(do
  let ov<-eval o X.env
  ZR apos.atName
  let (f,first)<-ZH [ov] (ZS ov m pl)
  callWith cpos f first (YR cpos (YD [e] X.env)) (Zk cpos (Y6 [] X.env))):=by rfl)
 (hs:YS (.Call (.Attribute o m apos) [e] [] cpos) none pos.line X.env=pure false:=by rfl):PS X (.Expr (.Call (.Attribute o m apos) [e] [] cpos) pos) (bf X.K H0 O0 (wD C i m t)):=
 (qh (Mm (pl:=pl) ho c hm F hr hb hx (bw he b5 hst) hst hpl ht) hs).imp λD σ H uu55=>by
  obtain⟨O,δ,E,w,⟨l,g,u,fd,gd,ud,ei,nr,rk,q⟩,k1,k2,k3,k4⟩:=uu55;obtain⟨x1,x2,x3,dx,fs,og,ou,gv,uv,hl,hf,ne,⟨g1,g2,g3,g4⟩,u1,u2,u3,u4⟩:=w.sl i _ ei;refine⟨_,fA x1,l,dx,_,rfl,hl,DP hf rk,O,δ,_,w,q,λd v H1 ⟨x,y,z,ed,l1,l2,q1⟩ s1 r1=>?_⟩;subst ed;obtain⟨a,xs,rfl,sq,rs⟩:=(Sh.dt r1).tup;have hxs:∃y' z',xs=[.str x,y',z']/\Dt X.K H1 O y' y/\Dt X.K H1 O z' z:=by
   cases rs with
   | cons a1 r=>
    cases r with
    | cons a2 r=>
     cases r with
     | cons a3 r=>
      cases r;cases a1;exact⟨_,_,rfl,a2,a3⟩
  obtain⟨y',z',rfl,dy,dz⟩:=hxs;have w1:=w.mono s1;have hl1:=s1 _ _ hl;have g31:=s1 _ _ g3;have u31:=s1 _ _ u3;have lg:l≠g:=λz=>by rw [z,g3] at hl;cases hl
  have lu:l≠u:=λz=>by rw [z,u3] at hl;cases hl
  have ug:u≠g:=Ne.symm ne;have g0:H0 g=none:=(w.new g g1).resolve_left g2;have u0:H0 u=none:=(w.new u u1).resolve_left u2;have sqk:aZ X.K (ah (ah H1 g (.dK gv)) u (.dK uv)) a [.str x,y',z']:=by
   rcases sq with(h | ⟨ob,h⟩) | h
   ·exact .inl (.inl (by rw [az (λz=>by rw [z,u31] at h;cases h),az (λz=>by rw [z,g31] at h;cases h)];exact h))
   ·exact .inl (.inr ⟨ob,by rw [az (λz=>by rw [z,u31] at h;cases h),az (λz=>by rw [z,g31] at h;cases h)];exact h⟩)
   ·exact .inr h
  refine⟨g,u,og,ou,gv,uv,ne,g31,u31,hX g g0,hX u u0,l,dx,_,g,u,gv,uv,a,x,y',z',rfl,by rw [az lu,az lg];exact hl1,DN hf rk,Mq hf rk,ne,by rw [az ne,bq],bq,sqk,by rw [g4.length];exact l1,by rw [u4.length];exact l2,?_⟩;rcases q1 with⟨rfl,q1⟩ | ⟨s,rfl,q1⟩
  ·cases dz;refine .inl ⟨rfl,putK gv (.inr x) y',uv,bq,by rw [az ug,bq],λog' ou'=>?_⟩;obtain⟨w2,S2⟩:=w1.putR (og:=og') (ou:=ou') (gv:=putK gv (.inr x) y') (uv:=uv) ei nr ((g4.mono s1).put (.inr x) dy) (u4.mono s1);have eh:ah (ah (ah (ah (ah H1 g (.dK gv)) u (.dK uv)) g (.dK (putK gv (.inr x) y'))) g (.frz og' (.dK (putK gv (.inr x) y')))) u (.frz ou' (.dK uv))=ah (ah H1 g (.frz og' (.dK (putK gv (.inr x) y')))) u (.frz ou' (.dK uv)):=by
    funext b;unfold ah;by_cases b1:b=u
    ·simp [b1]
    ·by_cases b2:b=g <;> simp [b1,b2]
   rw [eh];exact k1 _ _ _ _ q1 w2 (aH.trans (.same s1) S2)
  ·cases dz;refine .inr ⟨s,rfl,putK gv (.inr x) y',putK uv (.inr s) (.bl true),by rw [az ne,bq],bq,λog' ou'=>?_⟩;obtain⟨w2,S2⟩:=w1.putR (og:=og') (ou:=ou') (gv:=putK gv (.inr x) y') (uv:=putK uv (.inr s) (.bl true)) ei nr ((g4.mono s1).put (.inr x) dy) ((u4.mono s1).put (.inr s) (.bl true));have eh:ah (ah (ah (ah (ah (ah H1 g (.dK gv)) u (.dK uv)) g (.dK (putK gv (.inr x) y'))) u (.dK (putK uv (.inr s) (.bl true)))) g (.frz og' (.dK (putK gv (.inr x) y')))) u (.frz ou' (.dK (putK uv (.inr s) (.bl true))))=ah (ah H1 g (.frz og' (.dK (putK gv (.inr x) y')))) u (.frz ou' (.dK (putK uv (.inr s) (.bl true)))):=by
    funext b;unfold ah;by_cases b1:b=u
    ·simp [b1]
    ·by_cases b2:b=g <;> simp [b1,b2]
   rw [eh];exact k1 _ _ _ _ q1 w2 (aH.trans (.same s1) S2)
abbrev wF(C:Yz)(fd:List (Str×Yw))(gks uks:List Str)(gd ud:List (aq×Yw)):Yw:=fz C ((fd.map (·.1)++[b7,c0]).map .str) (fd.map (·.2)++[gb gks (gd.map (·.2)),gb uks (ud.map (·.2))])
def wG(C:Yz)(i:Nat)(m:Str)(F:List Yw->(Yw->Prop)->Prop)(t:DA):DT:=λδ Q=>∃l g u fd gd ud,δ[i]?=some (some (.r l C g u fd gd ud))/\gh m (fd.map (·.1))=true/\∃gks uks:List Str,gd.map (·.1)=gks.map Sx/\ud.map (·.1)=uks.map Sx/\
 t δ λes=>F (wF C fd gks uks gd ud::es) λd=>wA C d/\Q d
theorem Mr{K:QV}{C:Yz}{i:Nat}{m:Str}{F:List Yw->(Yw->Prop)->Prop}{t:DA}{E:XK}:∀σ H Q,up K H0 O0 (wG C i m F t) σ H Q->qv C m (aU K F) [] E (cK i) (fT K H0 O0 t) σ H Q:=
 λσ H Q uu57=>by
  obtain⟨O,δ,Qd,w,⟨l,g,u,fd,gd,ud,ei,rk,gks,uks,ek,eu,q⟩,k⟩:=uu57;obtain⟨x1,x2,x3,dx,fs,og,ou,gv,uv,hl,hf,ne,⟨g1,g2,g3,g4⟩,u1,u2,u3,u4⟩:=w.sl i _ ei;refine⟨_,fA x1,l,dx,_,rfl,hl,DP hf rk,O,δ,_,w,q,λes vs H1 q1 s1 r1=>?_⟩;have o1:aH H1 H1 O (λa=>O a/\a≠l/\a≠g/\a≠u):=⟨λ_ _ z _=>z,λ_ _ n z=>n z.1⟩;refine⟨λa=>O a/\a≠l/\a≠g/\a≠u,_,_,λa z=>(w.mono s1).trk a z.1,?_,q1,λd v H2 ⟨c2,q2⟩ s2 r2=>k d v H2 q2 (s1.trans s2) (r2.clnO (C:=C) (λa z=>?_) c2)⟩
  ·rw [RN];refine .cons (.obj (s1 _ _ hl) ?_ (λz=>z.2.1 rfl) ?_) (r1.step o1)
   ·rw [Rq,Rq,<-hf.1,Rm];rfl
   ·rw [Rq];refine((hf.2.mono s1).step o1).append (.cons (.dic (s1 _ _ g3) (by rw [g4.keys];exact ek) rfl (λz=>z.2.2.1 rfl) ((g4.vals.mono s1).step o1)) (.cons (.dic (s1 _ _ u3) (by rw [u4.keys];exact eu) rfl (λz=>z.2.2.2 rfl) ((u4.vals.mono s1).step o1)) .nil))
  ·by_cases a1:a=l
   ·exact .inr (.inr ⟨dx,_,by rw [a1];exact(s1.trans s2) _ _ hl⟩)
   ·by_cases a2:a=g
    ·exact .inr (.inl ⟨og,gv,by rw [a2];exact(s1.trans s2) _ _ g3⟩)
    ·by_cases a3:a=u
     ·exact .inr (.inl ⟨ou,uv,by rw [a3];exact(s1.trans s2) _ _ u3⟩)
     ·exact .inl ⟨z,a1,a2,a3⟩
def wH(C:Yz)(i:Nat)(tk:DT):DT:=λδ Q=>tk δ λy=>∃z,y= .str z/\∃l g u fd gd ud,δ[i]?=some (some (.r l C g u fd gd ud))/\gh "mark" (fd.map (·.1))=true/\Q (.bool (!(fH gd (.inr z)).isSome))
theorem Ms{C:Yz}{i:Nat}{o e:YF}{tk:DT}{pos:Pos}(hu:X.A.units+64 < Y0)(hc:cS X.K C)(hn:NoAttr X.K C b7)(ho:PE X o (cK i))(he:DE X H0 O0 e tk)(hbs:Y4 o b7 X.env (eval o X.env)=eval o X.env:=by rfl):PC X .NotIn e (.Attribute o b7 pos) (up X.K H0 O0 (wH C i tk)):=λaac s σ H Q I ⟨O,δ,Qd,w,q,k⟩=>
 Cc Yr he (rV ho hbs) aac s σ H Q I ⟨O,δ,_,w,q,λy uy H2 uu60 s2 r2=>by
  obtain⟨z,ez,l,g,u,fd,gd,ud,ei,rk,q2⟩:=uu60;subst ez;cases r2;obtain⟨x1,x2,x3,dx,fs,og,ou,gv,uv,hl,hf,ne,⟨g1,g2,g3,g4⟩,u1,u2,u3,u4⟩:=(w.mono s2).sl i _ ei;exact⟨_,fA x1,l,C,dx,_,.ref g,rfl,hl,hc,hn,DN hf rk,g,_,rfl,cF.z (k:= .inr z) g3,by rw [g4.none];exact k _ _ _ q2 s2 (.bl _)⟩⟩
theorem Mt{C:Yz}{i:Nat}{o e:YF}{tk:DT}{pos pos':Pos}(hu:X.A.units+64 < Y0)(hc:cS X.K C)(hn:NoAttr X.K C b7)(ho:PE X o (cK i))(he:DE X H0 O0 e tk)(hbs:Y4 o b7 X.env (eval o X.env)=eval o X.env:=by rfl)(hm:Y3 .NotIn (.Attribute o b7 pos')=false:=by rfl):PT X (.Compare e [.NotIn] [.Attribute o b7 pos'] pos) (bT X.K H0 O0 (c7 (wH C i tk))):=
 (rJ (Ms hu hc hn ho he hbs) hm).imp λσ H Q uu61=>by obtain⟨O,δ,Qd,w,q,k⟩:=uu61;exact⟨O,δ,_,w,q,λd v H' uu62 s r=>by obtain⟨b,e,qb⟩:=uu62;subst e;cases r;exact⟨b,rfl,k b H' qb s⟩⟩
end
section
variable {K:QV}
inductive tE (K:QV) (F:List Yw->List Yw->(Yw->Prop)->Prop) (vs:List V) (H:Hp) (Q:VK) (E:XK):Prop
 | mk (O:Ex) (vs':List V) (l:Yz) (ws:List V) (ds es:List Yw) (Qd:Yw->Prop):vs=vs'++[.ref l]->(∀a,O a->H a≠none)->ai K H O vs' ds->O l->H l=some (.lst ws)->ai K H O ws es->F ds es Qd->(∀d v H',Qd d->au H H'->Dt K H' O v d->Q v H')->tE K F vs H Q E
def nv(N:List Str)(ds es:List Yw):Dl:=ds.map (λd=>some (.v d))++(some (.b es)::Ri (N.length - (ds.length+1)) none)
theorem DR{H:Hp}{O:Ex}{N:List Str}{vs ws:List V}{ds es:List Yw}{l:Yz}(tr:∀a,O a->H a≠none)(r:ai K H O vs ds)(ol:O l)(hl:H l=some (.lst ws))(rs:ai K H O ws es):Wd K H O H O (start N (vs++[.ref l])) (nv N ds es):=by
 have ln:=r.length;have at1:∀(i:Nat) y,(nv N ds es)[i]?=some y->(∃d,ds[i]?=some d/\y=some (.v d))\/(i=ds.length/\y=some (.b es))\/y=none:=λi y e=>by
  unfold nv at e;by_cases h:i < ds.length
  ·rw [R4 (by simpa using h),Q9] at e;cases q:ds[i]? with
   | none=>rw [q] at e;cases e
   | some d=>rw [q] at e;exact .inl ⟨d,rfl,(R3 e).symm⟩
  ·rw [Ss (by simpa using TJ h),QW,List.getElem?_cons] at e;split at e
   ·rename_i z;exact .inr (.inl ⟨Yr,(R3 e).symm⟩)
   ·rw [T9] at e;split at e
    ·exact .inr (.inr (R3 e).symm)
    ·cases e
 refine⟨au.refl _,λ_ z=>z,λ_ z=>.inl z,tr,by simp [start,nv,ln],λi y e=>?_,λi j ds' es l e1=>?_⟩
 ·rcases at1 i y e with⟨d,hd,rfl⟩ | ⟨rfl,rfl⟩ | rfl
  ·obtain⟨v,hv,rv⟩:=r.getD hd;refine⟨v,?_,rv⟩;have hi:=(Q7.mp hv).1;unfold start;rw [R4 (by simp;omega),Q9,R4 hi,hv];rfl
  ·refine⟨l,ws,?_,ol,hl,rs⟩;unfold start;rw [R4 (by simp;omega),Q9,Ss Yr,<-ln,TZ];rfl
  ·exact Tr
 ·rcases at1 i _ e1 with⟨d,_,z⟩ | ⟨_,z⟩ | z
  ·cases z;intro h;exact h.elim
  ·cases z;intro h;exact h.elim
  ·cases z
end
section
variable {P:YI} {w:YJ} {K:QV} {mg:Str->Option Yx} {base:YK}
theorem eB.okB{x qual:Str}{st:YL}{f:Yz}{fd:YG}{N ps:List Str}{k:Nat}{F:List Yw->List Yw->(Yw->Prop)->Prop}(Fu:eB K x qual st f fd)(S:aO N ps (av st))(len:∀ds es Q,F ds es Q->ds.length+1=ps.length)
 (hbody:∀(cdv:Yx) (A:YN) (outer:List Env) (s:YA) (H:Hp) (O:Ex) (ds es:List Yw) (Q:Yw->Prop) (E:XK),bp k (A.deeper (Zx qual (av st) s.heap.objs.size f cdv))->(∀a,O a->H a≠none)->F ds es Q->
  ∃t,bP (iB CX0 P w K mg base N qual (av st) f cdv A outer s H E).nox (fu st) (bf K H O t)/\t {nx:=λ_=>Q .none,rt:=Q} (nv N ds es)):aA P w K mg base CX0 (k+1) f fd ps (tE K F):=by
 refine Fu.ok S (λvs H Q E h=>?_) (λcdv A outer s H vs Q E hr h=>?_)
 ·obtain⟨O,vs',l,ws,ds,es,Qd,rfl,_,r,_,_,_,q,_⟩:=h;rw [Ra,r.length];exact len _ _ _ q
 ·obtain⟨O,vs',l,ws,ds,es,Qd,rfl,tr,r,ol,hl,rs,q,k⟩:=h;obtain⟨t,ht,q'⟩:=hbody cdv A outer s H O ds es Qd E hr tr q;refine⟨_,ht,O,_,_,DR tr r ol hl rs,q',λO' δ' σ' H' z w' S'=>?_,λd v H' z s' r'=>k d v H' z s' r',λ_ _ _ _ z=>z.elim,λ_ _ _ _ z=>z.elim⟩;exact k _ _ _ z w'.same .non
inductive tF (K:QV) (C:Yz) (F:List Yw->List Yw->(List (Str×Yw)->List (aq×Yw)->List (aq×Yw)->Prop)->Prop) (vs:List V) (H:Hp) (Q:VK) (E:XK):Prop
 | mk (x dx:Yz) (vs':List V) (l:Yz) (ws:List V) (H1:Hp) (O:Ex) (ds es:List Yw) (Qd:List (Str×Yw)->List (aq×Yw)->List (aq×Yw)->Prop):vs= .ref x::(vs'++[.ref l])->H=ah (ah H1 dx (.own x)) x (.ins C dx [])->H1 x=none->H1 dx=none->dx≠x->
 (∀a,O a->H1 a≠none)->ai K H1 O vs' ds->O l->H1 l=some (.lst ws)->ai K H1 O ws es->F ds es Qd->
 (∀fd gd ud g u O' H',Qd fd gd ud->au H1 H'->(∀a,O a->O' a)->(∀a,O' a->O a\/H1 a=none)->(∀a,O' a->H' a≠none)->O' x->¬O x->vB K H' O O' x C g u fd gd ud->Q .non H')->tF K C F vs H Q E
def wI(N:List Str)(l C:Yz)(ds es:List Yw):Dl:=some (.i l C [])::(nv N (.none::ds) es).tail
theorem Mu{H1:Hp}{O:Ex}{N:List Str}{vs ws:List V}{ds es:List Yw}{x dx C l:Yz}(tr:∀l,O l->H1 l≠none)(r:ai K H1 O vs ds)(ol:O l)(hl:H1 l=some (.lst ws))(rs:ai K H1 O ws es)(hx:H1 x=none)(hdx:H1 dx=none)(ne:dx≠x):
 Wd K H1 O (ah (ah H1 dx (.own x)) x (.ins C dx [])) (λl=>O l\/l=x) (start N (.ref x::(vs++[.ref l]))) (wI N x C ds es):=by
 have w0:=DR (N:=N) tr (.cons .non r) ol hl rs;have w1:=w0.mono (au.new (o:=HO.own x) hdx);have hx1:(ah H1 dx (.own x)) x=none:=by rw [az (Ne.symm ne)];exact hx
 have:=w1.setY (i:=0) (p:=x) (ho:= .ins C dx []) (y0:= .i x C []) trivial hx1 λO' S a b=>⟨dx,[],rfl,a,b,bq,rfl,.nil⟩;exact this
theorem eB.okRn{x qual:Str}{st:YL}{f C:Yz}{fd:YG}{N ps:List Str}{k:Nat}{F:List Yw->List Yw->(List (Str×Yw)->List (aq×Yw)->List (aq×Yw)->Prop)->Prop}(Fu:eB K x qual st f fd)(S:aO N ps (av st))(len:∀ds es Q,F ds es Q->ds.length+2=ps.length)
 (hbody:∀(cdv:Yx) (A:YN) (outer:List Env) (s:YA) (H H1:Hp) (O:Ex) (ds es:List Yw) (Q:List (Str×Yw)->List (aq×Yw)->List (aq×Yw)->Prop) (E:XK) (l:Yz),bp k (A.deeper (Zx qual (av st) s.heap.objs.size f cdv))->(∀a,O a->H1 a≠none)->(∀b,H1 b=none->∀o z,H b≠some (.frz o z))->F ds es Q->
  ∃t,bP (iB CX0 P w K mg base N qual (av st) f cdv A outer s H E).nox (fu st) (bf K H1 O t)/\t {nx:=λδ=>∃g u fd gd ud,δ[0]?=some (some (.r l C g u fd gd ud))/\Q fd gd ud,rt:=λ_=>False} (wI N l C ds es)):aA P w K mg base CX0 (k+1) f fd ps (tF K C F):=by
 refine Fu.ok S (λvs H Q E h=>?_) (λcdv A outer s H vs Q E hr h=>?_)
 ·obtain⟨x,dx,vs',l,ws,H1,O,ds,es,Qd,rfl,_,_,_,_,_,r,_,_,_,q,_⟩:=h;have:=len _ _ _ q;rw [Q8,Ra,r.length,Td];omega
 ·obtain⟨x,dx,vs',l,ws,H1,O,ds,es,Qd,rfl,rfl,hx,hdx,ne,tr,r,ol,hl,rs,q,k⟩:=h;obtain⟨t,ht,q'⟩:=hbody cdv A outer s (ah (ah H1 dx (.own x)) x (.ins C dx [])) H1 O ds es Qd E x hr tr (λb hb o z=>by
   unfold ah;by_cases b1:b=x
   ·simp [b1]
   ·by_cases b2:b=dx
    ·simp [b1,b2,ne]
    ·simp [b1,b2,hb]) q
  refine⟨_,ht,_,_,_,Mu tr r ol hl rs hx hdx ne,q',λO' δ' σ' H' z w' S'=>?_,λd v H' z s' r'=>z.elim,λ_ _ _ _ z=>z.elim,λ_ _ _ _ z=>z.elim⟩;obtain⟨g,u,fd,gd,ud,e,z⟩:=z;obtain⟨a1,a2,a3,R⟩:=w'.sl 0 _ e;exact k fd gd ud g u O' H' z w'.same w'.sub w'.new w'.trk a2 a3 R
end
section
variable {X:Cx} {H0:Hp} {O0:Ex}
def DU(C:Yz)(i j:Nat)(F:List Yw->List Yw->(List (Str×Yw)->List (aq×Yw)->List (aq×Yw)->Prop)->Prop)(t1 t2:DT):DS:=λE δ=>t1 δ λd1=>t2 δ λd2=>∃es,δ[j]?=some (some (.b es))/\F [d1,d2] es λfd gd ud=>∀l g u,E.nx (δ.set i (some (.r l C g u fd gd ud)))
theorem Wd.lent{K:QV}{H:Hp}{O:Ex}{σ:St}{δ:Dl}(w:Wd K H0 O0 H O σ δ){j:Nat}{es:List Yw}(e:δ[j]?=some (some (.b es))):∃l ws,σ[j]?=some (some (.ref l))/\O0 l/\H l=some (.lst ws)/\ai K H O ws es:=by
 obtain⟨l,ws,a,b,c,d⟩:=w.sl j _ e;exact⟨l,ws,fA a,b,c,d⟩
theorem Mv{C f:Yz}{i j k:Nat}{x y:Str}{a b c:YF}{t1 t2:DT}{fdt:YG}{ps:List Str}{E:XK}{F:List Yw->List Yw->(List (Str×Yw)->List (aq×Yw)->List (aq×Yw)->Prop)->Prop}{p cpos pos pos':Pos}(hN:X.N.Nodup)(hi:X.N[i]?=some x)(hxl:g8 X.env.scope x)
 (M:Mk X.K C f)(Fk:aA X.prog X.w X.K X.mg X.base CX0 k f fdt ps (tF X.K C F))(hr:bp (k+1) X.A)(hg:Gl X y)(hm:X.mg y=some (.ref C))(hb:cT X.K fdt ps [])(hx:hJ CX0 X E)(ha:DE X H0 O0 a t1)(hb2:DE X H0 O0 b t2)(hcv:PE X c (cK j))
 (hdb:(y==("__debug__":Str))=false:=by decide)(he:YD [a,b,c] X.env=(false,eval a X.env)::YD [b,c] X.env:=by rfl)(he2:YD [b,c] X.env=(false,eval b X.env)::YD [c] X.env:=by rfl)(he3:YD [c] X.env=(false,eval c X.env)::YD [] X.env:=by rfl)(hpl:(YR cpos (YD [b,c] X.env)).any (·.1)=false:=by rfl)
 (hs:YS (.Call (.Name y p) [a,b,c] [] cpos) (some (.Name x pos')) pos.line X.env=pure false:=by rfl)(hf:X.fn x=true\/X.env.scope.names.lookup x=some .local:=by first | exact .inl rfl | exact .inr rfl | assumption):
 PS X (.Assign [.Name x pos'] (.Call (.Name y p) [a,b,c] [] cpos) pos) (bf X.K H0 O0 (DU C i j F t1 t2)):=
 (d7 hN hi hxl (rX M Fk hr hg hm hb .nil hx (bw ha (bw hb2 (bw hcv b5 he3) he2) he) hdb he hpl) hs hf).imp λD σ H uu63=>by
  obtain⟨O,δ,E,w,q,k1,k2,k3,k4⟩:=uu63;refine⟨O,δ,_,w,q,λd1 v1 H1 q1 s1 r1=>⟨O,δ,_,w.mono s1,q1,λd2 v2 H2 ⟨es,ej,q2⟩ s2 r2=>?_⟩⟩;have w2:=w.mono (s1.trans s2);obtain⟨l,ws,h1,h2,h3,h4⟩:=w2.lent ej;refine⟨_,h1,λxx dx hxx hdx ne=>⟨xx,dx,[v1,v2],l,ws,H2,O,[d1,d2],es,_,rfl,rfl,hxx,hdx,ne,w2.trk,.cons (r1.mono s2) (.cons r2 .nil),w2.sub _ h2,h3,h4,q2,λfd gd ud g u O' H' qf sm sb nw tr o1 o2 R=>⟨rfl,?_⟩⟩⟩;obtain⟨w3,S3⟩:=w2.setR (i:=i) sm sb nw tr o1 o2 R;exact k1 _ _ _ _ (qf xx g u) w3 (aH.trans (.same (s1.trans s2)) S3)
def wJ(C:Yz)(i:Nat)(t:DS):DS:=λE δ=>∃l fd,δ[i]?=some (some (.i l C fd))/\gh "mark" (fd.map (·.1))=true/\fd.length < 900/\∀g u,t E (δ.set i (some (.r l C g u fd [] [])))
theorem wK{f:Str}{v:V}:∀{fs:List (Str×V)},(∀p∈fs,p.1≠f)->cY f v fs=fs++[(f,v)]
 | [],_=>rfl
 | (g,x)::fs,h=>by
  rw [cY,Ys (h (g,x) RK),wK λp hp=>h p (Ru _ hp)];rfl
theorem Mw{C:Yz}{i:Nat}{o1 o2:YF}{rest:List YL}{t:DS}{p1 p2 q1 q2 r1 r2:Pos}(hc:cS X.K C)(hn1:NoAttr X.K C b7)(hn2:NoAttr X.K C c0)(ho1:PE X o1 (cK i))(ho2:PE X o2 (cK i))(h:bP X rest (bf X.K H0 O0 t))
 (hs1:YS (.Dict [] [] p1) (some (.Attribute o1 b7 q1)) r1.line X.env=pure false:=by rfl)(hs2:YS (.Dict [] [] p2) (some (.Attribute o2 c0 q2)) r2.line X.env=pure false:=by rfl):
 bP X (.Assign [.Attribute o1 b7 q1] (.Dict [] [] p1) r1:: .Assign [.Attribute o2 c0 q2] (.Dict [] [] p2) r2::rest) (bf X.K H0 O0 (wJ C i t)):=
 (cO (vb ho1 DJ hs1) (cO (vb ho2 DJ hs2) h)).imp λD σ H uu65=>by
  obtain⟨O,δ,E,w,⟨l,fd,ei,rk,hl,q⟩,k1,k2,k3,k4⟩:=uu65;obtain⟨dx,fs,x1,x2,x3,h1,hf⟩:=w.ownI ei;obtain⟨kk,_,_⟩:=tD hf rk;have lf:fs.length=fd.length:=by have:=congrArg VU hf.1;simpa using this
  have li:i < δ.length:=(Q7.mp ei).1;intro g og hg;have lg:l≠g:=λz=>by rw [z,hg] at h1;cases h1
  refine⟨_,x1,l,C,dx,fs,rfl,by rw [az lg];exact h1,hc,hn1,Yr,?_⟩;rw [wK λp hp=>(kk p hp).1];intro u ou hu;have lu:l≠u:=λz=>by rw [z,bq] at hu;cases hu
  have gu:g≠u:=λz=>by rw [<-z,az (Ne.symm lg),bq] at hu;cases hu
  have hu0:H u=none:=by rw [az (Ne.symm lu),az (Ne.symm gu)] at hu;exact hu
  refine⟨_,x1,l,C,dx,fs++[(b7,.ref g)],rfl,by rw [az lu,bq],hc,hn2,by simp;omega,?_⟩;rw [wK λp hp=>(Rj.mp hp).elim (λz=>(kk p z).2.1) λz=>by
   simp only [Rk] at z;subst z;exact DM]
  rw [UX];have eh:ah (ah (ah (ah H g (.frz og (.dK []))) l (.ins C dx (fs++[(b7,.ref g)]))) u (.frz ou (.dK []))) l (.ins C dx (fs++([(b7,.ref g)]++[(c0,.ref u)])))=ah (ah (ah H g (.frz og (.dK []))) u (.frz ou (.dK []))) l (.ins C dx (fs++[(b7,.ref g),(c0,.ref u)])):=by
   funext b;unfold ah;by_cases b1:b=l
   ·simp [b1]
   ·by_cases b2:b=u <;> simp [b1,b2]
  rw [eh];have sm:au H (ah (ah H g (.frz og (.dK []))) u (.frz ou (.dK []))):=(au.new hg).trans (au.new (by rw [az (Ne.symm gu)];exact hu0));have w1:=w.mono sm;have g0:H0 g=none:=by
   cases e:H0 g with
   | none=>rfl
   | some o=>rw [w.same _ _ e] at hg;cases hg
  have u0:H0 u=none:=by
   cases e:H0 u with
   | none=>rfl
   | some o=>rw [w.same _ _ e] at hu0;cases hu0
  have ng:¬O g:=λz=>w.trk g z hg;have nu:¬O u:=λz=>w.trk u z hu0;generalize hH2:ah (ah H g (.frz og (.dK []))) u (.frz ou (.dK []))=H2 at sm w1⊢;have g2:H2 g=some (.frz og (.dK [])):=by rw [<-hH2,az gu,bq]
  have u2:H2 u=some (.frz ou (.dK [])):=by rw [<-hH2,bq]
  have out:∀b,H b≠none->b≠g/\b≠u:=λb hb=>⟨λz=>hb (by rw [z];exact hg),λz=>hb (by rw [z];exact hu0)⟩;have S:aH H (ah H2 l (.ins C dx (fs++[(b7,.ref g),(c0,.ref u)]))) O (λa=>O a\/a=g\/a=u):=⟨λb o e n=>by rw [az (λz=>n (by rw [z];exact x2))];exact sm b o e,λb hb n z=>by
   rcases z with z | z | z
   ·exact n z
   ·exact(out b hb).1 z
   ·exact(out b hb).2 z⟩
  refine⟨λa=>O a\/a=g\/a=u,δ.set i (some (.r l C g u fd [] [])),E,⟨λb o e=>?_,λa z=>.inl (w.sub a z),λa z=>?_,λa z=>?_,by simp [w.len],λj y e=>?_,λj k y z a e1 y1 e2 z2 e3 e4=>?_⟩,q g u,λO2 δ2 σ2 H2 z2 w2 S2=>k1 O2 δ2 σ2 H2 z2 w2 (S.trans S2),k2,λO2 δ2 σ2 H2 z2 w2 S2=>k3 O2 δ2 σ2 H2 z2 w2 (S.trans S2),λO2 δ2 σ2 H2 z2 w2 S2=>k4 O2 δ2 σ2 H2 z2 w2 (S.trans S2)⟩
  ·have l0:H0 l=none:=(w.new l x2).resolve_left x3;rw [az (λz=>by rw [z,l0] at e;cases e)];exact w1.same b o e
  ·rcases z with z | z | z
   ·exact w.new a z
   ·rw [z];exact .inr g0
   ·rw [z];exact .inr u0
  ·by_cases al:a=l
   ·rw [al,bq];exact λz=>nomatch z
   ·rw [az al];rcases z with z | z | z
    ·exact w1.trk a z
    ·rw [z,g2];exact λz=>nomatch z
    ·rw [z,u2];exact λz=>nomatch z
  ·by_cases hj:j=i
   ·subst hj;rw [Ry li] at e;cases e;exact⟨by rw [x1];rfl,.inl x2,x3,dx,fs,og,ou,[],[],bq,⟨hf.1,hf.2.step S⟩,gu,⟨.inr (.inl rfl),λz=>ng (w.sub _ z),by rw [az (Ne.symm lg)];exact g2,.nil⟩,.inr (.inr rfl),λz=>nu (w.sub _ z),by rw [az (Ne.symm lu)];exact u2,.nil⟩
   ·rw [Rg (Ne.symm hj)] at e;refine(w.sl j y e).go S (λb o ho' e' a1 a2 a3=>⟨.inl a1,?_⟩) (λb o z a1 a2 a3=>⟨.inl a1,?_⟩) λb o a1 a3=>?_
    ·have nb:b≠l:=λz=>by
      subst z
      match y,ho',e with
      | some z,ho',e=>exact hj (w.dis j i z _ b e (by cases z <;> first | trivial | cases ho') ei trivial (fA e') x1)
     rw [az nb];exact sm _ _ a3
    ·rw [az (λz=>by rw [z,h1] at a3;cases a3)];exact sm _ _ a3
    ·rw [az (λz=>x3 (by rw [<-z];exact a1))];exact sm _ _ a3
  ·have eD:∀{j:Nat}{y:Sl},(δ.set i (some (.r l C g u fd [] [])))[j]?=some (some y)->y.own->∃y',δ[j]?=some (some y')/\y'.own:=λ{j y} q hq=>by
    by_cases hj:j=i
    ·subst hj;exact⟨_,ei,trivial⟩
    ·rw [Rg (Ne.symm hj)] at q;exact⟨_,q,hq⟩
   obtain⟨_,q1,r1⟩:=eD e1 y1;obtain⟨_,q2,r2⟩:=eD e2 z2;exact w.dis j k _ _ a q1 r1 q2 r2 e3 e4
def tG(j:Nat)(dg:DG)(tb:DS):DS:=λE δ=>∃es,δ[j]?=some (some (.b es))/\gL dg tb E es δ
theorem Mx{j:Nat}{tg iter:YF}{g:TG}{dg:DG}{tb:DS}{body:List YL}{pos:Pos}(h0:∀a,O0 a->H0 a≠none)(hp:Zw (YE X.prog X.w) X.A X.env X.xe)(hc:X.calm=true)(hi:PE X iter (cK j))(hg:PG X tg g)(gd:GD X.K g dg)(hb:bP X body (bf X.K H0 O0 tb))(hs:∀x,YO iter X.env x=pure x:=by intro _;rfl):
 PS X (.For tg iter body [] pos) (bf X.K H0 O0 (tG j dg tb)):=
 (oW hp hc (rN hi) hg hb hs).imp λD σ H uu66=>by
  obtain⟨O,δ,E,w,⟨es,ej,Iv,q0,qs,qe⟩,k1,k2,k3,k4⟩:=uu66;obtain⟨l,vs,h1,h2,h3,r⟩:=w.lent ej;have hl0:H0 l=some (.lst vs):=by
   cases e:H0 l with
   | none=>exact absurd e (h0 l h2)
   | some o=>rw [w.same _ _ e] at h3;rw [h3]
  refine⟨_,h1,l,rfl,⟨vs,.inl (.inl h3)⟩,?_⟩;have S:cV (oV X.K l) (λH'=>pf H l H') vs:=cV.list (.inl (.inl h3));have hP:∀H',au H0 H'->pf H l H':=λH' s o e=>by rw [h3] at e;cases e;exact s _ _ hl0
  refine⟨λi m σ' H'=>∃O' δ',m=vs.length - i/\i<=vs.length/\Wd X.K H0 O0 H' O' σ' δ'/\aH H H' O O'/\Iv i δ',⟨vs.length,O,δ,Yv,RL _,w,aH.refl _ _,q0⟩,?_⟩;rintro i m σ1 H1 ⟨O1,δ1,rfl,hi,w1,S1,q1⟩;by_cases hlt:i < vs.length
  ·refine .inr ⟨S.go i H1 (hP _ w1.same) hlt,λσ' H'=>∃O' δ',Wd X.K H0 O0 H' O' σ' δ'/\aH H H' O O'/\Iv (i+1) δ',λσ' H' uu67=>by obtain⟨O',δ',w',S',q'⟩:=uu67;exact⟨vs.length - (i+1),Yr,O',δ',rfl,hlt,w',S',q'⟩,λx H' y=>?_⟩;have yy:=S.yl i H1 x H' (hP _ w1.same) hlt y;clear y;obtain⟨e,y⟩:=yy;subst e;obtain⟨d,ed,rd⟩:=r.get y;refine gd H0 O0 _ O1 σ1 δ1 x d _ _ w1 (rd.step S1) (qs i d δ1 ed q1) λδ2 σ2 q2 w2=>?_;refine⟨O1,δ2,_,w2,q2,λO' δ' σ' H' z w' S'=>⟨O',δ',w',S1.trans S',z⟩,k2,λO' δ' σ' H' z w' S'=>k1 O' δ' σ' H' z w' (S1.trans S'),λO' δ' σ' H' z w' S'=>⟨O',δ',w',S1.trans S',z⟩⟩
  ·have e:i=vs.length:=Yr
   subst e;refine .inl ⟨S.st _ H1 (hP _ w1.same) (QY _),?_⟩;rw [r.length] at q1;exact k1 O1 δ1 σ1 H1 (qe δ1 q1) w1 S1
def DV(j:Nat)(F:List Yw->List Yw->(Yw->Prop)->Prop)(t1 t2 t3:DT):DT:=λδ Q=>t1 δ λd1=>t2 δ λd2=>t3 δ λd3=>∃es,δ[j]?=some (some (.o es))/\F [d1,d2,d3] es Q
theorem My{f:Yz}{j k:Nat}{x:Str}{a b c y:YF}{t1 t2 t3:DT}{fdt:YG}{ps:List Str}{E:XK}{F:List Yw->List Yw->(Yw->Prop)->Prop}{p pos:Pos}
 (Fk:aA X.prog X.w X.K X.mg X.base CX0 k f fdt ps (tE X.K F))(hr:bp k X.A)(hg:Gl X x)(hm:X.mg x=some (.ref f))(hk:S9 X.K (.ref f)=true)(hb:cT X.K fdt ps [])(hx:hJ CX0 X E)(ha:DE X H0 O0 a t1)(hb2:DE X H0 O0 b t2)(hc:DE X H0 O0 c t3)(hy:PE X y (cK j))
 (hdb:(x==("__debug__":Str))=false:=by decide)(he:YD [a,b,c,y] X.env=(false,eval a X.env)::YD [b,c,y] X.env:=by rfl)(he2:YD [b,c,y] X.env=(false,eval b X.env)::YD [c,y] X.env:=by rfl)(he3:YD [c,y] X.env=(false,eval c X.env)::YD [y] X.env:=by rfl)(he4:YD [y] X.env=(false,eval y X.env)::YD [] X.env:=by rfl)(hpl:(YR pos (YD [b,c,y] X.env)).any (·.1)=false:=by rfl):
 DE X H0 O0 (.Call (.Name x p) [a,b,c,y] [] pos) (DV j F t1 t2 t3):=
 (Bt Fk hr hg hm hk hb .nil hx (bw ha (bw hb2 (bw hc (bw hy b5 he4) he3) he2) he) hdb he hpl).imp λσ H Q uu68=>by
  obtain⟨O,δ,Qd,w,q,k⟩:=uu68;refine⟨O,δ,_,w,q,λd1 v1 H1 q1 s1 r1=>⟨O,δ,_,w.mono s1,q1,λd2 v2 H2 q2 s2 r2=>⟨O,δ,_,w.mono (s1.trans s2),q2,λd3 v3 H3 ⟨es,ej,q3⟩ s3 r3=>?_⟩⟩⟩;have w3:=w.mono (s1.trans (s2.trans s3));obtain⟨l,ws,h1,h2,h3,h4,h5⟩:=w3.own ej;exact⟨_,h1,O,[v1,v2,v3],l,ws,[d1,d2,d3],es,Qd,rfl,w3.trk,.cons (r1.mono (s2.trans s3)) (.cons (r2.mono s3) (.cons r3 .nil)),h2,h4,h5,q3,λd v H4 q4 s4 r4=>k d v H4 q4 (s1.trans (s2.trans (s3.trans s4))) r4⟩
end
section
variable {x y z w:Option Sl} {l:Dl} {i j k m:Nat} {P:Yw->Prop}
theorem ny:bZ j ((x::l).set 0 y) P=bZ j (y::l) P:=rfl
theorem nz:bZ j ((x::l).set (i+1) y) P=bZ j (x::l.set i y) P:=rfl
theorem nA:bZ j (((x::l).set 0 y).set k z) P=bZ j ((y::l).set k z) P:=rfl
theorem nB:bZ j (((x::l).set (i+1) y).set k z) P=bZ j ((x::l.set i y).set k z) P:=rfl
theorem nE:bZ j ((((x::l).set 0 y).set k z).set m w) P=bZ j (((y::l).set k z).set m w) P:=rfl
theorem nF:bZ j ((((x::l).set (i+1) y).set k z).set m w) P=bZ j (((x::l.set i y).set k z).set m w) P:=rfl
end
section
variable {K:QV} {mg:Str->Option Yx} {h:YK} {x q:Str} {st:YL} {f C:Yz} {fd:YG} {ps:List Str}
structure Fn (K:QV) (mg:Str->Option Yx) (x:Str) (st:YL) (f:Yz) (fd:YG) (ps:List Str):Prop where
 F:eB K x x st f fd
 m:mg x=some (.ref f)
 b:cT K fd ps []
structure Mn (K:QV) (x q:Str) (st:YL) (f:Yz) (fd:YG) (ps:List Str):Prop where
 F:eB K x q st f fd
 b:cT K fd ps []
structure DfT (K:QV) (x:Str) (st:YL) (f:Yz) (fd:YG):Prop where
 a:R1 K YM x=some (some (.ref f))
 F:eB K x x st f fd
structure DmT (K:QV) (C:Yz) (x q:Str) (st:YL) (f:Yz) (fd:YG):Prop where
 a:S8 K (.ref C) x=some (some (.ref f))
 i:VH K (.ref f)=true
 F:eB K x q st f fd
structure tH (K:QV) (C:Yz):Prop where
 c:cS K C
 m:WI K C=true
 k:S9 K (.ref C)=true
theorem DfT.of{oc:Yx}{od an:Option Yz}{osl:Array (Option Yx)}{kV doc pm cdv ct:Yx}(a:R1 K YM x=some (some (.ref f)))(l:K.lookup f=some ⟨oc,od,.func (Te x x (jd st) (fu st) (av st) .none kV doc pm an cdv ct),osl⟩)
 (c:Vr K cdv x=true)(k:S9 K (.ref f)=true):DfT K x st f (Te x x (jd st) (fu st) (av st) .none kV doc pm an cdv ct):=⟨a,BL l c k⟩
theorem DmT.of{oc:Yx}{od an:Option Yz}{osl:Array (Option Yx)}{kV doc pm cdv ct:Yx}(a:S8 K (.ref C) x=some (some (.ref f)))(i:VH K (.ref f)=true)(l:K.lookup f=some ⟨oc,od,.func (Te x q (jd st) (fu st) (av st) .none kV doc pm an cdv ct),osl⟩)
 (c:Vr K cdv q=true)(k:S9 K (.ref f)=true):DmT K C x q st f (Te x q (jd st) (fu st) (av st) .none kV doc pm an cdv ct):=⟨a,i,BL l c k⟩
theorem DfT.fn(D:DfT K x st f fd)(X:K.In h)(G:h.Ns YM mg)(hb:∀(kV doc pm:Yx) (an:Option Yz) (cdv ct:Yx) (us:List Yx),us.length=ps.length->bindArgs (Te x x (jd st) (fu st) (av st) .none kV doc pm an cdv ct) ⟨us,[]⟩=pure (ps.zip us)):Fn K mg x st f fd ps:=⟨D.F,T5 X G D.a,D.F.binds hb⟩
theorem DmT.fn(D:DmT K C x q st f fd)(hb:∀(kV doc pm:Yx) (an:Option Yz) (cdv ct:Yx) (us:List Yx),us.length=ps.length->bindArgs (Te x q (jd st) (fu st) (av st) .none kV doc pm an cdv ct) ⟨us,[]⟩=pure (ps.zip us)):Mn K x q st f fd ps:=⟨D.F,D.F.binds hb⟩
theorem DmT.mt(D:DmT K C x q st f fd):hG K C x f:=⟨D.a,D.i,D.F.kp⟩
theorem DmT.mkk(D:DmT K C "__init__" q st f fd)(c:tH K C):Mk K C f:=⟨c.m,D.a,D.i,c.k⟩
theorem Fn.kp(N:Fn K mg x st f fd ps):S9 K (.ref f)=true:=N.F.kp
end
section
variable {X:Cx} {k:Nat} {f:Yz} {fd:YG} {ps:List Str} {sp:Sp} {st:YL} {x:Str} {p pos:Pos} {e:YF} {es:List YF} {t:TA}
theorem aE(F:aA X.prog X.w X.K X.mg X.base CX0 k f fd ps sp)(hr:bp k X.A)(hg:Gl X x)(N:Fn X.K X.mg x st f fd ps)
 (ha:PA X (e::es) t)(hdb:(x==("__debug__":Str))=false:=by decide)(he:YD (e::es) X.env=(false,eval e X.env)::YD es X.env:=by rfl)(hpl:(YR pos (YD es X.env)).any (·.1)=false:=by rfl):
 PE X (.Call (.Name x p) (e::es) [] pos) (oZ sp [] E0 t):=Bt F hr hg N.m N.kp N.b .nil fx ha hdb he hpl
end
theorem Mz{prog:YI}{w:YJ}{A:YN}(hh:A.handled=none)(it t:Yz)(hne:t≠it)(its:Array Yx):Draws prog w A it [it,t] its.size (λi v=>its[i]?=some v) (λi h=>h.IsTupleIter it t i/\h.IsTuple t its) where
 live:=λ_ _ st=>let ⟨o,ho,_⟩:=st.1;⟨o,ho⟩
 frame:=λ_ _ _ st hk=>⟨let ⟨o,e,r⟩:=st.1;⟨o,hk it Yv o e,r⟩,let ⟨o,e,r⟩:=st.2;⟨o,hk t Yv o e,r⟩⟩
 item:=λi s Q E hi st hQ=>by
  refine L8 st.1 st.2 (x:=its[i]) (by simp [hi]) λh' hit' hs'=>?_;refine hQ _ h' s.toks (by simp [hi]) ⟨hit',?_⟩ hs';obtain⟨o,e,r⟩:=st.2;exact⟨o,(hs'.2 t hne).trans e,r⟩
 done:=λs Q E st hE=>DD hh st.1 st.2 Yv hE
def tI(K:QV)(a:Yz):It:=
 ⟨λi H=>∃xs x,aZ K H a xs/\xs[i]?=some x,λi H x H'=>∃p v,H p=none/\x= .ref p/\H'=ah H p (.tup [.int (i:Int),v])/\∀xs,aZ K H a xs->xs[i]?=some v,λi H=>∃xs,aZ K H a xs/\xs.length<=i⟩
theorem MA(l:Yz)(items:Array Yx)(n:Nat)(dct:Option Yz)(sl:Array (Option Yx)):
 Meets (Builtin.«enumerate.__new__» ⟨[.type "enumerate",.ref l],[]⟩) (λ_ R s=>s.heap.get? l=some {cls:= .type "tuple",dict:=dct,data:= .seq items n,slots:=sl}/\
  R (.ok (.ret (.ref (s.heap.push {cls:= .type "tuple_iterator",data:= .fields #[.ref l,.int 0 0]}).objs.size)))
   {s with heap:=(s.heap.push {cls:= .type "tuple_iterator",data:= .fields #[.ref l,.int 0 0]}).push {cls:= .type "enumerate",data:= .fields #[.none,.bool false,.ref s.heap.objs.size,Zf 0,.none,.none]}}):=
 .of_wp λprog w A R s h=>by
  obtain⟨hp,g,d,tk,os⟩:=s;obtain⟨hl,h⟩:=h;have hsub:=sub_enumerate;have hL:Heap.IsTuple (Shared.heap ⟨hp,g,d,tk,os⟩) l items:=⟨_,hl,rfl,n,rfl⟩
  wp_walk using UE hl
  refine wpAny_stack_any λst=>YB ?_;split
  ·rename_i c _ _ _ _ _;cases (c==UM "enumerate")
   ·wp_walk using UE hl,ZF hL
    exact⟨_,rfl,h⟩
   ·wp_walk using UE hl,ZF hL
    exact⟨_,rfl,h⟩
  ·wp_walk using UE hl,ZF hL
   exact⟨_,rfl,h⟩
theorem MB{prog:YI}{w:YJ}{A:YN}{E:Yx->YA->Prop}{s:YA}{l:Yz}{items:Array Yx}{Q:Yx->YA->Prop}(hL:s.heap.IsTuple l items)
 (h:∀h',IsEnum h' (s.heap.objs.size+1) s.heap.objs.size 0 .none->h'.IsTupleIter s.heap.objs.size l 0->h'.objs.size=s.heap.objs.size+2->
  (∀b o,s.heap.get? b=some o->h'.get? b=some o)->Q (.ref (s.heap.objs.size+1)) {s with heap:=h'}):
 YC (YE prog w) A (call (.type "enumerate") [.ref l]) Q E s:=by
 obtain⟨⟨c,dct,dt,sl⟩,hl,hc,n,hd⟩:=hL
 replace hc:c= .type "tuple":=hc
 replace hd:dt= .seq items n:=hd
 subst hc hd;refine callType_new F.called_enumerate Yq (F.typeCall_enumerate_1 _) (F.newCall_enumerate_1 _) (λobj=>F.args_object_init_2 obj _) F.entry_enumerate_new
  (MA l items n dct sl) ⟨hl,?_⟩
 have hz:(s.heap.push {cls:= .type "tuple_iterator",data:= .fields #[.ref l,.int 0 0]}).objs.size=s.heap.objs.size+1:=TM ..;show _/\_;rw [hz];have he:IsEnum ((s.heap.push {cls:= .type "tuple_iterator",data:= .fields #[.ref l,.int 0 0]}).push
  {cls:= .type "enumerate",data:= .fields #[.none,.bool false,.ref s.heap.objs.size,Zf 0,.none,.none]}) (s.heap.objs.size+1) s.heap.objs.size 0 .none:=by
  have:=Rl (s.heap.push {cls:= .type "tuple_iterator",data:= .fields #[.ref l,.int 0 0]})
   (o:={cls:= .type "enumerate",data:= .fields #[.none,.bool false,.ref s.heap.objs.size,Zf 0,.none,.none]}) rfl
  rw [hz] at this;exact this
 refine⟨⟨_,he,rfl⟩,h _ he ⟨_,Q1 _ (Rl _ rfl),rfl,rfl⟩ (by rw [TM,hz]) λb o x=>Q1 _ (Q1 _ x)⟩
theorem MC{prog:YI}{w:YJ}{A:YN}{E:Yx->YA->Prop}{s:YA}{e it l:Yz}{i:Nat}{items:Array Yx}{old:Yx}{Q:Option Yx->YA->Prop}(hh:A.handled=none)
 (he:IsEnum s.heap e it i old)(hit:s.heap.IsTupleIter it l i)(hl:s.heap.IsTuple l items)(hx:items[i]?=none)
 (hQ:∀h',WM it s.heap h'->Q none {s with heap:=h'}):YC (YE prog w) A (Zr (.ref e)) Q E s:=by
 have hT:s.TypeIs (.ref e) "enumerate":=⟨_,he,rfl⟩;unfold Zr;refine Yy (Zz (YW (name:=QU "__next__") hT F.slot_enumerate_next
  (YV F.slot_enumerate_next hT F.entry_enumerate_next ?_ (F.args_enumerate_next_1 _))))
 show YC _ _ (field (.ref e) 2 >>=_) _ _ _;refine Yy (Zu he rfl (x:= .ref it) rfl ?_);refine Yy (DD hh hit hl hx λh' x he' hx'=>?_);obtain⟨o,ho,hc⟩:=hx';refine Yy (ZO (T:="StopIteration") (b:=true) ⟨o,ho,hc⟩ isSubtype_stop ?_);exact YB (hQ _ he')
theorem MD{P:YI}{w:YJ}{K:QV}{elts:List YF}{k0}{pos:Pos}(a it e:Yz)(hei:e≠it)(hai:a≠it)(hea:e≠a):oU P w K (.Tuple elts k0 pos) (tI K a) [e,it] e (λi h=>(∃old,IsEnum h e it (i:Int) old)/\h.IsTupleIter it a i) where
 mem:=Yv
 obj:=λi h st b hb=>by
  simp only [Q4,Rt,or_false] at hb;obtain⟨⟨old,he⟩,o,eo,c,d⟩:=st;rcases hb with rfl | rfl
  ·exact⟨_,he,λv z=>by cases z⟩
  ·exact⟨o,eo,λv z=>by rw [d] at z;cases z⟩
 keep:=λi h h' st k=>⟨let ⟨old,he⟩:=st.1;⟨old,k e Yv _ he⟩,let ⟨o,q,r⟩:=st.2;⟨o,k it Yv o q,r⟩⟩
 item:=by
  intro X hP hw hK hc i aac s σ H E I hf st hg;subst hP hw hK;obtain⟨xs,x,hq,hx⟩:=hg;obtain⟨its,rv,p,hz⟩:=I.tuple hq;obtain⟨u,hu,ru⟩:=rv.get hx;obtain⟨⟨old,he⟩,hit⟩:=st;have hp:s.heap.IsTuple a its.toArray:=p;have hlt:i < its.toArray.size:=by
   have:=(Q7.mp hu).1;simpa using this
  refine wpAny_pyNext_enum_itemD (Mz (A:=X.A.in1) (I.ok.hd hc) it a hai its.toArray) he ⟨hit,hp⟩ hlt hei (by simp [hei,hea]) λx' h' tk hx' ho hst hT hsz hk=>?_;obtain rfl:x'=u:=by
   have:its.toArray[i]?=some u:=by simpa using hu
   rw [this] at hx';exact(R3 hx').symm
  obtain⟨hit',_⟩:=hst;have hT0:H s.heap.objs.size=none:=I.hok.fresh (QY _);have lte:e < s.heap.objs.size:=Rh he;have lti:it < s.heap.objs.size:=by obtain⟨_,q,_⟩:=hit;exact Rh q
  have I1:ag X aac σ (ah H s.heap.objs.size (.tup [.int (i:Int),x])) {s with heap:=h',toks:=tk+1}:=by
   refine I.track (t':=tk+1) (ch:=[s.heap.objs.size,e,it]) Yv (λb hb=>?_) (λb v hb q=>hk b v (λz=>hb (by simp [z])) (λz=>hb (by simp [z])) q) ?_
   ·rcases Q4.mp hb with z | z
    ·rw [z];exact I.fpOk (QY _) hT0
    ·exact hf b z
   ·exact⟨by rw [Y1,Q8,Q8,RR];decide,[.int (i:Int) tk,x'],.cons ⟨_,rfl⟩ (.cons ru .nil),_,hT,rfl,0,rfl⟩
  refine⟨_,rfl,Z6 ho λh2 he2 sb=>?_⟩;obtain⟨f0,f1,f2,f3,f4,f5⟩:=hf e Yv;have ne:s.heap.objs.size≠e:=TX lte;have I2:ag X aac σ (ah H s.heap.objs.size (.tup [.int (i:Int),x])) {s with heap:=h2,toks:=tk+1}:=I1.turned (t':=tk+1) (λb o hb q=>(sb.2 b hb).trans q) (by rw [az (Ne.symm ne)];exact f0) f1 f3 f4 f5;refine⟨.ref s.heap.objs.size,_,I2,rfl,⟨_,x,hT0,rfl,rfl,λys hy=>?_⟩,⟨⟨_,by simpa using he2⟩,let ⟨o,q,r⟩:=hit';⟨o,(sb.2 it (Ne.symm hei)).trans q,r⟩⟩,λb hb=>?_⟩
  ·have e2:ys=xs:=I.tuple_inj hy hq;rw [e2];exact hx
  ·rw [az λz=>?_]
   ·exact(hf b hb).1
   ·simp only [Q4,Rt,or_false] at hb;rcases hb with y | y
    ·rw [<-z,y] at lte;exact S5 _ lte
    ·rw [<-z,y] at lti;exact S5 _ lti
 done:=by
  intro X hP hw hK hc i aac s σ H E I hf st hg;subst hP hw hK;obtain⟨xs,hq,hx⟩:=hg;obtain⟨its,rv,p,hz⟩:=I.tuple hq;obtain⟨⟨old,he⟩,hit⟩:=st;obtain⟨f0,f1,f2,f3,f4,f5⟩:=hf it Yv;have hl:=rv.length;exact MC (I.ok.hd hc) he hit (show s.heap.IsTuple a its.toArray from p) (by simp;omega) λh' eb=>⟨rfl,I.turned (t':=s.toks) (λb o hb e=>eb b o hb e) f0 f1 f3 f4 f5⟩
 self:=λA i s Q E st h=>by
  obtain⟨⟨old,he⟩,_⟩:=st;exact ZK he h
def ME(K:QV)(ta:TA):TI:=λσ H R=>ta σ H λvs H1=>∃a xs,vs=[.ref a]/\aZ K H1 a xs/\R (tI K a) H1
theorem MF{X:Cx}{elts:List YF}{k0}{tp:Pos}{a:YF}{ta:TA}{p pos:Pos}(hg:Gl X "enumerate")(hm:X.mg "enumerate"=none)(ha:PA X [a] ta)(hs:YD [a] X.env=[(false,eval a X.env)]:=by rfl):PI X (.Tuple elts k0 tp) (.Call (.Name "enumerate" p) [a] [] pos) (ME X.K ta):=by
 intro aac s σ H R I h;refine Call_ (nP I hg hm boot_enumerate (Tt (aB (ha pos aac s σ H _ I h) λus s1 ⟨vs,H1,I1,r1,q1⟩=>?_) hs rfl));obtain⟨b,xs,e,hr,q⟩:=q1;subst e;cases r1 with
 | cons r rr=>
  cases rr;cases r;obtain⟨its,rv,p,hz⟩:=I1.tuple hr;have hp:s1.heap.IsTuple b its.toArray:=p;have lb:b < s1.heap.objs.size:=by obtain⟨o,e,_⟩:=hp;exact Rh e
  refine MB hp λh' he hit hsz hk=>ZK he ?_;have I2:ag X aac σ H1 {s1 with heap:=h'}:=I1.kept (t':=s1.toks) hk;refine⟨s1.heap.objs.size+1,[s1.heap.objs.size+1,s1.heap.objs.size],_,_,H1,rfl,I2,MD b s1.heap.objs.size (s1.heap.objs.size+1) (TX (S4 _)) (RH lb) (TX (Sv lb)),⟨⟨_,he⟩,hit⟩,λc hc=>?_,q⟩;simp only [Q4,Rt,or_false] at hc;rcases hc with rfl | rfl
  ·exact I1.fpOk (Sr _) (I1.hok.fresh (Sr _))
  ·exact I1.fpOk (QY _) (I1.hok.fresh (QY _))
theorem MG{K:QV}{H0:Hp}{O0:Ex}{a:Yz}{vs:List V}{xs:List Yw}{g:TG}{dg:DG}{tb:DS}{D:iy}{E:dP}{σ:St}{H:Hp}{O:Ex}{δ:Dl}(hs:∀H' O',aH H H' O O'->aZ K H' a vs)(gd:GD K g dg)
 (r:ai K H O vs xs)(w:Wd K H0 O0 H O σ δ)(q:gL dg tb E (gO 0 xs) δ)
 (k1:∀O' δ' σ' H',E.nx δ'->Wd K H0 O0 H' O' σ' δ'->aH H H' O O'->D.nx σ' H')(k2:∀d v H',E.rt d->au H0 H'->Dt K H' O0 v d->D.rt v H'):FR (tI K a) g (bf K H0 O0 tb) D σ H:=by
 obtain⟨Iv,q0,qs,qe⟩:=q;have hl:=r.length;have sq:=hs;refine⟨λi m σ' H'=>∃O' δ',m=vs.length - i/\i<=vs.length/\Wd K H0 O0 H' O' σ' δ'/\aH H H' O O'/\Iv i δ',⟨vs.length,O,δ,Yv,RL _,w,aH.refl _ _,q0⟩,?_⟩;rintro i m σ1 H1 ⟨O1,δ1,rfl,hi,w1,S1,q1⟩;by_cases hlt:i < vs.length
 ·refine .inr ⟨⟨vs,vs[i],sq _ _ S1,by simp [hlt]⟩,λσ' H'=>∃O' δ',Wd K H0 O0 H' O' σ' δ'/\aH H H' O O'/\Iv (i+1) δ',λσ' H' uu71=>by obtain⟨O',δ',w',S',q'⟩:=uu71;exact⟨vs.length - (i+1),Yr,O',δ',rfl,hlt,w',S',q'⟩,λx H' y=>?_⟩;obtain⟨p,v,hp,rfl,rfl,hv⟩:=y;obtain⟨d,ed,rd⟩:=r.get (hv vs (sq _ _ S1));have sm:au H1 (ah H1 p (.tup [.int (i:Int),v])):=au.new hp;have w2:=w1.mono sm;have np:¬O1 p:=λz=>w1.trk p z hp;have dt:Dt K (ah H1 p (.tup [.int (i:Int),v])) O1 (.ref p) (.tuple [.int (i:Int),d]):= .tup (.inl bq) np (.cons (.int _) (.cons ((rd.step S1).mono sm) .nil));have S2:aH H (ah H1 p (.tup [.int (i:Int),v])) O O1:=S1.trans (.same sm);have e2:(gO 0 xs)[i]?=some (.tuple [.int (i:Int),d]):=by rw [pA,ed];simp
  refine gd H0 O0 _ O1 σ1 δ1 _ _ _ _ w2 dt (qs i _ δ1 e2 q1) λδ2 σ2 q2 w2=>?_;exact⟨O1,δ2,_,w2,q2,λO' δ' σ' H' z w' S'=>⟨O',δ',w',S2.trans S',z⟩,k2,λO' δ' σ' H' z w' S'=>k1 O' δ' σ' H' z w' (S2.trans S'),λO' δ' σ' H' z w' S'=>⟨O',δ',w',S2.trans S',z⟩⟩
 ·have e:i=vs.length:=Yr
  subst e;refine .inl ⟨⟨vs,sq _ _ S1,QY _⟩,?_⟩;rw [hl,<-qS 0 xs] at q1;exact k1 O1 δ1 σ1 H1 (qe δ1 q1) w1 S1
section
variable {X:Cx} {H0:Hp} {O0:Ex}
def DW(t:DA)(g:DG)(tb:DS):DS:=λE δ=>t δ λds=>∃xs,ds=[.tuple xs]/\gL g tb E (gO 0 xs) δ
theorem MH{elts:List YF}{k0}{tp:Pos}{a:YF}{body:List YL}{p pos pos':Pos}{ta:DA}{g:TG}{dg:DG}{tb:DS}(hp:Zw (YE X.prog X.w) X.A X.env X.xe)(hc:X.calm=true)(hgl:Gl X "enumerate")(hm:X.mg "enumerate"=none)(ha:PA X [a] (fT X.K H0 O0 ta))(hg:PG X (.Tuple elts k0 tp) g)(gd:GD X.K g dg)(hb:bP X body (bf X.K H0 O0 tb))
 (hst:YD [a] X.env=[(false,eval a X.env)]:=by rfl)(hs:∀x,YO (.Call (.Name "enumerate" p) [a] [] pos') X.env x=pure x:=by intro _;rfl):
 PS X (.For (.Tuple elts k0 tp) (.Call (.Name "enumerate" p) [a] [] pos') body [] pos) (bf X.K H0 O0 (DW ta dg tb)):=
 (oW hp hc (MF hgl hm ha hst) hg hb hs).imp λD σ H uu72=>by obtain⟨O,δ,E,w,q,k1,k2,k3,k4⟩:=uu72;exact⟨O,δ,_,w,q,λds vs H1 uu73 s1 r1=>by
  obtain⟨xs,e,q1⟩:=uu73;subst e;cases r1 with
  | cons h r=>
   cases r;have fin:∀(p:Yz)(us:List V),aZ X.K H1 p us->(∀H' O',aH H1 H' O O'->aZ X.K H' p us)->ai X.K H1 O us xs->∃a ys,[V.ref p]=[V.ref a]/\aZ X.K H1 a ys/\FR (tI X.K a) g (bf X.K H0 O0 tb) D σ H1:=λp us hq hs rr=>⟨p,us,rfl,hq,MG hs gd rr (w.mono s1) q1 (λO' δ' σ' H' z w' S=>k1 O' δ' σ' H' z w' (aH.trans (.same s1) S)) k2⟩;cases h with
   | tup h n r=>exact fin _ _ (.inl h) (λH' O' S=>.inl (h.same λo e=>S.keep _ o e n)) r
   | tupK h r=>
    rcases h with(h | ⟨o,h⟩) | h
    ·cases h
    ·cases h
    ·exact fin _ _ (.inr h) (λH' O' S=>.inr h) r⟩
end
end L2
namespace K24
open PySem L2
def aV(i:Nat):YL:=PySem.Challenge.pw_goneday_k24_whatever_the_order.main.body.getD i (.Pass ⟨0,0,0,0⟩)
abbrev wL:YL:=aV 8
abbrev wM:YL:=aV 9
abbrev wN:YL:=aV 10
abbrev wO:YL:=aV 11
abbrev wQ:YL:=aV 12
abbrev wR:YL:=aV 13
abbrev tJ:YL:=aV 14
abbrev wU:YL:=aV 15
abbrev tK:YL:=L2.inClass (aV 17) 0
abbrev wV:YL:=aV 18
abbrev tL:YL:=aV 19
abbrev wX:YL:=aV 20
abbrev tM:YL:=aV 21
abbrev qU:YL:=aV 22
abbrev tN:YL:=aV 23
abbrev tO:YL:=aV 24
abbrev tP:YL:=aV 26
abbrev tQ:YL:=aV 27
abbrev tR:YL:=aV 28
abbrev wY:YL:=aV 29
abbrev tS:YL:=aV 30
abbrev tT:YL:=aV 31
abbrev tU:YL:=aV 32
abbrev wZ:YL:=aV 33
abbrev tV:YL:=aV 35
abbrev xi:YL:=aV 36
abbrev tW:YL:=aV 37
abbrev tX:YL:=aV 38
abbrev tY:YL:=aV 39
abbrev xj:YL:=aV 41
abbrev tZ:YL:=aV 42
abbrev qV:YL:=aV 43
abbrev xk:YL:=L2.inClass (aV 45) 0
abbrev xm:YL:=L2.inClass (aV 45) 1
abbrev xp:YL:=L2.inClass (aV 45) 2
abbrev t6:YL:=L2.inClass (aV 46) 0
abbrev xq:YL:=L2.inClass (aV 46) 1
abbrev xt:YL:=L2.inClass (aV 46) 2
abbrev pE:YL:=L2.inClass (aV 46) 3
abbrev t7:YL:=aV 47
abbrev xv:YL:=aV 48
abbrev xy:YL:=aV 49
abbrev t8:YL:=aV 50
abbrev xA:YL:=aV 51
abbrev ub:YL:=aV 53
abbrev xB:YL:=aV 54
abbrev qW:YL:=aV 55
abbrev xC:YL:=aV 57
abbrev xD:YL:=aV 58
abbrev pF:YL:=aV 59
abbrev xE:YL:=aV 60
abbrev xF:YL:=aV 61
abbrev xG:YL:=aV 62
abbrev xH:YL:=aV 63
abbrev xI:YL:=aV 64
abbrev xJ:YL:=aV 65
abbrev uc:YL:=aV 66
abbrev xK:YL:=aV 67
abbrev xM:YL:=aV 68
abbrev ue:YL:=aV 69
abbrev xN:YL:=aV 70
abbrev xO:YL:=aV 71
abbrev uf:YL:=aV 72
abbrev oA:YL:=aV 73
set_option genInjectivity false in
set_option genSizeOfSpec false in
structure cg where
 a_A:Yz
 d_A:YG
 a_B:Yz
 d_B:YG
 a_C:Yz
 d_C:YG
 a_D:Yz
 d_D:YG
 a_E:Yz
 d_E:YG
 a_F:Yz
 d_F:YG
 a_G:Yz
 d_G:YG
 a_H:Yz
 d_H:YG
 a_I:Yz
 d_I:YG
 a_J:Yz
 d_J:YG
 a_K:Yz
 d_K:YG
 a_L:Yz
 d_L:YG
 a_M:Yz
 d_M:YG
 a_N:Yz
 d_N:YG
 a_O:Yz
 d_O:YG
 a_P:Yz
 d_P:YG
 a_Q:Yz
 d_Q:YG
 a_R:Yz
 d_R:YG
 a_S:Yz
 d_S:YG
 a_T:Yz
 d_T:YG
 a_U:Yz
 d_U:YG
 a_V:Yz
 d_V:YG
 a_W:Yz
 d_W:YG
 a_X:Yz
 d_X:YG
 a_Y:Yz
 d_Y:YG
 a_Z:Yz
 d_Z:YG
 a_a:Yz
 d_a:YG
 a_b:Yz
 d_b:YG
 a_c:Yz
 d_c:YG
 a_d:Yz
 d_d:YG
 a_e:Yz
 d_e:YG
 a_f:Yz
 d_f:YG
 a_g:Yz
 d_g:YG
 a_h:Yz
 d_h:YG
 a_i:Yz
 d_i:YG
 a_j:Yz
 d_j:YG
 a_k:Yz
 d_k:YG
 a_l:Yz
 d_l:YG
 a_m:Yz
 d_m:YG
 a_n:Yz
 d_n:YG
 a_o:Yz
 d_o:YG
 a_p:Yz
 d_p:YG
 a_q:Yz
 d_q:YG
 a_r:Yz
 d_r:YG
 a_s:Yz
 d_s:YG
 a_t:Yz
 d_t:YG
 a_u:Yz
 d_u:YG
 a_v:Yz
 d_v:YG
 a_w:Yz
 d_w:YG
 a_x:Yz
 d_x:YG
 a_y:Yz
 d_y:YG
 a_z:Yz
 d_z:YG
 a_AA:Yz
 d_AA:YG
 a_AB:Yz
 d_AB:YG
 a_AC:Yz
 d_AC:YG
 a_AD:Yz
 d_AD:YG
 a_AE:Yz
 d_AE:YG
 a_AF:Yz
 d_AF:YG
 a_AG:Yz
 d_AG:YG
 a_AH:Yz
 d_AH:YG
 a_AI:Yz
 d_AI:YG
 a_AJ:Yz
 d_AJ:YG
 a_AK:Yz
 d_AK:YG
 a_AL:Yz
 d_AL:YG
 u_MONTH_DAYS:Yx
 u_FIRST_YEAR:Yx
 u_ROUND_DAYS:Yx
 u_ROUND_YEARS:Yx
 u_NoPaper:Yz
 u_Paper:Yz
 u_Look:Yz
 u_Round:Yz
structure Txt (K:QV) (mg:Str->Option Yx) (t:cg):Prop where
 F_A:Fn K mg "is_leap" wL t.a_A t.d_A ["year"]
 F_B:Fn K mg "month_length" wM t.a_B t.d_B ["year","month"]
 F_C:Fn K mg "leaps_before" wN t.a_C t.d_C ["year"]
 F_D:Fn K mg "year_start" wO t.a_D t.d_D ["year"]
 F_E:Fn K mg "year_of" wQ t.a_E t.d_E ["day"]
 F_F:Fn K mg "parts_of" wR t.a_F t.d_F ["day"]
 F_G:Fn K mg "number_of" tJ t.a_G t.d_G ["year","month","day"]
 F_H:Fn K mg "later" wU t.a_H t.d_H ["day","many","unit"]
 F_I:Mn K "__init__" "Paper.__init__" tK t.a_I t.d_I ["self","deeds","name"]
 F_J:Fn K mg "place_of" wV t.a_J t.d_J ["deed"]
 F_K:Fn K mg "comings" tL t.a_K t.d_K ["deeds"]
 F_L:Fn K mg "coming_of" wX t.a_L t.d_L ["deeds","paper"]
 F_M:Fn K mg "papers" tM t.a_M t.d_M ["deeds"]
 F_N:Fn K mg "maker_comings" qU t.a_N t.d_N ["deeds","coming"]
 F_O:Fn K mg "makers" tN t.a_O t.d_O ["deeds","paper"]
 F_P:Fn K mg "line_of" tO t.a_P t.d_P ["deeds","paper"]
 F_Q:Fn K mg "latest" tP t.a_Q t.d_Q ["deeds","words","day"]
 F_R:Fn K mg "rules_on" tQ t.a_R t.d_R ["deeds","day"]
 F_S:Fn K mg "holds_on" tR t.a_S t.d_S ["deeds","day"]
 F_T:Fn K mg "is_told" wY t.a_T t.d_T ["target","coming"]
 F_U:Fn K mg "holding" tS t.a_U t.d_U ["holds","line"]
 F_V:Fn K mg "happened" tT t.a_V t.d_V ["paper","happening"]
 F_W:Fn K mg "base_of" tU t.a_W t.d_W ["paper","since","day"]
 F_X:Fn K mg "reckoned" wZ t.a_X t.d_X ["paper","parts","day"]
 F_Y:Fn K mg "rules_over" tV t.a_Y t.d_Y ["paper","rules","day"]
 F_Z:Fn K mg "has_gone" xi t.a_Z t.d_Z ["gone","paper","day"]
 F_a:Fn K mg "staying" tW t.a_a t.d_a ["paper","rules","day","gone"]
 F_b:Fn K mg "going" tX t.a_b t.d_b ["paper","rules","day","gone"]
 F_c:Fn K mg "leave_rules" tY t.a_c t.d_c ["kind","rules"]
 F_d:Fn K mg "bases" xj t.a_d t.d_d ["since","paper"]
 F_e:Fn K mg "reckonings" tZ t.a_e t.d_e ["ready","parts"]
 F_f:Fn K mg "turning_days" qV t.a_f t.d_f ["deeds"]
 F_g:Mn K "__init__" "Look.__init__" xk t.a_g t.d_g ["self","day","paper","to_stay","to_go","bars","leave"]
 F_h:Mn K "lets_go" "Look.lets_go" xm t.a_h t.d_h ["self"]
 F_i:Mn K "as_row" "Look.as_row" xp t.a_i t.d_i ["self"]
 F_j:Mn K "__init__" "Round.__init__" t6 t.a_j t.d_j ["self","deeds","day","done"]
 F_k:Mn K "mark" "Round.mark" xq t.a_k t.d_k ["self","row"]
 F_l:Mn K "unused" "Round.unused" xt t.a_l t.d_l ["self","kind"]
 F_m:Mn K "look" "Round.look" pE t.a_m t.d_m ["self","paper","line"]
 F_n:Fn K mg "shelf_of" t7 t.a_n t.d_n ["deeds"]
 F_o:Fn K mg "looks_on" xv t.a_o t.d_o ["deeds","shelf","day","done"]
 F_p:Fn K mg "walk" xy t.a_p t.d_p ["deeds","days","done"]
 F_q:Fn K mg "rows_of" t8 t.a_q t.d_q ["looks"]
 F_r:Fn K mg "plan_looks" xA t.a_r t.d_r ["deeds"]
 F_s:Fn K mg "plan" ub t.a_s t.d_s ["deeds"]
 F_t:Fn K mg "days_of" xB t.a_t t.d_t ["deeds"]
 F_u:Fn K mg "there" qW t.a_u t.d_u ["deeds","day"]
 F_v:Fn K mg "_law_cell" xC t.a_v t.d_v ["_law_script","_law_k"]
 F_w:Fn K mg "_law_numbers" xD t.a_w t.d_w ["_law_cell_here","_law_many"]
 F_x:Fn K mg "_law_pool" pF t.a_x t.d_x ["_law_x","_law_many"]
 F_y:Fn K mg "_law_first" xE t.a_y t.d_y ["_law_year"]
 F_z:Fn K mg "_law_lengths" xF t.a_z t.d_z ["_law_year"]
 F_AA:Fn K mg "_law_day" xG t.a_AA t.d_AA ["_law_x","_law_far_here"]
 F_AB:Fn K mg "_law_since" xH t.a_AB t.d_AB ["_law_x","_law_words"]
 F_AC:Fn K mg "_law_parts" xI t.a_AC t.d_AC ["_law_xs","_law_kinds","_law_words","_law_far_here"]
 F_AD:Fn K mg "_law_quarrel" xJ t.a_AD t.d_AD ["_law_one","_law_other"]
 F_AE:Fn K mg "_law_deed" uc t.a_AE t.d_AE ["_law_sort","_law_xs","_law_pools_here","_law_far_here"]
 F_AF:Fn K mg "_law_pools" xK t.a_AF t.d_AF ["_law_x"]
 F_AG:Fn K mg "_law_sorts" xM t.a_AG t.d_AG []
 F_AH:Fn K mg "_law_deeds" ue t.a_AH t.d_AH ["_law_script","_law_at","_law_far_here"]
 F_AI:Fn K mg "_law_far" xN t.a_AI t.d_AI ["_law_script","_law_at"]
 F_AJ:Fn K mg "_law_mixed" xO t.a_AJ t.d_AJ ["_law_deeds_here","_law_number"]
 F_AK:Fn K mg "_law_all" uf t.a_AK t.d_AK ["_law_deeds_here","_law_days"]
 F_AL:Fn K mg "law" oA t.a_AL t.d_AL ["_law_script"]
 bt_AL:∀(s:YA)(u:Yx),BindsTo s t.d_AL ⟨[u],[]⟩ [("_law_script",u)]
 c_MONTH_DAYS:mg "MONTH_DAYS"=some t.u_MONTH_DAYS
 e_MONTH_DAYS:∃a,t.u_MONTH_DAYS= .ref a/\∀H,aZ K H a [V.int 31,V.int 28,V.int 31,V.int 30,V.int 31,V.int 30,V.int 31,V.int 31,V.int 30,V.int 31,V.int 30,V.int 31]
 c_FIRST_YEAR:mg "FIRST_YEAR"=some t.u_FIRST_YEAR
 r_FIRST_YEAR:aJ (.int 2000) t.u_FIRST_YEAR
 c_ROUND_DAYS:mg "ROUND_DAYS"=some t.u_ROUND_DAYS
 r_ROUND_DAYS:aJ (.int 146097) t.u_ROUND_DAYS
 c_ROUND_YEARS:mg "ROUND_YEARS"=some t.u_ROUND_YEARS
 r_ROUND_YEARS:aJ (.int 400) t.u_ROUND_YEARS
 c_NoPaper:mg "NoPaper"=some (.ref t.u_NoPaper)
 c_Paper:mg "Paper"=some (.ref t.u_Paper)
 c_Look:mg "Look"=some (.ref t.u_Look)
 c_Round:mg "Round"=some (.ref t.u_Round)
 cl_Paper:cS K t.u_Paper
 mk_Paper:Mk K t.u_Paper t.a_I
 na_Paper_name:NoAttr K t.u_Paper "name"
 na_Paper_coming:NoAttr K t.u_Paper "coming"
 na_Paper_kind:NoAttr K t.u_Paper "kind"
 na_Paper_makers:NoAttr K t.u_Paper "makers"
 na_Paper_happenings:NoAttr K t.u_Paper "happenings"
 cl_Look:cS K t.u_Look
 mk_Look:Mk K t.u_Look t.a_g
 na_Look_day:NoAttr K t.u_Look "day"
 na_Look_paper:NoAttr K t.u_Look "paper"
 na_Look_to_stay:NoAttr K t.u_Look "to_stay"
 na_Look_to_go:NoAttr K t.u_Look "to_go"
 na_Look_bars:NoAttr K t.u_Look "bars"
 na_Look_leave:NoAttr K t.u_Look "leave"
 mt_Look_lets_go:hG K t.u_Look "lets_go" t.a_h
 mt_Look_as_row:hG K t.u_Look "as_row" t.a_i
 cl_Round:cS K t.u_Round
 mk_Round:Mk K t.u_Round t.a_j
 na_Round_day:NoAttr K t.u_Round "day"
 na_Round_rules:NoAttr K t.u_Round "rules"
 na_Round_holds:NoAttr K t.u_Round "holds"
 na_Round_leaves:NoAttr K t.u_Round "leaves"
 na_Round_gone:NoAttr K t.u_Round "gone"
 na_Round_used:NoAttr K t.u_Round "used"
 mt_Round_mark:hG K t.u_Round "mark" t.a_k
 mt_Round_unused:hG K t.u_Round "unused" t.a_l
 mt_Round_look:hG K t.u_Round "look" t.a_m
 n_abs:mg "abs"=none
 n_any:mg "any"=none
 n_divmod:mg "divmod"=none
 n_enumerate:mg "enumerate"=none
 n_int:mg "int"=none
 n_len:mg "len"=none
 n_list:mg "list"=none
 n_max:mg "max"=none
 n_min:mg "min"=none
 n_range:mg "range"=none
 n_set:mg "set"=none
 n_sorted:mg "sorted"=none
 n_sum:mg "sum"=none
 n_tuple:mg "tuple"=none
theorem MI:aO ["year"] ["year"] (av wL):=⟨rfl,rfl,rfl,Yp,rfl,Yp,Yp⟩
theorem MJ:aO ["year","month"] ["year","month"] (av wM):=⟨rfl,rfl,rfl,Yp,rfl,Yp,Yp⟩
theorem DX:aO ["year","past"] ["year"] (av wN):=⟨rfl,rfl,rfl,Yp,rfl,Yp,Yp⟩
theorem MK:aO ["year"] ["year"] (av wO):=⟨rfl,rfl,rfl,Yp,rfl,Yp,Yp⟩
theorem DY:aO ["day","year"] ["day"] (av wQ):=⟨rfl,rfl,rfl,Yp,rfl,Yp,Yp⟩
theorem pG:aO ["day","year","left","month"] ["day"] (av wR):=⟨rfl,rfl,rfl,Yp,rfl,Yp,Yp⟩
theorem DZ:aO ["year","month","day","before"] ["year","month","day"] (av tJ):=⟨rfl,rfl,rfl,Yp,rfl,Yp,Yp⟩
theorem pH:aO ["day","many","unit","months","parts","place","year","month"] ["day","many","unit"] (av wU):=⟨rfl,rfl,rfl,Yp,rfl,Yp,Yp⟩
theorem D1:aO ["self","deeds","name","coming"] ["self","deeds","name"] (av tK):=⟨rfl,rfl,rfl,Yp,rfl,Yp,Yp⟩
theorem ML:aO ["deed"] ["deed"] (av wV):=⟨rfl,rfl,rfl,Yp,rfl,Yp,Yp⟩
theorem MM:aO ["deeds"] ["deeds"] (av tL):=⟨rfl,rfl,rfl,Yp,rfl,Yp,Yp⟩
theorem D2:aO ["deeds","paper","deed"] ["deeds","paper"] (av wX):=⟨rfl,rfl,rfl,Yp,rfl,Yp,Yp⟩
theorem MN:aO ["deeds"] ["deeds"] (av tM):=⟨rfl,rfl,rfl,Yp,rfl,Yp,Yp⟩
theorem D3:aO ["deeds","coming","named"] ["deeds","coming"] (av qU):=⟨rfl,rfl,rfl,Yp,rfl,Yp,Yp⟩
theorem MO:aO ["deeds","paper"] ["deeds","paper"] (av tN):=⟨rfl,rfl,rfl,Yp,rfl,Yp,Yp⟩
theorem uh:aO ["deeds","paper","line","place"] ["deeds","paper"] (av tO):=⟨rfl,rfl,rfl,Yp,rfl,Yp,Yp⟩
theorem ui:aO ["deeds","words","day","found","deed","known"] ["deeds","words","day"] (av tP):=⟨rfl,rfl,rfl,Yp,rfl,Yp,Yp⟩
theorem MP:aO ["deeds","day"] ["deeds","day"] (av tQ):=⟨rfl,rfl,rfl,Yp,rfl,Yp,Yp⟩
theorem MQ:aO ["deeds","day"] ["deeds","day"] (av tR):=⟨rfl,rfl,rfl,Yp,rfl,Yp,Yp⟩
theorem MR:aO ["target","coming"] ["target","coming"] (av wY):=⟨rfl,rfl,rfl,Yp,rfl,Yp,Yp⟩
theorem pI:aO ["holds","line","names","hold","target","deep","reached"] ["holds","line"] (av tS):=⟨rfl,rfl,rfl,Yp,rfl,Yp,Yp⟩
theorem MS:aO ["paper","happening"] ["paper","happening"] (av tT):=⟨rfl,rfl,rfl,Yp,rfl,Yp,Yp⟩
theorem D4:aO ["paper","since","day","days"] ["paper","since","day"] (av tU):=⟨rfl,rfl,rfl,Yp,rfl,Yp,Yp⟩
theorem D5:aO ["paper","parts","day","base"] ["paper","parts","day"] (av wZ):=⟨rfl,rfl,rfl,Yp,rfl,Yp,Yp⟩
theorem MT:aO ["paper","rules","day"] ["paper","rules","day"] (av tV):=⟨rfl,rfl,rfl,Yp,rfl,Yp,Yp⟩
theorem D6:aO ["gone","paper","day","went"] ["gone","paper","day"] (av xi):=⟨rfl,rfl,rfl,Yp,rfl,Yp,Yp⟩
theorem pJ:aO ["paper","rules","day","gone","left","calls","rule","parts","due"] ["paper","rules","day","gone"] (av tW):=⟨rfl,rfl,rfl,Yp,rfl,Yp,Yp⟩
theorem pK:aO ["paper","rules","day","gone","away","calls","rule","parts","due"] ["paper","rules","day","gone"] (av tX):=⟨rfl,rfl,rfl,Yp,rfl,Yp,Yp⟩
theorem MU:aO ["kind","rules"] ["kind","rules"] (av tY):=⟨rfl,rfl,rfl,Yp,rfl,Yp,Yp⟩
theorem D7:aO ["since","paper","days"] ["since","paper"] (av xj):=⟨rfl,rfl,rfl,Yp,rfl,Yp,Yp⟩
theorem xP:aO ["ready","parts","days","paper"] ["ready","parts"] (av tZ):=⟨rfl,rfl,rfl,Yp,rfl,Yp,Yp⟩
theorem uj:aO ["deeds","ready","days","deed"] ["deeds"] (av qV):=⟨rfl,rfl,rfl,Yp,rfl,Yp,Yp⟩
theorem MV:aO ["self","day","paper","to_stay","to_go","bars","leave"] ["self","day","paper","to_stay","to_go","bars","leave"] (av xk):=⟨rfl,rfl,rfl,Yp,rfl,Yp,Yp⟩
theorem MW:aO ["self"] ["self"] (av xm):=⟨rfl,rfl,rfl,Yp,rfl,Yp,Yp⟩
theorem MX:aO ["self"] ["self"] (av xp):=⟨rfl,rfl,rfl,Yp,rfl,Yp,Yp⟩
theorem xQ:aO ["self","deeds","day","done","leaves","row"] ["self","deeds","day","done"] (av t6):=⟨rfl,rfl,rfl,Yp,rfl,Yp,Yp⟩
theorem MY:aO ["self","row"] ["self","row"] (av xq):=⟨rfl,rfl,rfl,Yp,rfl,Yp,Yp⟩
theorem D8:aO ["self","kind","deed"] ["self","kind"] (av xt):=⟨rfl,rfl,rfl,Yp,rfl,Yp,Yp⟩
theorem pL:aO ["self","paper","line","to_stay","to_go","asking","leave","bars"] ["self","paper","line"] (av pE):=⟨rfl,rfl,rfl,Yp,rfl,Yp,Yp⟩
theorem MZ:aO ["deeds"] ["deeds"] (av t7):=⟨rfl,rfl,rfl,Yp,rfl,Yp,Yp⟩
theorem pM:aO ["deeds","shelf","day","done","here","told","paper","line","look"] ["deeds","shelf","day","done"] (av xv):=⟨rfl,rfl,rfl,Yp,rfl,Yp,Yp⟩
theorem pN:aO ["deeds","days","done","shelf","rows","told","day","looks"] ["deeds","days","done"] (av xy):=⟨rfl,rfl,rfl,Yp,rfl,Yp,Yp⟩
theorem M3:aO ["looks"] ["looks"] (av t8):=⟨rfl,rfl,rfl,Yp,rfl,Yp,Yp⟩
theorem M4:aO ["deeds"] ["deeds"] (av xA):=⟨rfl,rfl,rfl,Yp,rfl,Yp,Yp⟩
theorem xR:aO ["deeds","rows","row"] ["deeds"] (av ub):=⟨rfl,rfl,rfl,Yp,rfl,Yp,Yp⟩
theorem qX:aO ["deeds","days","paper","day","leave"] ["deeds"] (av xB):=⟨rfl,rfl,rfl,Yp,rfl,Yp,Yp⟩
theorem xS:aO ["deeds","day","days","come"] ["deeds","day"] (av qW):=⟨rfl,rfl,rfl,Yp,rfl,Yp,Yp⟩
theorem uk:aO ["_law_script","_law_k","_law_state","_law_cell_here"] ["_law_script","_law_k"] (av xC):=⟨rfl,rfl,rfl,Yp,rfl,Yp,Yp⟩
theorem nG:aO ["_law_cell_here","_law_many","_law_found","_law_state","_law_digits","_law_k"] ["_law_cell_here","_law_many"] (av xD):=⟨rfl,rfl,rfl,Yp,rfl,Yp,Yp⟩
theorem nH:aO ["_law_x","_law_many","_law_letters","_law_words","_law_size","_law_at","_law_stem","_law_ends"] ["_law_x","_law_many"] (av pF):=⟨rfl,rfl,rfl,Yp,rfl,Yp,Yp⟩
theorem D9:aO ["_law_year","_law_past"] ["_law_year"] (av xE):=⟨rfl,rfl,rfl,Yp,rfl,Yp,Yp⟩
theorem Ea:aO ["_law_year","_law_leap"] ["_law_year"] (av xF):=⟨rfl,rfl,rfl,Yp,rfl,Yp,Yp⟩
theorem xT:aO ["_law_x","_law_far_here","_law_month","_law_ahead"] ["_law_x","_law_far_here"] (av xG):=⟨rfl,rfl,rfl,Yp,rfl,Yp,Yp⟩
theorem M5:aO ["_law_x","_law_words"] ["_law_x","_law_words"] (av xH):=⟨rfl,rfl,rfl,Yp,rfl,Yp,Yp⟩
theorem oB:aO ["_law_xs","_law_kinds","_law_words","_law_far_here","_law_kind","_law_sort","_law_unit","_law_many"] ["_law_xs","_law_kinds","_law_words","_law_far_here"] (av xI):=⟨rfl,rfl,rfl,Yp,rfl,Yp,Yp⟩
theorem M6:aO ["_law_one","_law_other"] ["_law_one","_law_other"] (av xJ):=⟨rfl,rfl,rfl,Yp,rfl,Yp,Yp⟩
theorem nI:aO ["_law_sort","_law_xs","_law_pools_here","_law_far_here","_law_names","_law_kinds","_law_words","_law_rules","_law_day_here","_law_some","_law_target"] ["_law_sort","_law_xs","_law_pools_here","_law_far_here"] (av uc):=⟨rfl,rfl,rfl,Yp,rfl,Yp,Yp⟩
theorem Eb:aO ["_law_x","_law_names"] ["_law_x"] (av xK):=⟨rfl,rfl,rfl,Yp,rfl,Yp,Yp⟩
theorem Ec:aO ["_law_found"] [] (av xM):=⟨rfl,rfl,rfl,Yp,rfl,Yp,Yp⟩
theorem lH:aO ["_law_script","_law_at","_law_far_here","_law_head","_law_pools_here","_law_found","_law_k","_law_sort","_law_xs","_law_deed_here","_law_turn"] ["_law_script","_law_at","_law_far_here"] (av ue):=⟨rfl,rfl,rfl,Yp,rfl,Yp,Yp⟩
theorem M7:aO ["_law_script","_law_at"] ["_law_script","_law_at"] (av xN):=⟨rfl,rfl,rfl,Yp,rfl,Yp,Yp⟩
theorem pO:aO ["_law_deeds_here","_law_number","_law_found","_law_k","_law_deed_here","_law_at"] ["_law_deeds_here","_law_number"] (av xO):=⟨rfl,rfl,rfl,Yp,rfl,Yp,Yp⟩
theorem M8:aO ["_law_deeds_here","_law_days"] ["_law_deeds_here","_law_days"] (av uf):=⟨rfl,rfl,rfl,Yp,rfl,Yp,Yp⟩
theorem gi:aO ["_law_script","_law_deeds_here","_law_xs","_law_more","_law_at","_law_days","_law_sets","_law_due","_law_number","_law_turn","_law_k","_law_some"] ["_law_script"] (av oA):=⟨rfl,rfl,rfl,Yp,rfl,Yp,Yp⟩
theorem M9{α:Type}{us:List α}(h:us.length=0):us=[]:=WG.mp h
theorem Ed{α:Type}{us:List α}(h:us.length=1):∃a,us=[a]:=List.length_eq_one_iff.mp h
theorem Ee{α:Type}{us:List α}(h0:us.length=2):∃a b,us=[a,b]:=by
 cases us with
 | nil=>cases h0
 | cons a us=>
  obtain⟨b,z0⟩:=Ed (us:=us) (Vo h0);exact⟨a,b,by rw [z0]⟩
theorem Ef{α:Type}{us:List α}(h0:us.length=3):∃a b c,us=[a,b,c]:=by
 cases us with
 | nil=>cases h0
 | cons a us=>
  obtain⟨b,c,z0⟩:=Ee (us:=us) (Vo h0);exact⟨a,b,c,by rw [z0]⟩
theorem Eg{α:Type}{us:List α}(h0:us.length=4):∃a b c d,us=[a,b,c,d]:=by
 cases us with
 | nil=>cases h0
 | cons a us=>
  obtain⟨b,c,d,z0⟩:=Ef (us:=us) (Vo h0);exact⟨a,b,c,d,by rw [z0]⟩
theorem Eh{α:Type}{us:List α}(h0:us.length=5):∃a b c d p,us=[a,b,c,d,p]:=by
 cases us with
 | nil=>cases h0
 | cons a us=>
  obtain⟨b,c,d,p,z0⟩:=Eg (us:=us) (Vo h0);exact⟨a,b,c,d,p,by rw [z0]⟩
theorem Ei{α:Type}{us:List α}(h0:us.length=6):∃a b c d p q,us=[a,b,c,d,p,q]:=by
 cases us with
 | nil=>cases h0
 | cons a us=>
  obtain⟨b,c,d,p,q,z0⟩:=Eh (us:=us) (Vo h0);exact⟨a,b,c,d,p,q,by rw [z0]⟩
theorem Na{α:Type}{us:List α}(h0:us.length=7):∃a b c d p q r,us=[a,b,c,d,p,q,r]:=by
 cases us with
 | nil=>cases h0
 | cons a us=>
  obtain⟨b,c,d,p,q,r,z0⟩:=Ei (us:=us) (Vo h0);exact⟨a,b,c,d,p,q,r,by rw [z0]⟩
local macro_rules | `(tactic| walk_at "b")=>`(tactic| (intro _ _ _ _ _ _ us hl;first | (cases M9 (us:=us) hl;rfl) | (obtain⟨a,e⟩:=Ed (us:=us) hl;subst e;rfl) | (obtain⟨a,b,e⟩:=Ee (us:=us) hl;subst e;rfl) | (obtain⟨a,b,c,e⟩:=Ef (us:=us) hl;subst e;rfl) | (obtain⟨a,b,c,d,e⟩:=Eg (us:=us) hl;subst e;rfl) | (obtain⟨a,b,c,d,p,e⟩:=Eh (us:=us) hl;subst e;rfl) | (obtain⟨a,b,c,d,p,q,e⟩:=Ei (us:=us) hl;subst e;rfl) | (obtain⟨a,b,c,d,p,q,r,e⟩:=Na (us:=us) hl;subst e;rfl)))
theorem txt_mk{K:QV}{h:YK}{mg:Str->Option Yx}(X:K.In h)(G:h.Ns YM mg)
 {f0 f1 f2 f3 f4 f5 f6 f7 f8 f9 f10 f11 f12 f13 f14 f15 f16 f17 f18 f19 f20 f21 f22 f23 f24 f25 f26 f27 f28 f29 f30 f31 f32 f33 f34 f35 f36 f37 f38 f39 f40 f41 f42 f43 f44 f45 f46 f47 f48 f49 f50 f51 f52 f53 f54 f55 f56 f57 f58 f59 f60 f61 f62 f63:Yz}{e0 e1 e2 e3 e4 e5 e6 e7 e8 e9 e10 e11 e12 e13 e14 e15 e16 e17 e18 e19 e20 e21 e22 e23 e24 e25 e26 e27 e28 e29 e30 e31 e32 e33 e34 e35 e36 e37 e38 e39 e40 e41 e42 e43 e44 e45 e46 e47 e48 e49 e50 e51 e52 e53 e54 e55 e56 e57 e58 e59 e60 e61 e62 e63:YG}
 {u_NoPaper u_Paper u_Look u_Round:Yz}
 {u_FIRST_YEAR u_ROUND_DAYS u_ROUND_YEARS:Yx}
 {A_MONTH_DAYS:Yz}{dd_MONTH_DAYS:Option Yz}{its_MONTH_DAYS:Array Yx}{n_MONTH_DAYS:Nat}{sl_MONTH_DAYS:Array (Option Yx)}
 (a0:DfT K "is_leap" wL f0 e0)
 (a1:DfT K "month_length" wM f1 e1)
 (a2:DfT K "leaps_before" wN f2 e2)
 (a3:DfT K "year_start" wO f3 e3)
 (a4:DfT K "year_of" wQ f4 e4)
 (a5:DfT K "parts_of" wR f5 e5)
 (a6:DfT K "number_of" tJ f6 e6)
 (a7:DfT K "later" wU f7 e7)
 (a8:DmT K u_Paper "__init__" "Paper.__init__" tK f8 e8)
 (a9:DfT K "place_of" wV f9 e9)
 (a10:DfT K "comings" tL f10 e10)
 (a11:DfT K "coming_of" wX f11 e11)
 (a12:DfT K "papers" tM f12 e12)
 (a13:DfT K "maker_comings" qU f13 e13)
 (a14:DfT K "makers" tN f14 e14)
 (a15:DfT K "line_of" tO f15 e15)
 (a16:DfT K "latest" tP f16 e16)
 (a17:DfT K "rules_on" tQ f17 e17)
 (a18:DfT K "holds_on" tR f18 e18)
 (a19:DfT K "is_told" wY f19 e19)
 (a20:DfT K "holding" tS f20 e20)
 (a21:DfT K "happened" tT f21 e21)
 (a22:DfT K "base_of" tU f22 e22)
 (a23:DfT K "reckoned" wZ f23 e23)
 (a24:DfT K "rules_over" tV f24 e24)
 (a25:DfT K "has_gone" xi f25 e25)
 (a26:DfT K "staying" tW f26 e26)
 (a27:DfT K "going" tX f27 e27)
 (a28:DfT K "leave_rules" tY f28 e28)
 (a29:DfT K "bases" xj f29 e29)
 (a30:DfT K "reckonings" tZ f30 e30)
 (a31:DfT K "turning_days" qV f31 e31)
 (a32:DmT K u_Look "__init__" "Look.__init__" xk f32 e32)
 (a33:DmT K u_Look "lets_go" "Look.lets_go" xm f33 e33)
 (a34:DmT K u_Look "as_row" "Look.as_row" xp f34 e34)
 (a35:DmT K u_Round "__init__" "Round.__init__" t6 f35 e35)
 (a36:DmT K u_Round "mark" "Round.mark" xq f36 e36)
 (a37:DmT K u_Round "unused" "Round.unused" xt f37 e37)
 (a38:DmT K u_Round "look" "Round.look" pE f38 e38)
 (a39:DfT K "shelf_of" t7 f39 e39)
 (a40:DfT K "looks_on" xv f40 e40)
 (a41:DfT K "walk" xy f41 e41)
 (a42:DfT K "rows_of" t8 f42 e42)
 (a43:DfT K "plan_looks" xA f43 e43)
 (a44:DfT K "plan" ub f44 e44)
 (a45:DfT K "days_of" xB f45 e45)
 (a46:DfT K "there" qW f46 e46)
 (a47:DfT K "_law_cell" xC f47 e47)
 (a48:DfT K "_law_numbers" xD f48 e48)
 (a49:DfT K "_law_pool" pF f49 e49)
 (a50:DfT K "_law_first" xE f50 e50)
 (a51:DfT K "_law_lengths" xF f51 e51)
 (a52:DfT K "_law_day" xG f52 e52)
 (a53:DfT K "_law_since" xH f53 e53)
 (a54:DfT K "_law_parts" xI f54 e54)
 (a55:DfT K "_law_quarrel" xJ f55 e55)
 (a56:DfT K "_law_deed" uc f56 e56)
 (a57:DfT K "_law_pools" xK f57 e57)
 (a58:DfT K "_law_sorts" xM f58 e58)
 (a59:DfT K "_law_deeds" ue f59 e59)
 (a60:DfT K "_law_far" xN f60 e60)
 (a61:DfT K "_law_mixed" xO f61 e61)
 (a62:DfT K "_law_all" uf f62 e62)
 (a63:DfT K "law" oA f63 e63)
 (x_MONTH_DAYS:R1 K YM "MONTH_DAYS"=some (some (.ref A_MONTH_DAYS)))(y_MONTH_DAYS:K.lookup A_MONTH_DAYS=some ⟨.type "tuple",dd_MONTH_DAYS,.seq its_MONTH_DAYS n_MONTH_DAYS,sl_MONTH_DAYS⟩)(z_MONTH_DAYS:aI [V.int 31,V.int 28,V.int 31,V.int 30,V.int 31,V.int 30,V.int 31,V.int 31,V.int 30,V.int 31,V.int 30,V.int 31] its_MONTH_DAYS.toList)(w_MONTH_DAYS:its_MONTH_DAYS.size<=YH)
 (x_FIRST_YEAR:R1 K YM "FIRST_YEAR"=some (some u_FIRST_YEAR))(r_FIRST_YEAR:aJ (.int 2000) u_FIRST_YEAR)
 (x_ROUND_DAYS:R1 K YM "ROUND_DAYS"=some (some u_ROUND_DAYS))(r_ROUND_DAYS:aJ (.int 146097) u_ROUND_DAYS)
 (x_ROUND_YEARS:R1 K YM "ROUND_YEARS"=some (some u_ROUND_YEARS))(r_ROUND_YEARS:aJ (.int 400) u_ROUND_YEARS)
 (x_NoPaper:R1 K YM "NoPaper"=some (some (.ref u_NoPaper)))
 (x_Paper:R1 K YM "Paper"=some (some (.ref u_Paper)))
 (x_Look:R1 K YM "Look"=some (some (.ref u_Look)))
 (x_Round:R1 K YM "Round"=some (some (.ref u_Round)))
 (cl_Paper:tH K u_Paper)
 (na_Paper_name:NoAttr K u_Paper "name")
 (na_Paper_coming:NoAttr K u_Paper "coming")
 (na_Paper_kind:NoAttr K u_Paper "kind")
 (na_Paper_makers:NoAttr K u_Paper "makers")
 (na_Paper_happenings:NoAttr K u_Paper "happenings")
 (cl_Look:tH K u_Look)
 (na_Look_day:NoAttr K u_Look "day")
 (na_Look_paper:NoAttr K u_Look "paper")
 (na_Look_to_stay:NoAttr K u_Look "to_stay")
 (na_Look_to_go:NoAttr K u_Look "to_go")
 (na_Look_bars:NoAttr K u_Look "bars")
 (na_Look_leave:NoAttr K u_Look "leave")
 (cl_Round:tH K u_Round)
 (na_Round_day:NoAttr K u_Round "day")
 (na_Round_rules:NoAttr K u_Round "rules")
 (na_Round_holds:NoAttr K u_Round "holds")
 (na_Round_leaves:NoAttr K u_Round "leaves")
 (na_Round_gone:NoAttr K u_Round "gone")
 (na_Round_used:NoAttr K u_Round "used")
 (n_abs:R1 K YM "abs"=some none)
 (n_any:R1 K YM "any"=some none)
 (n_divmod:R1 K YM "divmod"=some none)
 (n_enumerate:R1 K YM "enumerate"=some none)
 (n_int:R1 K YM "int"=some none)
 (n_len:R1 K YM "len"=some none)
 (n_list:R1 K YM "list"=some none)
 (n_max:R1 K YM "max"=some none)
 (n_min:R1 K YM "min"=some none)
 (n_range:R1 K YM "range"=some none)
 (n_set:R1 K YM "set"=some none)
 (n_sorted:R1 K YM "sorted"=some none)
 (n_sum:R1 K YM "sum"=some none)
 (n_tuple:R1 K YM "tuple"=some none):∃t:cg,Txt K mg t:=by
 refine⟨⟨f0,e0,f1,e1,f2,e2,f3,e3,f4,e4,f5,e5,f6,e6,f7,e7,f8,e8,f9,e9,f10,e10,f11,e11,f12,e12,f13,e13,f14,e14,f15,e15,f16,e16,f17,e17,f18,e18,f19,e19,f20,e20,f21,e21,f22,e22,f23,e23,f24,e24,f25,e25,f26,e26,f27,e27,f28,e28,f29,e29,f30,e30,f31,e31,f32,e32,f33,e33,f34,e34,f35,e35,f36,e36,f37,e37,f38,e38,f39,e39,f40,e40,f41,e41,f42,e42,f43,e43,f44,e44,f45,e45,f46,e46,f47,e47,f48,e48,f49,e49,f50,e50,f51,e51,f52,e52,f53,e53,f54,e54,f55,e55,f56,e56,f57,e57,f58,e58,f59,e59,f60,e60,f61,e61,f62,e62,f63,e63,.ref A_MONTH_DAYS,u_FIRST_YEAR,u_ROUND_DAYS,u_ROUND_YEARS,u_NoPaper,u_Paper,u_Look,u_Round⟩,?_⟩;have bl:∀(s:YA)(u:Yx),BindsTo s e63 ⟨[u],[]⟩ [("_law_script",u)]:=λs v=>by
  obtain⟨oc,od,kV,doc,pm,an,cdv,ct,osl,rfl,_⟩:=a63.F.ex;exact .of_eq rfl
 exact⟨a0.fn X G (by walk_at "b"),a1.fn X G (by walk_at "b"),a2.fn X G (by walk_at "b"),a3.fn X G (by walk_at "b"),a4.fn X G (by walk_at "b"),a5.fn X G (by walk_at "b"),a6.fn X G (by walk_at "b"),a7.fn X G (by walk_at "b"),a8.fn (by walk_at "b"),a9.fn X G (by walk_at "b"),a10.fn X G (by walk_at "b"),a11.fn X G (by walk_at "b"),a12.fn X G (by walk_at "b"),a13.fn X G (by walk_at "b"),a14.fn X G (by walk_at "b"),a15.fn X G (by walk_at "b"),a16.fn X G (by walk_at "b"),a17.fn X G (by walk_at "b"),a18.fn X G (by walk_at "b"),a19.fn X G (by walk_at "b"),a20.fn X G (by walk_at "b"),a21.fn X G (by walk_at "b"),a22.fn X G (by walk_at "b"),a23.fn X G (by walk_at "b"),a24.fn X G (by walk_at "b"),a25.fn X G (by walk_at "b"),a26.fn X G (by walk_at "b"),a27.fn X G (by walk_at "b"),a28.fn X G (by walk_at "b"),a29.fn X G (by walk_at "b"),a30.fn X G (by walk_at "b"),a31.fn X G (by walk_at "b"),a32.fn (by walk_at "b"),a33.fn (by walk_at "b"),a34.fn (by walk_at "b"),a35.fn (by walk_at "b"),a36.fn (by walk_at "b"),a37.fn (by walk_at "b"),a38.fn (by walk_at "b"),a39.fn X G (by walk_at "b"),a40.fn X G (by walk_at "b"),a41.fn X G (by walk_at "b"),a42.fn X G (by walk_at "b"),a43.fn X G (by walk_at "b"),a44.fn X G (by walk_at "b"),a45.fn X G (by walk_at "b"),a46.fn X G (by walk_at "b"),a47.fn X G (by walk_at "b"),a48.fn X G (by walk_at "b"),a49.fn X G (by walk_at "b"),a50.fn X G (by walk_at "b"),a51.fn X G (by walk_at "b"),a52.fn X G (by walk_at "b"),a53.fn X G (by walk_at "b"),a54.fn X G (by walk_at "b"),a55.fn X G (by walk_at "b"),a56.fn X G (by walk_at "b"),a57.fn X G (by walk_at "b"),a58.fn X G (by walk_at "b"),a59.fn X G (by walk_at "b"),a60.fn X G (by walk_at "b"),a61.fn X G (by walk_at "b"),a62.fn X G (by walk_at "b"),a63.fn X G (by walk_at "b"),bl,T5 X G x_MONTH_DAYS,⟨A_MONTH_DAYS,rfl,λH=>.inr ⟨_,_,_,y_MONTH_DAYS,rfl,rfl,w_MONTH_DAYS,z_MONTH_DAYS⟩⟩,T5 X G x_FIRST_YEAR,r_FIRST_YEAR,T5 X G x_ROUND_DAYS,r_ROUND_DAYS,T5 X G x_ROUND_YEARS,r_ROUND_YEARS,T5 X G x_NoPaper,T5 X G x_Paper,T5 X G x_Look,T5 X G x_Round,cl_Paper.c,a8.mkk cl_Paper,na_Paper_name,na_Paper_coming,na_Paper_kind,na_Paper_makers,na_Paper_happenings,cl_Look.c,a32.mkk cl_Look,na_Look_day,na_Look_paper,na_Look_to_stay,na_Look_to_go,na_Look_bars,na_Look_leave,a33.mt,a34.mt,cl_Round.c,a35.mkk cl_Round,na_Round_day,na_Round_rules,na_Round_holds,na_Round_leaves,na_Round_gone,na_Round_used,a36.mt,a37.mt,a38.mt,R8 X G n_abs,R8 X G n_any,R8 X G n_divmod,R8 X G n_enumerate,R8 X G n_int,R8 X G n_len,R8 X G n_list,R8 X G n_max,R8 X G n_min,R8 X G n_range,R8 X G n_set,R8 X G n_sorted,R8 X G n_sum,R8 X G n_tuple⟩
local macro_rules | `(tactic| walk_at "o")=>`(tactic| first | exact WR rfl | exact VJ rfl)
theorem Yu{p:Prop}(h:p:=by walk_at "o"):p:=h
local macro_rules | `(tactic| walk_at "a") =>rzT "uP AZ A3 A2 A1 qj i8 cK tC oX A7 rI iA rU Ba Bb Jc Jd Je Jf Jg Bi tB AM AN AO AS AU AX oZ Bo oY rY Bp Bq rM qi rL Jp Jq Jr Js Jt Ju Jv Jw gC ja g9 L2.start Q0 RW Q8 RR Ri Sd R7 RN SM SN Uh T1 TZ Su RY SW SX Sn exists_eq_left' exists_eq_left exists_and_left exists_and_right V.int.injEq V.bl.injEq V.str.injEq V.ref.injEq RO and_true true_and Ui exists_const decide_eq_true_eq Uj Uk T6 T7 Sw decide_eq_false_iff_not and_assoc bB Th Tb Ti L2.cxK L2.cmK or_true true_or"
open Day
theorem Ej:bb (av tJ) ["year","month","day","before"] ["other","year"] 1 [0] ⟨Q3,[ (QX ".0",aab),(QX "other",aab),(QX "month_length",RC),(QX "year",Rb)],false,false,[]⟩:=⟨rfl,Yp,Yp,Yp,rfl,Yp,Yp,Yp,rfl⟩
section
variable {P:YI} {w:YJ} {K:QV} {mg:Str->Option Yx} {base:YK} {t:cg}
def Ek:Sp:=λvs H Q _=>∃(y:Int),vs=[.int y]/\Q (.bl (iP y)) H
theorem Nb(T:Txt K mg t):aA P w K mg base CX0 1 t.a_A t.d_A ["year"] Ek:=by
 refine T.F_A.F.ok MI (λvs H Q E h=>?_) (λcdv A outer s H vs Q E hr h=>?_)
 ·obtain⟨y,rfl,_⟩:=h;rfl
 ·obtain⟨y,rfl,k⟩:=h;refine⟨_,(eY (fN (AW (rS qq (bE aW (pv 0) bL) bL (aF _)) (uO (AV (rS qq (bE aW (pv 0) bL) bL (aF _)) (uO (rS HL (bE aW (pv 0) bL) bL (aF _)))))))),?_⟩;walk_at "a";have e:iP y=(decide (y % 400=0) || (decide (y % 4=0) && !decide (y % 100=0))):=rfl;rw [e] at k;by_cases h1:y % 400=0
  ·simpa [h1] using k
  ·by_cases h2:y % 4=0
   ·simpa [h1,h2] using k
   ·simpa [h1,h2] using k
def El:Sp:=λvs H Q _=>∃(y m:Int),vs=[.int y,.int m]/\1<=m/\m<=12/\Q (.int (bt y m)) H
theorem xU(T:Txt K mg t):aA P w K mg base CX0 2 t.a_B t.d_B ["year","month"] El:=by
 have G_A:=@Nb P w _ _ base _ T;refine T.F_B.F.ok MJ (λvs H Q E h=>?_) (λcdv A outer s H vs Q E hr h=>?_)
 ·obtain⟨y,m,rfl,_⟩:=h;rfl
 ·obtain⟨y,m,rfl,h1,h2,k⟩:=h;obtain⟨a,ea,hM⟩:=T.e_MONTH_DAYS;have T_r:aJ (.ref a) t.u_MONTH_DAYS:=ea;refine⟨_,(cO (oT (PW.pt (AR (nR qq (pv 1) bL (aF _)) (AQ (AL (aE G_A (hr.mono Yq) rfl T.F_A (bw (pv 0) b5)))))) (eY (fN bL)) oR)
   (eY (fN (jL aG (oQ rfl T.c_MONTH_DAYS T_r) (bE eZ (pv 1) bL) (λ_ _=>rfl))))),?_⟩
  walk_at "a";simp only [Ek];walk_at "a";have fin:∀{v:Int},v=bt y m->Q (.int v) H:=λe=>by rw [e];exact k
  have tail:bt y m=wk.getD (m - 1).toNat 0->se K (.ref a) (.int (m - 1)) H Q:=λe=>by
   refine⟨a,_,m - 1,.int (bt y m),rfl,rfl,hM H,?_,k⟩;rw [e];rcases wu h1 h2 with z | z | z | z | z | z | z | z | z | z | z | z <;> subst z <;> rfl
  by_cases hm:m=2
  ·rw [Yt hm];by_cases hl:iP y=true
   ·rw [Yt hl];exact fin (by unfold bt;rw [Yt ⟨hm,hl⟩])
   ·rw [Ys hl];exact tail (by unfold bt;rw [Ys (λz=>hl z.2)])
  ·rw [Ys hm];exact tail (wq hm)
def Em:Sp:=λvs H Q _=>∃(y:Int),vs=[.int y]/\Q (.int (lb y)) H
theorem Nc(T:Txt K mg t):aA P w K mg base CX0 1 t.a_C t.d_C ["year"] Em:=by
 refine T.F_C.F.ok DX (λvs H Q E h=>?_) (λcdv A outer s H vs Q E hr h=>?_)
 ·obtain⟨y,rfl,_⟩:=h;rfl
 ·obtain⟨y,rfl,k⟩:=h;refine⟨_,(cO (d7 (i:=1) DX.nd rfl Yu (bE eZ (pv 0) bL))
   (eY (fN (bE bA (bE eZ (bE cQ (pv 1) bL) (bE cQ (pv 1) bL)) (bE cQ (pv 1) bL))))),?_⟩
  walk_at "a";exact k
def um:Sp:=λvs H Q _=>∃(y:Int),vs=[.int y]/\Q (.int (cc y)) H
theorem xV(T:Txt K mg t):aA P w K mg base CX0 2 t.a_D t.d_D ["year"] um:=by
 have G_C:=@Nc P w _ _ base _ T;refine T.F_D.F.ok MK (λvs H Q E h=>?_) (λcdv A outer s H vs Q E hr h=>?_)
 ·obtain⟨y,rfl,_⟩:=h;rfl
 ·obtain⟨y,rfl,k⟩:=h;refine⟨_,(eY (fN (bE eZ (bE bA (bE d9 bL (bE eZ (pv 0) (oQ rfl T.c_FIRST_YEAR T.r_FIRST_YEAR))) (aE G_C (hr.mono Yq) rfl T.F_C (bw (pv 0) b5))) (aE G_C (hr.mono Yq) rfl T.F_C (bw (oQ rfl T.c_FIRST_YEAR T.r_FIRST_YEAR) b5))))),?_⟩;walk_at "a";simp only [Em];walk_at "a";exact k
def En:Sp:=λvs H Q _=>∃(d:Int),vs=[.int d]/\Q (.int (pB d)) H
theorem Nd(T:Txt K mg t):aA P w K mg base CX0 3 t.a_E t.d_E ["day"] En:=by
 have G_D:=@xV P w _ _ base _ T;refine T.F_E.F.ok DY (λvs H Q E h=>?_) (λcdv A outer s H vs Q E hr h=>?_)
 ·obtain⟨d,rfl,_⟩:=h;rfl
 ·obtain⟨d,rfl,k⟩:=h;refine⟨_,(cO (d7 (i:=1) DY.nd rfl Yu (bE bA (oQ rfl T.c_FIRST_YEAR T.r_FIRST_YEAR) (bE cQ (bE d9 (pv 0) (oQ rfl T.c_ROUND_YEARS T.r_ROUND_YEARS)) (oQ rfl T.c_ROUND_DAYS T.r_ROUND_DAYS))))
   (cO (oT (nR jJ (aE G_D (hr.mono Yq) rfl T.F_D (bw (pv 1) b5)) (pv 0) (aF _)) (eY (fN (bE eZ (pv 1) bL))) oR)
   (cO (oT (nR lR (aE G_D (hr.mono Yq) rfl T.F_D (bw (bE bA (pv 1) bL) b5)) (pv 0) (aF _)) (eY (fN (bE bA (pv 1) bL))) oR)
   (eY (fN (pv 1)))))),?_⟩
  walk_at "a";simp only [um];walk_at "a";unfold pB at k;split
  ·rename_i h;rw [Yt h] at k;exact k
  ·rename_i h;rw [Ys h] at k;split
   ·rename_i h;rw [Yt h] at k;exact k
   ·rename_i h;rw [Ys h] at k;exact k
def Nf:Sp:=λvs H Q _=>∃(d:Int),vs=[.int d]/\∀(p:Yz)(H':Hp)(y m n:Int),nt d y m n->au H H'->H p=none->H' p=some (.tup [.int y,.int m,.int n])->Q (.ref p) H'
theorem Ng(T:Txt K mg t):aA P w K mg base CX0 4 t.a_F t.d_F ["day"] Nf:=by
 have G_E:=@Nd P w _ _ base _ T;have G_D:=@xV P w _ _ base _ T;have G_B:=@xU P w _ _ base _ T;refine T.F_F.F.ok pG (λvs H Q E h=>?_) (λcdv A outer s H vs Q E hr h=>?_)
 ·obtain⟨d,rfl,_⟩:=h;rfl
 ·obtain⟨d,rfl,k⟩:=h;refine⟨_,(cO (d7 (i:=1) pG.nd rfl Yu (aE G_E (hr.mono Yq) rfl T.F_E (bw (pv 0) b5)))
   (cO (d7 (i:=2) pG.nd rfl Yu (bE eZ (pv 0) (aE G_D (hr.mono Yq) rfl T.F_D (bw (pv 1) b5))))
   (cO (d7 (i:=3) pG.nd rfl Yu bL)
   (cO (A4 RU (nR Bg (pv 2) (aE G_B (hr.mono Yq) rfl T.F_B (bw (pv 1) (bw (pv 3) b5))) (aF _)) (cO (d7 (i:=2) pG.nd rfl Yu (bE eZ (pv 2) (aE G_B (hr.mono Yq) rfl T.F_B (bw (pv 1) (bw (pv 3) b5)))))
   (eY (d7 (i:=3) pG.nd rfl Yu (bE bA (pv 3) bL)))))
   (eY (fN (Br (bw (pv 1) (bw (pv 3) (bw (bE bA (pv 2) bL) b5)))))))))),?_⟩
  walk_at "a";simp only [En];walk_at "a";simp only [um];walk_at "a";have yo:=L6 d;generalize pB d=y at*;refine⟨λm σ H'=>H'=H/\∃mo:Int,1<=mo/\mo<=12/\aT y mo<=d - cc y/\m=(12 - mo).toNat/\σ=[some (.int d),some (.int y),some (.int (d - cc y - aT y mo)),some (.int mo)],⟨11,rfl,1,Yq,Yq,?_,rfl,?_⟩,?_⟩
  ·rw [wx];omega
  ·rw [wx];simp
  ·rintro m σ H' ⟨rfl,mo,h1,h2,hb,rfl,rfl⟩;walk_at "a";simp only [El];walk_at "a";refine⟨h1,h2,?_⟩;have ys:=Dw y;have ba:=Dz (y:=y) h1 h2;split
   ·rename_i hge;have lt12:mo < 12:=by
     by_cases z:mo < 12
     ·exact z
     ·have e:mo=12:=Yr
      subst e;have:=(wy y);have:=wt y;omega
    refine⟨_,λ_ _ h=>h,h1,h2,(12 - (mo+1)).toNat,Yr,rfl,mo+1,Yr,Yr,?_,rfl,?_⟩
    ·rw [eQ h1];omega
    ·rw [eQ h1,show d - cc y - (aT y mo+bt y mo)=d - cc y - aT y mo - bt y mo by omega]
   ·rename_i hlt;refine⟨by show 3<=YH;decide,λp hp=>?_⟩;refine k p _ y mo (d - cc y - aT y mo+1) ⟨h1,h2,Yr,Yr,by unfold oq;omega⟩ (au.new hp) hp bq
def Nh:Sp:=λvs H Q _=>∃(y m n:Int),vs=[.int y,.int m,.int n]/\1<=m/\m<=12/\∀H',au H H'->Q (.int (oq y m n)) H'
theorem Ni(T:Txt K mg t):aA P w K mg base CX0 3 t.a_G t.d_G ["year","month","day"] Nh:=by
 have G_D:=@xV P w _ _ base _ T;have G_B:=@xU P w _ _ base _ T;refine T.F_G.F.ok DZ (λvs H Q E h=>?_) (λcdv A outer s H vs Q E hr h=>?_)
 ·obtain⟨y,m,n,rfl,_⟩:=h;rfl
 ·obtain⟨y,m,n,rfl,h1,h2,k⟩:=h;refine⟨_,(cO (d7 (i:=3) DZ.nd rfl Yu (bU (BR rfl) rfl T.n_sum WV (bw (su rfl Ej (HF rfl T.n_range (bw bL (bw (pv 1) b5))) (λ_ _ _ _=>(aK (i:=0) Ej.nd rfl Yu)) (λ_ _ _ _=>BP) (λ_ _ _ _=>(aE G_B (hr.mono Yq) rfl T.F_B (bw (pv 1) (bw (pv 0) b5))))) b5)))
   (eY (fN (bE eZ (bE bA (bE bA (aE G_D (hr.mono Yq) rfl T.F_D (bw (pv 0) b5)) (pv 3)) (pv 2)) bL)))),?_⟩
  walk_at "a";refine⟨Yr,Yr,?_⟩;refine Jx (λi=>.int (bt y (1+(i:Int)))) Yr (λi H' R hi s1 hR=>?_) (λD H' hD s1 e1=>?_)
  ·walk_at "a";exact⟨_,_,rfl,Yr,Yr,hR H' (au.refl _)⟩
  ·refine⟨D,rfl,(SO (m - 1).toNat).map λ(i:Nat)=>bt y (1+(i:Int)),bo.of (by rw [e1,Rm];rfl),?_⟩;simp only [um];walk_at "a";exact k H' s1
def oC(u:Str):Prop:=u="days"\/u="months"\/u="years"
def oE(d k:Int)(u:Str)(r:Int):Prop:=(u="days"/\r=d+k)\/(u="months"/\∃y m n,nt d y m n/\r=tm y m n k)\/(u="years"/\∃y m n,nt d y m n/\r=tm y m n (k*12))
theorem Eo:¬(("months":Str)="days"):=Yp
theorem Ep:¬(("years":Str)="days"):=Yp
theorem Er:¬(("months":Str)="years"):=Yp
def Nj:Sp:=λvs H Q _=>∃(d k:Int)(u:Str),vs=[.int d,.int k,.str u]/\oC u/\∀r H',oE d k u r->au H H'->Q (.int r) H'
theorem Nk(T:Txt K mg t):aA P w K mg base CX0 5 t.a_H t.d_H ["day","many","unit"] Nj:=by
 have G_F:=@Ng P w _ _ base _ T;have G_B:=@xU P w _ _ base _ T;have G_G:=@Ni P w _ _ base _ T;refine T.F_H.F.ok pH (λvs H Q E h=>?_) (λcdv A outer s H vs Q E hr h=>?_)
 ·obtain⟨d,k,u,rfl,_⟩:=h;rfl
 ·obtain⟨d,mk,u,rfl,hu,k⟩:=h;refine⟨_,(cO (oT (nR qq (pv 2) uN (aF _)) (eY (fN (bE bA (pv 0) (pv 1)))) oR)
   (cO (d7 (i:=3) pH.nd rfl Yu (AY (nR qq (pv 2) uN (aF _)) (bE d9 (pv 1) bL) (pv 1)))
   (cO (d7 (i:=4) pH.nd rfl Yu (aE G_F (hr.mono Yq) rfl T.F_F (bw (pv 0) b5)))
   (cO (d7 (i:=5) pH.nd rfl Yu (bE bA (bE eZ (bE bA (bE d9 (jL aG (pv 4) bL (λ_ _=>rfl)) bL) (jL aG (pv 4) bL (λ_ _=>rfl))) bL) (pv 3)))
   (cO (d7 (i:=6) pH.nd rfl Yu (bE cQ (pv 5) bL))
   (cO (d7 (i:=7) pH.nd rfl Yu (bE bA (bE aW (pv 5) bL) bL))
   (eY (fN (aE G_G (hr.mono Yq) rfl T.F_G (bw (pv 6) (bw (pv 7) (bw (bU (HS rfl) rfl T.n_min Yi (bw (jL aG (pv 4) bL (λ_ _=>rfl)) (bw (aE G_B (hr.mono Yq) rfl T.F_B (bw (pv 6) (bw (pv 7) b5))) b5))) b5)))))))))))),?_⟩
  walk_at "a";by_cases hd:u="days"
  ·rw [Yt hd];exact k _ H (.inl ⟨hd,rfl⟩) (au.refl _)
  ·rw [Ys hd];by_cases hy:u="years"
   ·rw [Yt hy];refine⟨d,rfl,λp H' y m n D s1 _ e1=>?_⟩;refine je (aZ.of e1) rfl ⟨y,rfl,je (aZ.of e1) rfl ⟨m,rfl,je (aZ.of e1) rfl ?_⟩⟩;refine⟨_,_,rfl,Yr,Yr,n,rfl,_,rfl,_,_,_,rfl,Yr,Yr,λH2 s2=>?_⟩;exact k _ H2 (.inr (.inr ⟨hy,y,m,n,D,by unfold tm;rw [BU]⟩)) (s1.trans s2)
   ·rw [Ys hy];have hm:u="months":=by rcases hu with z | z | z;exact absurd z hd;exact z;exact absurd z hy
    refine⟨d,rfl,λp H' y m n D s1 _ e1=>?_⟩;refine je (aZ.of e1) rfl ⟨y,rfl,je (aZ.of e1) rfl ⟨m,rfl,je (aZ.of e1) rfl ?_⟩⟩;refine⟨_,_,rfl,Yr,Yr,n,rfl,_,rfl,_,_,_,rfl,Yr,Yr,λH2 s2=>?_⟩;exact k _ H2 (.inr (.inl ⟨hm,y,m,n,D,by unfold tm;rw [BU]⟩)) (s1.trans s2)
def F_H:List Yw->(Yw->Prop)->Prop:=λds Q=>∃(d i:Int)(u:Str),ds=[.int d,.int i,.str u]/\oC u/\∀r,oE d i u r->Q (.int r)
theorem Es(T:Txt K mg t):aA P w K mg base CX0 5 t.a_H t.d_H ["day","many","unit"] (aU K F_H):=
 (Nk T).imp λvs H Q E uu74=>by
  obtain⟨O,ds,Qd,tr,hs,⟨d,i,u,e,hu,q⟩,k⟩:=uu74;subst e;cases hs with
  | cons a r=>cases r with
   | cons b r=>cases r with
    | cons c r=>cases r;cases a;cases b;cases c;exact⟨d,i,u,rfl,hu,λz H' L s1=>k _ _ H' (q z L) s1 (.int _)⟩
theorem Nl{d k:Int}{u:Str}{r r':Int}(h:oE d k u r)(h':oE d k u r'):r=r':=by
 rcases h with⟨e,h⟩ | ⟨e,y,m,n,D,h⟩ | ⟨e,y,m,n,D,h⟩ <;> rcases h' with⟨e',h'⟩ | ⟨e',y',m',n',D',h'⟩ | ⟨e',y',m',n',D',h'⟩
 ·rw [h,h']
 ·exact absurd (e'.symm.trans e) Eo
 ·exact absurd (e'.symm.trans e) Ep
 ·exact absurd (e.symm.trans e') Eo
 ·obtain⟨rfl,rfl,rfl⟩:=D.uniq D';rw [h,h']
 ·exact absurd (e.symm.trans e') Er
 ·exact absurd (e.symm.trans e') Ep
 ·exact absurd (e'.symm.trans e) Er
 ·obtain⟨rfl,rfl,rfl⟩:=D.uniq D';rw [h,h']
end
structure Pp where
 d:Int
 nm:Str
 kd:Str
 ms:List Str
def Pp.enc(p:Pp):Yw:= .tuple [.str (QU "paper"),.int p.d,.str p.nm,.str p.kd,.tuple (p.ms.map .str)]
def Pp.key(p:Pp):Int×Str:=(p.d,p.nm)
def gQ:Yw->Int×Str
 | .tuple (_:: .int d:: .str n::_)=>(d,n)
 | _=>(0,QU "")
def Pp.lt(a b:Pp):Prop:=aY a.key b.key=true
instance (a b:Pp):Decidable (a.lt b):=by unfold Pp.lt;infer_instance
theorem Nm(p:Int×Str):aY p p=false:=by unfold aY;simp [List.lt_irrefl]
theorem Et{a b c:Int×Str}(h1:aY a b=true)(h2:aY b c=true):aY a c=true:=by
 unfold aY at h1 h2⊢;simp only [Vg,R5,decide_eq_true_eq] at h1 h2⊢;rcases h1 with h1 | ⟨h1,h1'⟩ <;> rcases h2 with h2 | ⟨h2,h2'⟩
 ·left;omega
 ·left;omega
 ·left;omega
 ·right;exact⟨h1.trans h2,X3 h1' h2'⟩
theorem uo{a b:Int×Str}(h:aY a b=true):¬aY b a=true:=λz=>by
 have:=Et h z;rw [Nm] at this;cases this
theorem Nn{a b:Int×Str}(h:a≠b):aY a b=true\/aY b a=true:=by
 have T:=CW (n:=2) (kp:=λi=>if i=0 then a else b) (λi j hi hj e=>by
  have:i=0\/i=1:=Yr
  have:j=0\/j=1:=Yr
  rcases ‹i=0\/i=1› with rfl | rfl <;> rcases ‹j=0\/j=1› with rfl | rfl
  ·rfl
  ·exact absurd e h
  ·exact absurd e.symm h
  ·rfl)
 have:=T.tot 0 1 Yr Yr Yr;simp at this;cases hb:aY b a with
 | true=>exact .inr rfl
 | false=>rw [hb] at this;exact .inl (by simpa using this)
theorem Pp.lt_tr{a b c:Pp}(h1:a.lt b)(h2:b.lt c):a.lt c:=Et h1 h2
theorem nJ{α:Type}{r:α->α->Prop}(as:∀a b,r a b->¬r b a):∀{l1 l2:List α},l1.Perm l2->l1.Pairwise r->l2.Pairwise r->l1=l2
 | [],l2,p,_,_=>by rw [p.nil_eq]
 | a::l1,[],p,_,_=>by have:=p.length_eq;simp at this
 | a::l1,b::l2,p,h1,h2=>by
  have e:a=b:=by
   have m1:a∈b::l2:=p.mem_iff.mp Yv;have m2:b∈a::l1:=p.mem_iff.mpr Yv;rcases Q4.mp m1 with e | m1
   ·exact e
   ·rcases Q4.mp m2 with e | m2
    ·exact e.symm
    ·exact absurd ((Sy.mp h1).1 b m2) (as _ _ ((Sy.mp h2).1 a m1))
  subst e;rw [nJ as ((List.perm_cons a).mp p) (Sy.mp h1).2 (Sy.mp h2).2]
def pP(x:Pp):List Pp->List Pp
 | []=>[x]
 | y::l=>if x.lt y then x::y::l else y::pP x l
def bu(ps:List Pp):List Pp:=ps.foldr pP []
theorem xW(x:Pp):∀l,(pP x l).Perm (x::l)
 | []=>.refl _
 | y::l=>by
  unfold pP;split
  ·exact .refl _
  ·exact((xW x l).cons y).trans (.swap x y l)
theorem iQ:∀ps:List Pp,(bu ps).Perm ps
 | []=>.refl _
 | x::ps=>(xW x (bu ps)).trans ((iQ ps).cons x)
theorem Eu{x:Pp}:∀{l:List Pp},(∀y∈l,y.nm≠x.nm)->l.Pairwise Pp.lt->(pP x l).Pairwise Pp.lt
 | [],_,_=>Vt _ _
 | y::l,hn,h=>by
  have hp:=Sy.mp h;unfold pP;split
  ·rename_i hl;refine Sy.mpr ⟨λz hz=>?_,h⟩;rcases Q4.mp hz with e | e
   ·subst e;exact hl
   ·exact Pp.lt_tr hl (hp.1 z e)
  ·rename_i hl;refine Sy.mpr ⟨λz hz=>?_,Eu (λz hz=>hn z (by simp [hz])) hp.2⟩;rcases Q4.mp ((xW x l).mem_iff.mp hz) with e | e
   ·subst e;rcases Nn (a:=y.key) (b:=z.key) (λz=>hn y Yv (congrArg Prod.snd z)) with w | w
    ·exact w
    ·exact absurd w hl
   ·exact hp.1 z e
theorem pQ:∀{ps:List Pp},(ps.map (·.nm)).Nodup->(bu ps).Pairwise Pp.lt
 | [],_=>.nil
 | x::ps,h=>by
  rw [Q0,Sz] at h;exact Eu (λy hy e=>h.1 (by rw [<-e];exact Rf.mpr ⟨y,(iQ ps).mem_iff.mp hy,rfl⟩)) (pQ h.2)
theorem iR{ps:List Pp}{x:Pp}:x∈bu ps↔x∈ps:=(iQ ps).mem_iff
theorem iS{ps:List Pp}:(bu ps).length=ps.length:=(iQ ps).length_eq
theorem Pp.asym(a b:Pp)(h:a.lt b):¬b.lt a:=uo h
theorem Ew{ps os:List Pp}(nd:(ps.map (·.nm)).Nodup)(hp:os.Perm ps)(hs:os.Pairwise Pp.lt):os=bu ps:=
 nJ Pp.asym (hp.trans (iQ ps).symm) hs (pQ nd)
theorem Ey{ps qs:List Pp}(nd:(ps.map (·.nm)).Nodup)(h:qs.Perm ps):bu qs=bu ps:=
 Ew nd ((iQ qs).trans h) (pQ ((h.map _).nodup_iff.mpr nd))
theorem xX{ps:List Pp}{f:Pp->Bool}(nd:(ps.map (·.nm)).Nodup):((ps.filter f).map (·.nm)).Nodup:=nd.sublist (U9.map _)
theorem Ez{ps:List Pp}{f:Pp->Bool}(nd:(ps.map (·.nm)).Nodup):bu (ps.filter f)=(bu ps).filter f:=
 (Ew (xX nd) ((iQ ps).filter f) ((pQ nd).sublist U9)).symm
theorem Np{ps:List Pp}{ds:List Yw}(nd:(ps.map (·.nm)).Nodup)(hp:ds.Perm (ps.map Pp.enc))(hs:ds.Pairwise λa b=>aY (gQ a) (gQ b)=true):ds=(bu ps).map Pp.enc:=by
 refine nJ (λa b h=>uo h) (hp.trans ((iQ ps).symm.map _)) hs ?_;rw [Sm];exact pQ nd
theorem Nq{ps:List Pp}(nd:(ps.map (·.nm)).Nodup){a b:Pp}(ha:a∈ps)(hb:b∈ps)(e:a.nm=b.nm):a=b:=by
 induction ps with
 | nil=>cases ha
 | cons x ps ih=>
  rw [Q0,Sz] at nd;rcases Q4.mp ha with ea | ha1 <;> rcases Q4.mp hb with eb | hb1
  ·rw [ea,eb]
  ·subst ea;exact absurd (Rf.mpr ⟨b,hb1,e.symm⟩) nd.1
  ·subst eb;exact absurd (Rf.mpr ⟨a,ha1,e⟩) nd.1
  ·exact ih nd.2 ha1 hb1
structure iT (ps:List Pp):Prop where
 ln:ps.length<=41
 nd:(ps.map (·.nm)).Nodup
 nm:∀p∈ps,Q2 p.nm=true
 kd:∀p∈ps,Q2 p.kd=true
 ms:∀p∈ps,(∀m∈p.ms,Q2 m=true)/\p.ms.length<=50
theorem iT.perm{ps qs:List Pp}(g:iT ps)(h:qs.Perm ps):iT qs:=
 ⟨by rw [h.length_eq];exact g.ln,(h.map _).nodup_iff.mpr g.nd,λp hp=>g.nm p (h.mem_iff.mp hp),λp hp=>g.kd p (h.mem_iff.mp hp),λp hp=>g.ms p (h.mem_iff.mp hp)⟩
theorem iT.filter{ps:List Pp}(g:iT ps)(f:Pp->Bool):iT (ps.filter f):=
 ⟨Rx (RJ _ _) g.ln,xX g.nd,λp hp=>g.nm p (RP.mp hp).1,λp hp=>g.kd p (RP.mp hp).1,λp hp=>g.ms p (RP.mp hp).1⟩
def xY(c p:Pp):Bool:=c.ms.contains p.nm && aY p.key c.key
def eT(ps:List Pp)(c:Pp):List Pp:=(bu ps).filter (xY c)
inductive De where
 | pap (p:Pp)
 | oth (w:Str) (d:Int) (nm:Str) (r:List Yw)
def De.enc:De->Yw
 | .pap p=>p.enc
 | .oth w d nm r=>.tuple (.str w:: .int d:: .str nm::r)
def De.w:De->Str
 | .pap _=>QU "paper"
 | .oth w _ _ _=>w
def De.d:De->Int
 | .pap p=>p.d
 | .oth _ d _ _=>d
def De.nm:De->Str
 | .pap p=>p.nm
 | .oth _ _ nm _=>nm
def De.pp:De->Option Pp
 | .pap p=>some p
 | _=>none
def aC(xs:List De):List Pp:=xs.filterMap De.pp
structure gS (xs:List De):Prop where
 gp:iT (aC xs)
 np:∀w d nm r,De.oth w d nm r∈xs->w≠QU "paper"
 ln:xs.length<=41
 w:∀x∈xs,Q2 x.w=true
 nm:∀x∈xs,Q2 x.nm=true
theorem EA{xs:List De}{p:Pp}:p∈aC xs↔De.pap p∈xs:=by
 unfold aC;rw [UN];constructor
 ·rintro⟨x,hx,e⟩;cases x with
  | pap q=>cases e;exact hx
  | oth w d nm r=>cases e
 ·intro h;exact⟨_,h,rfl⟩
theorem gS.perm{xs ys:List De}(g:gS xs)(h:ys.Perm xs):gS ys:=
 ⟨g.gp.perm (h.filterMap _),λw d nm r z=>g.np w d nm r (h.mem_iff.mp z),by rw [h.length_eq];exact g.ln,λx hx=>g.w x (h.mem_iff.mp hx),λx hx=>g.nm x (h.mem_iff.mp hx)⟩
theorem EB(ps:List Pp):aC (ps.map De.pap)=ps:=by
 unfold aC;rw [Xd];exact List.filterMap_some
theorem Nr(ps:List Pp):ps.map Pp.enc=(ps.map De.pap).map De.enc:=by rw [Rm];rfl
theorem xZ:Q2 (QU "paper")=true:=Yp
theorem gS.of{ps:List Pp}(g:iT ps):gS (ps.map De.pap):=by
 refine⟨by rw [EB];exact g,λw d nm r h=>?_,by rw [QW];exact g.ln,λx hx=>?_,λx hx=>?_⟩
 ·obtain⟨p,_,e⟩:=Rf.mp h;cases e
 ·obtain⟨p,_,rfl⟩:=Rf.mp hx;exact xZ
 ·obtain⟨p,hp,rfl⟩:=Rf.mp hx;exact g.nm p hp
local macro_rules | `(tactic| walk_at "d") =>do let a <- rzT "eJ Q0 RW Q8 RR SM SN Ri Sd R7"; let b <- rzT rzS; `(tactic| ((try $a:tactic); $b:tactic))
theorem EC:bb (av tL) ["deeds"] ["deed"] 1 [] ⟨Q3,[(QX ".0",aab),(QX "deed",aab)],false,false,[]⟩:=⟨rfl,Yp,Yp,Yp,rfl,Yp,Yp,Yp,rfl⟩
theorem ED:bb (av tM) ["deeds"] ["deed"] 1 [] ⟨Q3,[(QX ".0",aab),(QX "deed",aab)],false,false,[]⟩:=⟨rfl,Yp,Yp,Yp,rfl,Yp,Yp,Yp,rfl⟩
theorem EF:bb (av qU) ["deeds","coming","named"] ["deed","coming"] 1 [1] ⟨Q3,[ (QX ".0",aab),(QX "deed",aab),(QX "coming",Rb)],false,false,[]⟩:=⟨rfl,Yp,Yp,Yp,rfl,Yp,Yp,Yp,rfl⟩
theorem EG:bb (av qU) ["deeds","coming","named"] ["deed","coming"] 1 [1] ⟨Q3,[ (QX ".0",aab),(QX "deed",aab),(QX "place_of",RC),(QX "coming",Rb)],false,false,[]⟩:=⟨rfl,Yp,Yp,Yp,rfl,Yp,Yp,Yp,rfl⟩
theorem EH:bb (av tN) ["deeds","paper"] ["deed"] 1 [] ⟨Q3,[(QX ".0",aab),(QX "deed",aab)],false,false,[]⟩:=⟨rfl,Yp,Yp,Yp,rfl,Yp,Yp,Yp,rfl⟩
section
variable {P:YI} {w:YJ} {K:QV} {mg:Str->Option Yx} {base:YK} {t:cg}
theorem cX{α:Type}{enc:α->Yw}{g:DG}{tc:DB}{te:DT}{δ0:Dl}{xs:List α}{Q:List Yw->Prop}(p:α->Bool)(f:α->Yw)
 (h:∀x∈xs,∀(R:Yw->Prop) (S:Prop),(if p x=true then R (f x) else S)->g (enc x) δ0 λδ2=>tc δ2 λok=>if ok=true then te δ2 R else S)(q:Q ((xs.filter p).map f)):jm g tc te δ0 (xs.map enc) Q:=by
 refine⟨λi acc=>acc=((xs.take i).filter p).map f,rfl,?_,?_⟩
 ·rintro i z acc hz rfl;rw [Q9] at hz;cases hz':xs[i]? with
  | none=>rw [hz'] at hz;cases hz
  | some x=>
   rw [hz'] at hz;cases hz;refine h x (RA hz') (λy=>((xs.take i).filter p).map f++[y]=((xs.take (i+1)).filter p).map f) (((xs.take i).filter p).map f=((xs.take (i+1)).filter p).map f) ?_;rw [RT,hz'];by_cases e:p x=true
   ·rw [Yt e];simp [e]
   ·rw [Ys e];simp [e]
 ·rintro acc rfl;rw [QW,Rz (QY _)];exact q
theorem iU{α:Type}{enc:α->Yw}{g:DG}{tc:DB}{te:DT}{δ0:Dl}{xs:List α}{Q:List Yw->Prop}(p:α->Bool)(f:α->Yw)
 (h:∀x∈xs,∀(R:Yw->Prop) (S:Prop),(p x=true->R (f x))->(p x=false->S)->g (enc x) δ0 λδ2=>tc δ2 λok=>if ok=true then te δ2 R else S)(q:Q ((xs.filter p).map f)):jm g tc te δ0 (xs.map enc) Q:=
 cX p f (λx hx R S z=>h x hx R S (λe=>by rw [Yt e] at z;exact z) (λe=>by rw [Ys (by rw [e];exact Q5)] at z;exact z)) q
theorem fK{α:Type}(l:List α):l.filter (λ_=>true)=l:=List.filter_eq_self.mpr λ_ _=>rfl
theorem cf{a b:Str}(h:a≠b):(a==b)=false:=by simpa using h
theorem Nt{ws:List Str}{w:Str}:((ws.map QZ).any λd=>Rr d (.str w))=ws.contains w:=by
 induction ws with
 | nil=>rfl
 | cons a ws ih=>
  rw [Q0,Se,ih,dQ,VY];congr 1;by_cases h:a=w
  ·simp [h]
  ·rw [cf h,cf (Ne.symm h)]
theorem Nu{ms:List Str}(h:∀m∈ms,Q2 m=true):SH (ms.map .str)=true:=(qJ (n:=1) (sS h)).1
def iV(f:Pp->Bool):De->Bool
 | .pap p=>f p
 | _=>false
theorem pR{f:Pp->Bool}:∀xs:List De,(xs.filter (iV f)).map De.enc=((aC xs).filter f).map Pp.enc
 | []=>rfl
 | .pap p::xs=>by
  have ih:=pR (f:=f) xs;show _=(Ue f (p::aC xs)).map Pp.enc;rw [RQ,RQ];by_cases h:f p=true
  ·rw [Yt h,Yt (show iV f (.pap p)=true from h),Q0,Q0,ih];rfl
  ·rw [Ys h,Ys (show ¬iV f (.pap p)=true from h),ih]
 | .oth w d nm r::xs=>by
  have ih:=pR (f:=f) xs;show _=(Ue f (aC xs)).map Pp.enc;rw [RQ,Ys (show ¬iV f (.oth w d nm r)=true from Q5),ih]
def x9:List Yw->(Yw->Prop)->Prop:=λds Q=>∃p:De,ds=[p.enc]/\Q (cx (p.d,p.nm))
theorem y9(T:Txt K mg t):aA P w K mg base CX0 1 t.a_J t.d_J ["deed"] (aU K x9):=by
 refine T.F_J.F.okD ML (λds Q h=>?_) (λ_ _ _ _ H O ds Q E hr h=>?_)
 ·obtain⟨p,rfl,_⟩:=h;rfl
 ·obtain⟨p,rfl,q⟩:=h;refine'⟨_,?A,?B⟩
  case A=>
   refine' aw ?C
   case' C=>refine' aR ?D
   case' D=>refine' bH ?E
   case' E=>refine' aa ?F ?G
   case F=>exact(ak aG aM (df (dv 0)) (df af))
   case' G=>refine' aa ?H aj
   case H=>exact(ak aG aM (df (dv 0)) (df af))
  case B=>
  clear hr T;cases p <;> simp only [De.enc,Pp.enc] <;> walk_at "d" <;> exact q
theorem Nv{d:Yw}{ps:List Pp}(h:d∈ps.map Pp.enc)(R:Yw->Prop)(q:R (cx (gQ d))):x9 [d] R:=by
 obtain⟨p,hp,rfl⟩:=Rf.mp h;exact⟨.pap p,rfl,q⟩
theorem EI{ps:List Pp}(nd:(ps.map (·.nm)).Nodup):(ps.map Pp.key).Nodup:=by
 rw [VM,Sm] at nd⊢;exact nd.imp λh e=>h (congrArg Prod.snd e)
def F_K:List Yw->(Yw->Prop)->Prop:=λds Q=>∃xs:List De,(ds=[.list (xs.map De.enc)]\/ds=[.tuple (xs.map De.enc)])/\gS xs/\Q (.list ((bu (aC xs)).map Pp.enc))
theorem z3(T:Txt K mg t):aA P w K mg base CX0 4 t.a_K t.d_K ["deeds"] (aU K F_K):=by
 have G_J:=@y9 P w _ _ base _ T;refine T.F_K.F.okD MM (λds Q h=>?_) (λ_ _ _ _ H O ds Q E hr h=>?_)
 ·obtain⟨ps,h | h,_⟩:=h <;> subst h <;> rfl
 ·obtain⟨xs,e,gd,q⟩:=h;refine'⟨_,?A,?B⟩
  case A=>
   refine' aw ?C
   case' C=>refine' aR ?D
   case D=>exact(fe (C4 gQ rfl G_J (bp.in1 (bp.in1 (hr.mono Yq))) T.F_J.b rfl T.F_J.m rfl T.n_sorted Tn (bj (df (fe (Lw rfl EC (df (dv 0)) aL bM Yq (λ_ _ _ _=>(aK (i:=0) EC.nd rfl Yu)) (λ_ _ _ _=>(cZ (aQ (cz hr) cA (df (ak aG aM (df (dv 0)) (df af))) (df aX) (aF _)))) (λ_ _ _ _=>(dv 0))))) br)))
  case B=>
  clear hr T G_J;have ln:=gd.ln;have pl:=gd.gp.ln;have step:∀x∈xs,∀(R:Yw->Prop)(S:Prop),(if iV (λ_=>true) x=true then R x.enc else S)->(if (x.w==QU "paper")=true then R x.enc else S):=λx hx R S h=>by
   cases x with
   | pap p=>exact h
   | oth w d nm r=>
    rw [show((De.oth w d nm r).w==QU "paper")=false from cf (gd.np w d nm r hx),Ys Q5];rw [Ys (show ¬iV (λ_=>true) (.oth w d nm r)=true from Q5)] at h;exact h
  have fin:∀ds':List Yw,ds'.Perm ((aC xs).map Pp.enc)->ds'.Pairwise (λa b=>aY (gQ a) (gQ b)=true)->Q (.list ds'):=λds' h1 h2=>by
   rw [Np gd.gp.nd h1 h2];exact q
  have tail:(∀d∈(aC xs).map Pp.enc,∀R:Yw->Prop,R (cx (gQ d))->x9 [d] R)/\((aC xs).map Pp.enc).length < 64/\(((aC xs).map Pp.enc).map gQ).Nodup:=by
   refine⟨λd hd R z=>Nv hd R z,by rw [QW];omega,?_⟩;rw [Rm];exact EI gd.gp.nd
  rcases e with e | e <;> subst e <;> walk_at "d"
  ·refine⟨by rw [QW];omega,cX (iV λ_=>true) De.enc (λx hx R S h=>?_) ?_⟩
   ·have h:=step x hx R S h;cases x <;> simp only [De.enc,De.w,Pp.enc] at h⊢<;> walk_at "d" <;> exact h
   ·rw [pR,fK];exact⟨tail.1,tail.2.1,tail.2.2,fin⟩
  ·refine⟨by rw [QW];omega,cX (iV λ_=>true) De.enc (λx hx R S h=>?_) ?_⟩
   ·have h:=step x hx R S h;cases x <;> simp only [De.enc,De.w,Pp.enc] at h⊢<;> walk_at "d" <;> exact h
   ·rw [pR,fK];exact⟨tail.1,tail.2.1,tail.2.2,fin⟩
def Nw:List Yw->(Yw->Prop)->Prop:=λds Q=>∃(xs:List De)(c:Pp),ds=[.tuple (xs.map De.enc),.str c.nm]/\gS xs/\c∈aC xs/\Q c.enc
theorem z4(T:Txt K mg t):aA P w K mg base CX0 1 t.a_L t.d_L ["deeds","paper"] (aU K Nw):=by
 refine T.F_L.F.okD D2 (λds Q h=>?_) (λ_ _ _ _ H O ds Q E hr h=>?_)
 ·obtain⟨ps,c,rfl,_⟩:=h;rfl
 ·obtain⟨xs,c,rfl,gd,hc,q⟩:=h;refine'⟨_,?A,?B⟩
  case A=>
   refine' ao ?C ?D
   case C=>
    refine' ph RU rfl (dv 0) ?E aL ?F
    case E=>exact(aK (i:=2) D2.nd rfl Yu)
    case' F=>refine' aw ?G
    case' G=>refine' bJ ?H ?I bI
    case H=>exact(PW.pt (fC (aQ (cz hr) cA (df (ak aG aM (df (dv 2)) (df af))) (df aX) (aF _)) (fB (aQ (cD hr.units) cE (df (ak aG aM (df (dv 2)) (df af))) (df (dv 1)) (aF _)))))
    case' I=>refine' aw ?J
    case J=>exact(aR (dv 2))
   case D=>refine' aw KI
  case B=>
  clear hr T;walk_at "d";refine⟨λi δ=>(∀x∈aC (xs.take i),x.nm≠c.nm)/\∃o2,δ=[some (Sl.v (.tuple (xs.map De.enc))),some (Sl.v (.str c.nm)),o2],⟨by simp [aC],_,rfl⟩,?_,?_⟩
  ·rintro i z δ hz ⟨hn,o2,rfl⟩;rw [Q9] at hz;cases hz':xs[i]? with
   | none=>rw [hz'] at hz;cases hz
   | some x=>
    rw [hz'] at hz;cases hz;have hx:=RA hz';cases x with
    | pap p=>
     simp only [De.enc,Pp.enc];walk_at "d";refine⟨cL.mpr (gd.nm _ hx),cL.mpr (gd.gp.nm c hc),?_⟩;split
     ·rename_i h;have e:=Nq gd.gp.nd (EA.mpr hx) hc (eq_of_beq h);subst e;exact q
     ·rename_i h;refine⟨λy hy=>?_,_,rfl⟩;rw [RT,hz'] at hy;unfold aC at hy;rw [VG] at hy;rcases Rj.mp hy with z | z
      ·exact hn y z
      ·have:y=p:=by simpa [De.pp] using z
       rw [this];exact λe=>h (by rw [e];exact beq_self_eq_true _)
    | oth w d nm r=>
     simp only [De.enc];walk_at "d";rw [cf (gd.np w d nm r hx),Ys Q5];refine⟨λy hy=>?_,_,rfl⟩;rw [RT,hz'] at hy;unfold aC at hy;rw [VG] at hy;rcases Rj.mp hy with z | z
     ·exact hn y z
     ·simp [De.pp] at z
  ·rintro δ ⟨hn,o2,rfl⟩;rw [QW,Rz (QY _)] at hn;exact absurd rfl (hn c hc)
def F_M:List Yw->(Yw->Prop)->Prop:=λds Q=>∃xs:List De,ds=[.tuple (xs.map De.enc)]/\gS xs/\Q (.tuple (((bu (aC xs)).map (·.nm)).map .str))
theorem z5(T:Txt K mg t):aA P w K mg base CX0 5 t.a_M t.d_M ["deeds"] (aU K F_M):=by
 have G_K:=@z3 P w _ _ base _ T;refine T.F_M.F.okD MN (λds Q h=>?_) (λ_ _ _ _ H O ds Q E hr h=>?_)
 ·obtain⟨ps,rfl,_⟩:=h;rfl
 ·obtain⟨xs,rfl,gd,q⟩:=h;refine'⟨_,?A,?B⟩
  case A=>
   refine' aw ?C
   case' C=>refine' aR ?D
   case D=>exact(PE.imp (cU fP rfl T.n_tuple fR (bj (df (fe (eF rfl ED (df (PE.imp (aE G_K (hr.mono Yq) rfl T.F_K (aa (dv 0) aj)) aN)) aL bM Yq (λ_ _ _ _=>(aK (i:=0) ED.nd rfl Yu)) (λ_ _ _ _=>dj) (λ_ _ _ _=>(ak aG aM (df (dv 0)) (df af)))))) br)) (bz fV))
  case B=>
  clear hr T G_K;walk_at "d";refine⟨xs,.inr rfl,gd,_,rfl,by rw [QW,iS];have:=gd.gp.ln;omega,cX (λ_=>true) (λp:Pp=>.str p.nm) (λx hx R S h=>?_) ?_⟩
  ·simp only [Pp.enc];walk_at "d";rw [Yt rfl] at h;exact h
  ·rw [fK];rw [Rm] at q;exact q
def Nx:List Yw->(Yw->Prop)->Prop:=λds Q=>∃(xs:List De)(c:Pp),ds=[.tuple (xs.map De.enc),c.enc]/\gS xs/\c∈aC xs/\Q (.list ((eT (aC xs) c).map Pp.enc))
theorem EJ(T:Txt K mg t):aA P w K mg base CX0 5 t.a_N t.d_N ["deeds","coming"] (aU K Nx):=by
 have G_K:=@z3 P w _ _ base _ T;have G_J:=@y9 P w _ _ base _ T;refine T.F_N.F.okD D3 (λds Q h=>?_) (λ_ _ _ _ H O ds Q E hr h=>?_)
 ·obtain⟨ps,c,rfl,_⟩:=h;rfl
 ·obtain⟨xs,c,rfl,gd,hc,q⟩:=h;refine'⟨_,?A,?B⟩
  case A=>
   refine' ao ?C ?D
   case C=>exact(ic (i:=2) D3.nd rfl Yu (nc rfl EF (df (dv 0)) aL bM Yq (λ_ _ _ _=>(aK (i:=0) EF.nd rfl Yu)) (λ_ _ _ _=>(cZ (PW.pt (fC (aQ (cz hr) cA (df (ak aG aM (df (dv 0)) (df af))) (df aX) (aF _)) (fB (aQ (Ck hr) vL (df (ak aG aM (df (dv 0)) (df af))) (df (ak aG aM (df (dv 1)) (df af))) rfl)))))) (λ_ _ _ _=>(dv 0))))
   case' D=>refine' aw ?E
   case' E=>refine' aR ?F
   case F=>exact(PE.imp (aE G_K (hr.mono Yq) rfl T.F_K (aa (fe (eF rfl EG (df (dv 2)) aL bM Yq (λ_ _ _ _=>(aK (i:=0) EG.nd rfl Yu)) (λ_ _ _ _=>(cZ (aQ (Lp hr.units0) Lq (df (PE.imp (aE G_J (hr.mono Yq) rfl T.F_J (aa (dv 0) aj)) aN)) (df (PE.imp (aE G_J (hr.mono Yq) rfl T.F_J (aa (dv 1) aj)) aN)) (aF _)))) (λ_ _ _ _=>(dv 0)))) aj)) aN)
  case B=>
  clear hr T G_K G_J;have ln:=gd.ln;have pl:=gd.gp.ln;obtain⟨hm1,hm2⟩:=gd.gp.ms c hc;walk_at "d";refine⟨by rw [QW];omega,cX (iV λp=>c.ms.contains p.nm) De.enc (λx hx R S h=>?_) ?_⟩
  ·cases x with
   | pap p=>
    simp only [De.enc,Pp.enc];walk_at "d";refine⟨cL.mpr (gd.nm _ hx),Nu hm1,?_⟩;rw [Nt];exact h
   | oth w d nm r=>
    simp only [De.enc];walk_at "d";rw [cf (gd.np w d nm r hx),Ys Q5];rw [Ys (show ¬iV _ (.oth w d nm r)=true from Q5)] at h;exact h
  ·rw [pR];have fl:=RJ (λp:Pp=>c.ms.contains p.nm) (aC xs);refine⟨by rw [QW];omega,cX (λp=>aY p.key c.key) Pp.enc (λx hx R S h=>?_) ?_⟩
   ·walk_at "d";exact⟨.pap x,rfl,.pap c,rfl,x.key,rfl,c.key,rfl,h⟩
   ·rw [Nr];refine⟨_,.inl rfl,gS.of ((gd.gp.filter _).filter _),?_⟩;rw [EB,Ez (xX gd.gp.nd),Ez gd.gp.nd,Xj];have e:(bu (aC xs)).filter (λa=>aY a.key c.key && c.ms.contains a.nm)=eT (aC xs) c:=by
     unfold eT xY;congr 1;funext a;rw [X5]
    rw [e];exact q
theorem z6{ps:List Pp}{c:Pp}(g:iT ps):(eT ps c).length<=41:=by
 unfold eT;have h1:=RJ (xY c) (bu ps);have h2:=iS (ps:=ps);have h3:=g.ln;omega
def F_O:List Yw->(Yw->Prop)->Prop:=λds Q=>∃(xs:List De)(c:Pp),ds=[.tuple (xs.map De.enc),.str c.nm]/\gS xs/\c∈aC xs/\Q (.tuple (((eT (aC xs) c).map (·.nm)).map .str))
theorem Ny(T:Txt K mg t):aA P w K mg base CX0 6 t.a_O t.d_O ["deeds","paper"] (aU K F_O):=by
 have G_N:=@EJ P w _ _ base _ T;have G_L:=@z4 P w _ _ base _ T;refine T.F_O.F.okD MO (λds Q h=>?_) (λ_ _ _ _ H O ds Q E hr h=>?_)
 ·obtain⟨ps,c,rfl,_⟩:=h;rfl
 ·obtain⟨xs,c,rfl,gd,hc,q⟩:=h;refine'⟨_,?A,?B⟩
  case A=>
   refine' aw ?C
   case' C=>refine' aR ?D
   case D=>exact(PE.imp (cU fP rfl T.n_tuple fR (bj (df (fe (eF rfl EH (df (PE.imp (aE G_N (hr.mono Yq) rfl T.F_N (aa (dv 0) (aa (PE.imp (aE G_L (hr.mono Yq) rfl T.F_L (aa (dv 0) (aa (dv 1) aj))) aN) aj))) aN)) aL bM Yq (λ_ _ _ _=>(aK (i:=0) EH.nd rfl Yu)) (λ_ _ _ _=>dj) (λ_ _ _ _=>(ak aG aM (df (dv 0)) (df af)))))) br)) (bz fV))
  case B=>
  clear hr T G_N G_L;walk_at "d";refine⟨xs,c,rfl,gd,hc,xs,c,rfl,gd,hc,⟨_,rfl,by rw [QW];have:=z6 (c:=c) gd.gp;omega,cX (λ_=>true) (λp:Pp=>.str p.nm) (λx hx R S h=>?_) ?_⟩⟩
  ·simp only [Pp.enc];walk_at "d";rw [Yt rfl] at h;exact h
  ·rw [fK];rw [Rm] at q;exact q
end
local macro_rules | `(tactic| walk_at "e") =>rzT (rzS++" Sl.i.injEq exists_and_left")
theorem EK:bb (av tK) ["self","deeds","name","coming"] ["deed","name"] 1 [2] ⟨Q3,[ (QX ".0",aab),(QX "deed",aab),(QX "name",Rb)],false,false,[]⟩:=⟨rfl,Yp,Yp,Yp,rfl,Yp,Yp,Yp,rfl⟩
theorem z7:bb (av tT) ["paper","happening"] ["day","other","happening"] 2 [1] ⟨Q3,[ (QX ".0",aab),(QX "day",aab),(QX "other",aab),(QX "happening",Rb)],false,false,[]⟩:=⟨rfl,Yp,Yp,Yp,rfl,Yp,Yp,Yp,rfl⟩
section
variable {P:YI} {w:YJ} {K:QV} {mg:Str->Option Yx} {base:YK} {t:cg}
inductive bW where
 | com
 | fst (wd:Str)
 | lst (wd:Str)
def bW.enc:bW->Yw
 | .com=>.tuple [.str (QU "coming")]
 | .fst wd=>.tuple [.str (QU "first"),.str wd]
 | .lst wd=>.tuple [.str (QU "last"),.str wd]
def bW.Ok:bW->Prop
 | .com=>True
 | .fst wd=>Q2 wd=true
 | .lst wd=>Q2 wd=true
inductive Pt where
 | two (w kd:Str)
 | five (w kd:Str) (s:bW) (k:Int) (u:Str)
def Pt.enc:Pt->Yw
 | .two w kd=>.tuple [.str w,.str kd]
 | .five w kd s k u=>.tuple [.str w,.str kd,s.enc,.int k,.str u]
def KG(w:Str):Prop:=w=QU "keep"\/w=QU "gone"
def Pt.Ok:Pt->Prop
 | .two w kd=>¬KG w/\Q2 w=true/\Q2 kd=true
 | .five w kd s k u=>KG w/\Q2 kd=true/\s.Ok/\0<=k/\k < 1000/\oC u
def De.isR:De->Bool
 | .oth w _ _ _=>w==QU "rule"
 | _=>false
def De.isH:De->Bool
 | .oth w _ _ _=>w==QU "happens"
 | _=>false
def De.isE:De->Bool
 | .oth w _ _ _=>w==QU "rule" || w==QU "end"
 | _=>false
structure ij (xs:List De):Prop where
 gx:gS xs
 hp:∀d nm r,De.oth (QU "happens") d nm r∈xs->∃wd,r=[.str wd]/\Q2 wd=true
 ru:∀d nm r,De.oth (QU "rule") d nm r∈xs->∃pt:Pt,r=[pt.enc]/\pt.Ok
 nd:xs.Nodup
 d0:∀x∈xs,0<=x.d/\x.d < 100000
 re:∀x∈xs,∀y∈xs,x.isE=true->y.isE=true->x.d=y.d->x.nm=y.nm->x=y
def dD(nm:Str):De->Bool
 | .oth w _ n _=>w==QU "happens" && n==nm
 | _=>false
def z9:De->Int×Str
 | .oth _ d _ [.str wd]=>(d,wd)
 | x=>(x.d,QU "")
def dW(xs:List De)(nm:Str):List (Int×Str):=(xs.filter (dD nm)).map z9
theorem Nz{xs:List De}(g:ij xs)(nm:Str):(dW xs nm).Nodup:=by
 unfold dW;rw [VM,Sm];refine List.Pairwise.imp_of_mem (λ{a b} ha hb h e=>?_) (g.nd.sublist U9);obtain⟨a1,a2⟩:=RP.mp ha;obtain⟨b1,b2⟩:=RP.mp hb;cases a with
 | pap p=>cases a2
 | oth w d n r=>
  cases b with
  | pap p=>cases b2
  | oth w' d' n' r'=>
   simp only [dD,R5,beq_iff_eq] at a2 b2;obtain⟨rfl,rfl⟩:=a2;obtain⟨rfl,rfl⟩:=b2;obtain⟨wd,rfl,_⟩:=g.hp _ _ _ a1;obtain⟨wd',rfl,_⟩:=g.hp _ _ _ b1;simp only [z9,VA] at e;exact h (by rw [e.1,e.2])
structure Rp where
 c:Pp
 ts:List Str
 hs:List (Int×Str)
def Rp.enc(C:Yz)(r:Rp):Yw:=Dd C [(QU "name",.str r.c.nm),(QU "coming",.int r.c.d),(QU "kind",.str r.c.kd),(QU "makers",.tuple (r.ts.map .str)),(QU "happenings",.list (r.hs.map cx))]
open Classical in
def gT(l:List (Int×Str)):List (Int×Str):=if h:∃s:List (Int×Str),s.Perm l/\s.Pairwise (λa b=>aY a b=true) then h.choose else []
theorem Aa{s l:List (Int×Str)}(h1:s.Perm l)(h2:s.Pairwise λa b=>aY a b=true):s=gT l:=by
 unfold gT;have h:∃s:List (Int×Str),s.Perm l/\s.Pairwise (λa b=>aY a b=true):=⟨s,h1,h2⟩;rw [dif_pos h];exact nJ (λa b z=>uo z) (h1.trans h.choose_spec.1.symm) h2 h.choose_spec.2
theorem NA{l l':List (Int×Str)}(p:l.Perm l'):gT l=gT l':=by
 by_cases h:∃s:List (Int×Str),s.Perm l/\s.Pairwise (λa b=>aY a b=true)
 ·obtain⟨s,h1,h2⟩:=h;rw [<-Aa h1 h2,<-Aa (h1.trans p) h2]
 ·have h':¬ ∃s:List (Int×Str),s.Perm l'/\s.Pairwise (λa b=>aY a b=true):=λ⟨s,h1,h2⟩=>h ⟨s,h1.trans p.symm,h2⟩;unfold gT;rw [dif_neg h,dif_neg h']
def eU(xs:List De)(c:Pp):Rp:=⟨c,(eT (aC xs) c).map (·.nm),gT (dW xs c.nm)⟩
theorem jv{f g:Str}{d x:Yw}{r:List (Str×Yw)}(h:g≠f):dB f d ((g,x)::r)=(g,x)::dB f d r:=by rw [dB,Ys h]
theorem NB{a b:Yw}:dB (QU "coming") b (dB (QU "name") a [])=[(QU "name",a),(QU "coming",b)]:=by
 rw [show dB (QU "name") a []=[(QU "name",a)] from rfl,jv Yp];rfl
theorem NC{a b c:Yw}:dB (QU "kind") c [(QU "name",a),(QU "coming",b)]=[(QU "name",a),(QU "coming",b),(QU "kind",c)]:=by
 rw [jv Yp,jv Yp];rfl
theorem ND{a b c d:Yw}:dB (QU "makers") d [(QU "name",a),(QU "coming",b),(QU "kind",c)]=[(QU "name",a),(QU "coming",b),(QU "kind",c),(QU "makers",d)]:=by
 rw [jv Yp,jv Yp,jv Yp];rfl
theorem NF{a b c d e:Yw}:dB (QU "happenings") e [(QU "name",a),(QU "coming",b),(QU "kind",c),(QU "makers",d)]=[(QU "name",a),(QU "coming",b),(QU "kind",c),(QU "makers",d),(QU "happenings",e)]:=by
 rw [jv Yp,jv Yp,jv Yp,jv Yp];rfl
def NG(C:Yz):List Yw->(Yw->Prop)->Prop:=λds Q=>∃(xs:List De)(c:Pp),ds=[.tuple (xs.map De.enc),.str c.nm]/\ij xs/\c∈aC xs/\((∀z,z∈gT (dW xs c.nm)↔z∈dW xs c.nm)->(gT (dW xs c.nm)).Pairwise (λa b=>aY a b=true)->(gT (dW xs c.nm)).length<=41->Q ((eU xs c).enc C))
theorem EL(T:Txt K mg t):aA P w K mg base CX0 7 t.a_I t.d_I ["self","deeds","name"] (qQ K t.u_Paper (NG t.u_Paper)):=by
 have G_L:=@z4 P w _ _ base _ T;have G_O:=@Ny P w _ _ base _ T;refine T.F_I.F.okI D1 (λds Q h=>?_) (λcdv A outer s H H1 O ds Q E l hr h=>?_)
 ·obtain⟨xs,c,rfl,_⟩:=h;rfl
 ·obtain⟨xs,c,rfl,gd,hc,q⟩:=h;refine'⟨_,?A,?B⟩
  case A=>
   refine' ao ?C ?D
   case C=>exact(bg (i:=3) D1.nd rfl Yu (PE.imp (aE G_L (hr.mono Yq) rfl T.F_L (aa (dv 1) (aa (dv 2) aj))) aN))
   case' D=>refine' ao ?E ?F
   case E=>exact(fI (C:=t.u_Paper) (i:=0) T.cl_Paper T.na_Paper_name (pv 0) (ak aG aM (df (dv 3)) (df af)))
   case' F=>refine' ao ?G ?H
   case G=>exact(fI (C:=t.u_Paper) (i:=0) T.cl_Paper T.na_Paper_coming (pv 0) (ak aG aM (df (dv 3)) (df af)))
   case' H=>refine' ao ?I ?J
   case I=>exact(fI (C:=t.u_Paper) (i:=0) T.cl_Paper T.na_Paper_kind (pv 0) (ak aG aM (df (dv 3)) (df af)))
   case' J=>refine' ao ?K ?L
   case K=>exact(fI (C:=t.u_Paper) (i:=0) T.cl_Paper T.na_Paper_makers (pv 0) (PE.imp (aE G_O (hr.mono Yq) rfl T.F_O (aa (dv 1) (aa (dv 2) aj))) aN))
   case' L=>refine' aw ?M
   case M=>exact(fI (C:=t.u_Paper) (i:=0) T.cl_Paper T.na_Paper_happenings (pv 0) (fe (Ln rfl T.n_sorted Tn (bj (df (fe (j2 rfl EK (df (dv 1)) aL bM Yq (λ_ _ _ _=>(aK (i:=0) EK.nd rfl Yu)) (λ_ _ _ _=>(cZ (PW.pt (fC (aQ (cz hr) cA (df (ak aG aM (df (dv 0)) (df af))) (df aX) (aF _)) (fB (aQ (cD hr.units) cE (df (ak aG aM (df (dv 0)) (df af))) (df (dv 1)) (aF _))))))) (λ_ _ _ _=>(bH (aa (ak aG aM (df (dv 0)) (df af)) (aa (ak aG aM (df (dv 0)) (df af)) aj))))))) br))))
  case B=>
  clear hr T G_L G_O;simp only [tf,eJ,Q0,RW,Sd,R7,VS,Q8,RR,SM,SN,Ri];walk_at "e";refine⟨xs,c,rfl,gd.gx,hc,?_⟩;simp only [Pp.enc];walk_at "e";simp only [NB,NC,ND,NF];have ln:=gd.gx.ln;have lt:∀n:Nat,n < 10->n < 1000:=λn h=>by omega
  refine⟨lt 1 Yq,lt 2 Yq,xs,c,rfl,gd.gx,hc,⟨lt 3 Yq,by rw [QW];omega,iU (dD c.nm) (λx=>cx (z9 x)) (λx hx R S h1 h0=>?_) ?_⟩⟩
  ·cases x with
   | pap p=>
    simp only [De.enc,Pp.enc];walk_at "d";exact h0 rfl
   | oth w d nm r=>
    simp only [De.enc];walk_at "d";by_cases e:w=QU "happens"
    ·subst e;obtain⟨wd,rfl,_⟩:=gd.hp _ _ _ hx;rw [Yt (beq_self_eq_true _)];refine⟨cL.mpr (gd.gx.nm _ hx),cL.mpr (gd.gx.gp.nm c hc),?_⟩;split
     ·rename_i h2;exact⟨_,fE,h1 (by simp only [dD,beq_self_eq_true,SA];exact h2)⟩
     ·rename_i h2;exact h0 (by simp only [dD,beq_self_eq_true,SA];simpa using h2)
    ·rw [cf e,Ys Q5];exact h0 (by simp only [dD,cf e,U1])
  ·have hl:(dW xs c.nm).length<=41:=by
    unfold dW;rw [QW];have:=RJ (dD c.nm) xs;omega
   refine⟨dW xs c.nm,by unfold dW;rw [Rm];rfl,Yr,Nz gd c.nm,λhs h1 h2=>⟨lt 4 Yq,?_⟩⟩;have e:=Aa h1 h2;have q:=q (λz=>by rw [<-e];exact h1.mem_iff) (by rw [<-e];exact h2) (by rw [<-e,h1.length_eq];exact hl);rw [e];exact q
def qY(hs:List (Int×Str)):Prop:=hs.length<=41/\∀z∈hs,Q2 z.2=true
def dX(hs:List (Int×Str))(wd:Str):List Int:=(hs.filter λz=>z.2==wd).map (·.1)
def F_V(C:Yz):List Yw->(Yw->Prop)->Prop:=λds Q=>∃(r:Rp)(wd:Str),ds=[r.enc C,.str wd]/\qY r.hs/\Q2 wd=true/\Q (.list ((dX r.hs wd).map .int))
theorem NH{a b c d e:Yw}:bh [QU "name",QU "coming",QU "kind",QU "makers",QU "happenings"] [a,b,c,d,e] (QU "happenings")=some e:=by
 simp only [bh];rw [Ys Yp,Ys Yp,Ys Yp,Ys Yp,Yt trivial]
theorem ur{a b c d e:Yw}:bh [QU "name",QU "coming",QU "kind",QU "makers",QU "happenings"] [a,b,c,d,e] (QU "coming")=some b:=by
 simp only [bh];rw [Ys Yp,Yt trivial]
theorem uu{a b c d e:Yw}:bh [QU "name",QU "coming",QU "kind",QU "makers",QU "happenings"] [a,b,c,d,e] (QU "kind")=some c:=by
 simp only [bh];rw [Ys Yp,Ys Yp,Yt trivial]
theorem EM(T:Txt K mg t):aA P w K mg base CX0 1 t.a_V t.d_V ["paper","happening"] (aU K (F_V t.u_Paper)):=by
 refine T.F_V.F.okD MS (λds Q h=>?_) (λ_ _ _ _ H O ds Q E hr h=>?_)
 ·obtain⟨r,wd,rfl,_⟩:=h;rfl
 ·obtain⟨r,wd,rfl,⟨hl,hok⟩,wok,q⟩:=h;refine'⟨_,?A,?B⟩
  case A=>
   refine' aw ?C
   case' C=>refine' aR ?D
   case' D=>refine' fe ?E
   case E=>exact(eF rfl z7 (df (cb (C:=t.u_Paper) T.cl_Paper T.na_Paper_happenings (dv 0))) (gJ (b0 aL (b0 aL gI))) vY Yq (λ_ _ _ _=>(gB (n:=2) rfl (bY (aK (i:=0) z7.nd rfl Yu) (bY (aK (i:=1) z7.nd rfl Yu) gA)))) (λ_ _ _ _=>(cZ (aQ (cD hr.units) cE (df (dv 1)) (df (dv 2)) (aF _)))) (λ_ _ _ _=>(dv 0)))
  case B=>
  clear hr T;walk_at "d";refine⟨[QU "name",QU "coming",QU "kind",QU "makers",QU "happenings"],_,rfl,_,NH,_,rfl,by rw [QW];omega,cX (λz:Int×Str=>z.2==wd) (λz=>.int z.1) (λx hx R S h=>?_) ?_⟩
  ·simp only [cx];walk_at "d";exact⟨cL.mpr (hok x hx),cL.mpr wok,h⟩
  ·unfold dX at q;rw [Rm] at q;exact q
end
theorem EN:bb (av tP) ["deeds","words","day","found","deed","known"] ["name","found"] 1 [3] ⟨Q3,[ (QX ".0",aab),(QX "name",aab),(QX "found",Rb)],false,false,[]⟩:=⟨rfl,Yp,Yp,Yp,rfl,Yp,Yp,Yp,rfl⟩
section
variable {P:YI} {w:YJ} {K:QV} {mg:Str->Option Yx} {base:YK} {t:cg}
def F_Q:List Yw->(Yw->Prop)->Prop:=λds Q=>∃(xs:List Rw)(ws:List Str)(n:Int),ds=[.tuple (xs.map Rw.enc),.tuple (ws.map .str),.int n]/\(∀x∈xs,Q2 x.w=true)/\SH (ws.map .str)=true/\xs.length < 64/\∀res,fk ws n xs res->Q (.list (res.map Rw.enc))
theorem NI{ws:List Str}{w:Str}:((ws.map QZ).any λd=>Rr d (.str w))=decide (w∈ws):=by
 induction ws with
 | nil=>simp
 | cons a ws ih=>
  rw [Q0,Se,ih,dQ];by_cases h:a=w
  ·simp [h]
  ·have h':(a==w)=false:=by simpa using h
   rw [h'];simp [Ne.symm h]
theorem EO(T:Txt K mg t):aA P w K mg base CX0 1 t.a_Q t.d_Q ["deeds","words","day"] (aU K F_Q):=by
 refine T.F_Q.F.okD ui (λds Q h=>?_) (λ_ _ _ _ H O ds Q E hr h=>?_)
 ·obtain⟨xs,ws,n,rfl,_⟩:=h;rfl
 ·obtain⟨xs,ws,n,rfl,hw,hws,h64,q⟩:=h;refine'⟨_,?A,?B⟩
  case A=>
   refine' ao ?C ?D
   case C=>exact(vP (i:=3) ui.nd rfl Yu vO)
   case' D=>refine' ao ?E ?F
   case E=>
    refine' ph RU rfl (dv 0) ?G aL ?H
    case G=>exact(aK (i:=4) ui.nd rfl Yu)
    case' H=>refine' aw ?I
    case' I=>refine' bJ ?J ?K bI
    case J=>exact(PW.pt (fC (aQ (Ck hr) vL (df (ak aG aM (df (dv 4)) (df af))) (df (dv 1)) rfl) (fB (aQ lR di (df (ak aG aM (df (dv 4)) (df af))) (df (dv 2)) (aF _)))))
    case' K=>refine' ao ?L ?M
    case L=>exact(bg (i:=5) ui.nd rfl Yu (KL (i:=3) hr.units (pv 3) (ak aG aM (df (dv 4)) (df af)) ⟨rfl,rfl,rfl,rfl⟩))
    case' M=>refine' aw ?N
    case' N=>refine' bJ ?O ?P bI
    case O=>exact(PW.pt (sI (aQ qr qN (df (dv 5)) (df gE) (aF _)) (sH (aQ rR di (df (ak aG aM (df (dv 5)) (df af))) (df (ak aG aM (df (dv 4)) (df af))) (aF _)))))
    case' P=>refine' aw ?Q
    case Q=>exact(vQ (i:=3) hr.units (pv 3) (ak aG aM (df (dv 4)) (df af)) (dv 4))
   case' F=>refine' aw ?R
   case' R=>refine' aR ?S
   case' S=>refine' fe ?T
   case T=>exact(eF rfl EN (df (fe (KP (i:=3) rfl rfl T.n_sorted Tn (pv 3)))) aL bM Yq (λ_ _ _ _=>(aK (i:=0) EN.nd rfl Yu)) (λ_ _ _ _=>dj) (λ_ _ _ _=>(KJ (i:=1) hr.units (pv 1) (dv 0) (λ_ _=>rfl))))
  case B=>
  clear hr T;walk_at "d";refine⟨λi δ=>∃L o4 o5,fj ws n (xs.take i) L/\δ=[some (Sl.v (.tuple (xs.map Rw.enc))),some (Sl.v (.tuple (ws.map .str))),some (Sl.v (.int n)),some (Sl.k (ie L)),o4,o5],⟨[],_,_,fj.nil _ _,rfl⟩,?_,?_⟩
  ·rintro i x δ hx ⟨L,o4,o5,hL,rfl⟩;rw [Q9] at hx;cases hx':xs[i]? with
   | none=>rw [hx'] at hx;cases hx
   | some y=>
    rw [hx'] at hx;cases hx;have hy:y∈xs:=RA hx';have tk:xs.take (i+1)=xs.take i++[y]:=by rw [RT,hx'];rfl
    simp only [Rw.enc];walk_at "d";have hle:L.length < 64:=by have:=hL.le;rw [RI] at this;omega
    have hk:(ie L).length < 16777216:=by unfold ie;rw [QW];omega
    have en:RB (QZ y.w::Rv y.n::QZ y.nm::y.r)=y.enc:=rfl;refine⟨cL.mpr (hw y hy),hws,?_⟩;rw [NI];by_cases hin:y.w∈ws
    ·rw [Yt (decide_eq_true hin)];by_cases hn:y.n<=n
     ·rw [Yt hn,vR,en];cases hl:dR L y.nm with
      | none=>
       rw [Yt (show eO ((Option.map Rw.enc none).getD UW)=true from rfl)];exact⟨hk,_,by rw [tk];exact hL.put ⟨hin,hn⟩ (λz e=>by rw [hl] at e;cases e),CF L y.nm y,_,rfl⟩
      | some z=>
       rw [Ys (by simp [eO,Rw.enc])];refine⟨_,rfl,_,eM,_,rfl,?_⟩;split
       ·rename_i hlt;exact⟨hk,_,by rw [tk];exact hL.put ⟨hin,hn⟩ (λz' e=>by rw [hl] at e;cases e;exact hlt),CF L y.nm y,_,rfl⟩
       ·rename_i hlt;exact⟨L,by rw [tk];exact hL.keep hl hlt,rfl,_,rfl⟩
     ·rw [Ys hn];exact⟨L,by rw [tk];exact hL.skip (λz=>hn z.2),rfl,_,rfl⟩
    ·rw [Ys (by simpa using hin)];exact⟨L,by rw [tk];exact hL.skip (λz=>hin z.1),rfl,_,rfl⟩
  ·rintro δ ⟨L,o4,o5,hL,rfl⟩;walk_at "d";rw [QW,Rz (QY _)] at hL;have hle:L.length < 64:=by have:=hL.le;omega
   refine⟨L.map (·.1),by unfold ie;rw [Rm,Rm];rfl,by rw [QW];exact hle,by rw [QW,(kC _).length_eq,QW];omega,?_⟩;refine Ky (λx=>match x with | .str nm=>((dR L nm).map Rw.enc).getD .none | _=>.none) (λx hx R hR=>?_) ?_
   ·obtain⟨nm,hnm,rfl⟩:=Rf.mp hx;obtain⟨z,hz⟩:=vS ((kC _).mem_iff.mp hnm);walk_at "d";refine⟨z.enc,by rw [vR,hz];rfl,?_⟩;have hR:R (((dR L nm).map Rw.enc).getD .none):=hR;rw [hz] at hR;exact hR
   ·have e:∀l:List Str,(∀a∈l,a∈L.map (·.1))->(l.map QZ).map (λx=>match x with | .str nm=>((dR L nm).map Rw.enc).getD .none | _=>.none)=(l.filterMap (dR L)).map Rw.enc:=by
     intro l
     induction l with
     | nil=>intro _;rfl
     | cons a l ih=>
      intro hl;obtain⟨z,hz⟩:=vS (hl a Yv);rw [Q0,Q0,SD,hz,ih λb hb=>hl b (by simp [hb])];simp [hz]
    rw [e _ λa ha=>(kC _).mem_iff.mp ha];exact q _ hL.res
end
theorem ER:bb (av tQ) ["deeds","day"] ["deed"] 1 [] ⟨Q3,[(QX ".0",aab),(QX "deed",aab)],false,false,[]⟩:=⟨rfl,Yp,Yp,Yp,rfl,Yp,Yp,Yp,rfl⟩
section
variable {P:YI} {w:YJ} {K:QV} {mg:Str->Option Yx} {base:YK} {t:cg}
def iW:List Str:=["rule","end"]
def lI(res:List Rw):List Yw:=(res.filter λx=>x.w==QU "rule").map λx=>.tuple [.str x.nm,x.r.headD .none]
structure ES (xs:List Rw):Prop where
 st:∀x∈xs,Q2 x.w=true
 ru:∀x∈xs,x.w=QU "rule"->∃p,x.r=[p]
 le:xs.length < 64
def NJ:List Yw->(Yw->Prop)->Prop:=λds Q=>∃(xs:List Rw)(n:Int),ds=[.tuple (xs.map Rw.enc),.int n]/\ES xs/\∀res,fk iW n xs res->Q (.tuple (lI res))
theorem NK(T:Txt K mg t):aA P w K mg base CX0 2 t.a_R t.d_R ["deeds","day"] (aU K NJ):=by
 have G_Q:=@EO P w _ _ base _ T;refine T.F_R.F.okD MP (λds Q h=>?_) (λ_ _ _ _ H O ds Q E hr h=>?_)
 ·obtain⟨xs,n,rfl,_⟩:=h;rfl
 ·obtain⟨xs,n,rfl,ok,q⟩:=h;refine'⟨_,?A,?B⟩
  case A=>
   refine' aw ?C
   case' C=>generalize hG2:Yn _ _ _ _=eg2
   refine' aR ?D
   case' D=>subst hG2
   exact(PE.imp (cU fP rfl T.n_tuple fR (bj (df (fe (eF rfl ER (df (PE.imp (aE G_Q (hr.mono Yq) rfl T.F_Q (aa (dv 0) (aa (bH (aa aX (aa aX aj))) (aa (dv 1) aj)))) aN)) aL bM Yq (λ_ _ _ _=>(aK (i:=0) ER.nd rfl Yu)) (λ_ _ _ _=>(cZ (aQ (cz hr) cA (df (ak aG aM (df (dv 0)) (df af))) (df aX) (aF _)))) (λ_ _ _ _=>(bH (aa (ak aG aM (df (dv 0)) (df af)) (aa (ak aG aM (df (dv 0)) (df af)) aj))))))) br)) (bz fV))
  case B=>
  clear hr T G_Q;walk_at "d";refine⟨xs,iW,n,rfl,ok.st,Yp,ok.le,λres hres=>⟨_,rfl,?_,?_⟩⟩
  ·rw [QW];have:=hres.le;have:=ok.le;omega
  refine Kz (λx=>match x with | .tuple (.str w:: .int n:: .str nm::r)=>if (w==QU "rule")=true then some (.tuple [.str nm,r.headD .none]) else none | _=>none) (λx hx R S h=>?_) ?_
  ·obtain⟨y,hy,rfl⟩:=Rf.mp hx;simp only [Rw.enc] at h⊢;walk_at "d";by_cases hr:(y.w==QU "rule")=true
   ·rw [Yt hr] at h⊢;obtain⟨p,hp⟩:=ok.ru y (hres.it y hy).1 (eq_of_beq hr);rw [hp] at h⊢;exact⟨p,fE,h⟩
   ·rw [Ys hr] at h⊢;exact h
  ·have e:∀l:List Rw,(l.map Rw.enc).filterMap (λx=>match x with | .tuple (.str w:: .int n:: .str nm::r)=>if (w==QU "rule")=true then some (.tuple [.str nm,r.headD .none]) else none | _=>none)=lI l:=by
    intro l
    induction l with
    | nil=>rfl
    | cons a l ih=>
     rw [Q0,SD,ih];unfold lI;simp only [Rw.enc,RQ];by_cases hr:(a.w==QU "rule")=true
     ·rw [Yt hr,Yt hr];rfl
     ·rw [Ys hr,Ys hr]
   rw [e];exact q res hres
theorem ET{s s':bW}(h:s.enc=s'.enc):s=s':=by
 have n1:QU "first"≠QU "last":=Yp
 cases s <;> cases s' <;> simp only [bW.enc,Si,RO,Sj,and_true,reduceCtorEq,and_false] at h
 ·rfl
 ·rw [h.2]
 ·exact absurd h.1 n1
 ·exact absurd h.1.symm n1
 ·rw [h.2]
theorem EU{a b:Pt}(h:a.enc=b.enc):a=b:=by
 cases a <;> cases b <;> simp only [Pt.enc,Si,RO,Sj,Sb,and_true,reduceCtorEq,and_false] at h
 ·rw [h.1,h.2]
 ·obtain⟨h1,h2,h3,h4,h5⟩:=h;rw [h1,h2,ET h3,h4,h5]
theorem EV{α β:Type}{f:α->β}:∀{l:List α},(l.map f).Nodup->∀{a b:α},a∈l->b∈l->f a=f b->a=b
 | x::l,nd,a,b,ha,hb,e=>by
  rw [Q0,Sz] at nd;rcases Q4.mp ha with ea | ha1 <;> rcases Q4.mp hb with eb | hb1
  ·rw [ea,eb]
  ·subst ea;exact absurd (Rf.mpr ⟨b,hb1,e.symm⟩) nd.1
  ·subst eb;exact absurd (Rf.mpr ⟨a,ha1,e⟩) nd.1
  ·exact EV nd.2 ha1 hb1 e
def De.rw:De->Rw
 | .pap p=>⟨QU "paper",p.d,p.nm,[.str p.kd,.tuple (p.ms.map .str)]⟩
 | .oth w d nm r=>⟨w,d,nm,r⟩
theorem De.rw_enc(x:De):x.rw.enc=x.enc:=by cases x <;> rfl
theorem EW(xs:List De):(xs.map De.rw).map Rw.enc=xs.map De.enc:=by
 rw [Rm];congr 1;funext x;exact x.rw_enc
def Ab(xs:List De)(n:Int)(z:Str×Pt):Prop:=∃d,d<=n/\De.oth (QU "rule") d z.1 [z.2.enc]∈xs/\∀x∈xs,x.isE=true->x.nm=z.1->x.d<=n->x.d<=d
def pT(a b:Str×Pt):Prop:=dn a.1 b.1=true/\a.1≠b.1
def iX(xs:List De)(n:Int)(L:List (Str×Pt)):Prop:=L.Pairwise pT/\∀z,z∈L↔Ab xs n z
theorem NL(a b:Str×Pt)(h:pT a b):¬pT b a:=λz=>h.2 (vM h.1 z.1)
theorem EX{L:List (Str×Pt)}(h:L.Pairwise pT):L.Nodup:=h.imp λ{a b} z e=>z.2 (by rw [e])
theorem NM{L M:List (Str×Pt)}(h1:L.Pairwise pT)(h2:M.Pairwise pT)(h:∀z,z∈L↔z∈M):L=M:=
 nJ NL ((U8 (EX h1) (EX h2)).mpr h) h1 h2
open Classical in
def ik(xs:List De)(n:Int):List (Str×Pt):=if h:∃L,iX xs n L then h.choose else []
theorem Ac{xs:List De}{n:Int}{L:List (Str×Pt)}(h:iX xs n L):L=ik xs n:=by
 unfold ik;have e:∃L,iX xs n L:=⟨L,h⟩;rw [dif_pos e];exact NM h.1 e.choose_spec.1 λz=>(h.2 z).trans (e.choose_spec.2 z).symm
def cI(z:Str×Pt):Yw:= .tuple [.str z.1,z.2.enc]
theorem NN{x:De}(np:x.rw.w∈iW)(hp:∀p,x≠ .pap p):x.isE=true:=by
 cases x with
 | pap p=>exact absurd rfl (hp p)
 | oth w d nm r=>
  have:w=QU "rule"\/w=QU "end":=by
   have h:w∈iW:=np;unfold iW at h;rcases Q4.mp h with e | h
   ·exact .inl e
   ·rcases Q4.mp h with e | h
    ·exact .inr e
    ·cases h
  rcases this with e | e
  ·simp [De.isE,e]
  ·simp [De.isE,e]
theorem EY{x:De}(h:x.isE=true):x.rw.w∈iW/\x.rw.nm=x.nm/\x.rw.n=x.d:=by
 cases x with
 | pap p=>cases h
 | oth w d nm r=>
  refine⟨?_,rfl,rfl⟩;simp only [De.isE,Vg,beq_iff_eq] at h;show w∈iW;unfold iW;rcases h with e | e
  ·rw [e];exact RK
  ·rw [e];exact Ru _ RK
theorem NO:QU "paper" ∉ iW:=Yp
theorem NP{xs:List De}{n:Int}{res:List Rw}(g:ij xs)(h:fk iW n (xs.map De.rw) res):∃L,iX xs n L/\lI res=L.map cI:=by
 have from1:∀x∈res,x.w=QU "rule"->∃pt:Pt,pt.Ok/\x.r=[pt.enc]/\De.oth (QU "rule") x.n x.nm [pt.enc]∈xs:=λx hx hw=>by
  obtain⟨h1,_,_⟩:=h.it x hx;obtain⟨y,hy,rfl⟩:=Rf.mp h1;cases y with
  | pap p=>exact absurd hw (by show QU "paper"≠_;decide+kernel)
  | oth w d nm r=>
   have hw:w=QU "rule":=hw;subst hw;obtain⟨pt,e,ok⟩:=g.ru _ _ _ hy;subst e;exact⟨pt,ok,rfl,hy⟩
 have pick:∀l:List Rw,(∀x∈l,x∈res)->∃L:List (Str×Pt),lI l=L.map cI/\L.map (·.1)=(l.filter λx=>x.w==QU "rule").map (·.nm)/\∀z∈L,∃x∈l,x.w=QU "rule"/\x.nm=z.1/\x.r=[z.2.enc]:=by
  intro l
  induction l with
  | nil=>intro _;exact⟨[],rfl,rfl,Yv⟩
  | cons a l ih=>
   intro hl;obtain⟨L,e1,e2,e3⟩:=ih λx hx=>hl x (by simp [hx]);by_cases hr:(a.w==QU "rule")=true
   ·obtain⟨pt,_,er,_⟩:=from1 a (hl a Yv) (eq_of_beq hr);refine⟨(a.nm,pt)::L,?_,?_,?_⟩
    ·unfold lI at e1⊢;rw [RQ,Yt hr,Q0,Q0,e1,er];rfl
    ·rw [RQ,Yt hr,Q0,Q0,e2]
    ·intro z hz;rcases Q4.mp hz with rfl | hz
     ·exact⟨a,Yv,eq_of_beq hr,rfl,er⟩
     ·obtain⟨x,hx,h'⟩:=e3 z hz;exact⟨x,by simp [hx],h'⟩
   ·refine⟨L,?_,?_,?_⟩
    ·unfold lI at e1⊢;rw [RQ,Ys hr,e1]
    ·rw [RQ,Ys hr,e2]
    ·intro z hz;obtain⟨x,hx,h'⟩:=e3 z hz;exact⟨x,by simp [hx],h'⟩
 obtain⟨L,e1,e2,e3⟩:=pick res λ_ h=>h;have key:∀x∈res,∀pt:Pt,x.r=[pt.enc]->x.w=QU "rule"->Ab xs n (x.nm,pt):=λx hx pt er hw=>by
  obtain⟨pt',_,er',hm⟩:=from1 x hx hw;obtain⟨h1,⟨_,h2⟩,h3⟩:=h.it x hx;rw [er] at er';rw [<-(V9 er').1] at hm;refine⟨x.n,h2,hm,λy hy ye yn yd=>?_⟩;obtain⟨a,b,c⟩:=EY ye;have:=h3 y.rw (Rf.mpr ⟨y,hy,rfl⟩) ⟨a,by rw [c];exact yd⟩ (by rw [b];exact yn);rw [c] at this;exact this
 refine⟨L,⟨?_,λz=>⟨λhz=>?_,λhz=>?_⟩⟩,e1⟩
 ·have up:(L.map (·.1)).Pairwise λa b=>dn a b=true:=by
   rw [e2];exact h.up.sublist (U9.map _)
  have nd:(L.map (·.1)).Nodup:=by
   rw [e2];exact h.nd.sublist (U9.map _)
  rw [Sm] at up;rw [VM,Sm] at nd;exact up.and nd
 ·obtain⟨x,hx,hw,hn,hr⟩:=e3 z hz;have:=key x hx z.2 hr hw;rw [hn] at this;exact this
 ·obtain⟨d,hd,hm,hal⟩:=hz;have hmr:(De.oth (QU "rule") d z.1 [z.2.enc]).rw∈xs.map De.rw:=Rf.mpr ⟨_,hm,rfl⟩;have hok:fX iW n (De.oth (QU "rule") d z.1 [z.2.enc]).rw:=⟨RK,hd⟩;obtain⟨x,hx,xn⟩:=h.al _ hmr hok;have xn:x.nm=z.1:=xn;obtain⟨h1,⟨h2a,h2b⟩,h3⟩:=h.it x hx;obtain⟨y,hy,ey⟩:=Rf.mp h1;have hyE:y.isE=true:=NN (by rw [ey];exact h2a) λp hp=>by
   rw [hp] at ey;rw [<-ey] at h2a;exact NO h2a
  obtain⟨_,yb,yc⟩:=EY hyE;have dd:d<=x.n:=h3 _ hmr hok xn.symm;have dd2:x.n<=d:=by
   have:=hal y hy hyE (by rw [<-yb,ey];exact xn) (by rw [<-yc,ey];exact h2b);rw [<-yc,ey] at this;exact this
  have ee:y=De.oth (QU "rule") d z.1 [z.2.enc]:=g.re y hy _ hm hyE (by simp [De.isE]) (by rw [<-yc,ey];exact XS dd2 dd) (by rw [<-yb,ey];exact xn);subst ee;have hw:x.w=QU "rule":=by rw [<-ey];rfl
  have hr:x.r=[z.2.enc]:=by rw [<-ey];rfl
  have:z.1∈L.map (·.1):=by
   rw [e2];exact Rf.mpr ⟨x,RP.mpr ⟨hx,by rw [hw];exact beq_self_eq_true _⟩,xn⟩
  obtain⟨v,hv,vn⟩:=Rf.mp this;obtain⟨x',hx',hw',hn',hr'⟩:=e3 v hv;have exx:x'=x:=EV h.nd hx' hx (hn'.trans (vn.trans xn.symm));rw [exx,hr] at hr';have:v=z:=by
   obtain⟨v1,v2⟩:=v;obtain⟨z1,z2⟩:=z;have a1:v1=z1:=vn;have a2:z2.enc=v2.enc:=(V9 hr').1;rw [a1,EU a2.symm]
  rw [<-this];exact hv
def NQ:List Yw->(Yw->Prop)->Prop:=λds Q=>∃(xs:List De)(n:Int),ds=[.tuple (xs.map De.enc),.int n]/\ij xs/\(iX xs n (ik xs n)->(ik xs n).length<=41->Q (.tuple ((ik xs n).map cI)))
theorem EZ{xs:List De}(g:ij xs)(wok:∀w d nm r,De.oth w d nm r∈xs->Q2 w=true):ES (xs.map De.rw):=by
 refine⟨λx hx=>?_,λx hx hw=>?_,?_⟩
 ·obtain⟨y,hy,rfl⟩:=Rf.mp hx;cases y with
  | pap p=>show Q2 (QU "paper")=true;decide+kernel
  | oth w d nm r=>exact wok _ _ _ _ hy
 ·obtain⟨y,hy,rfl⟩:=Rf.mp hx;cases y with
  | pap p=>exact absurd hw (by show QU "paper"≠_;decide+kernel)
  | oth w d nm r=>
   have hw:w=QU "rule":=hw;subst hw;obtain⟨pt,e,_⟩:=g.ru _ _ _ hy;exact⟨_,e⟩
 ·rw [QW];have:=g.gx.ln;omega
theorem NR(T:Txt K mg t):aA P w K mg base CX0 2 t.a_R t.d_R ["deeds","day"] (aU K NQ):=
 (NK T).imp λvs H Q E ⟨O,ds,Qd,tr,hs,⟨xs,n,e,g,q⟩,k⟩=>⟨O,ds,Qd,tr,hs,⟨xs.map De.rw,n,by rw [EW];exact e,EZ g (λw d nm r h=>g.gx.w _ h),λres hres=>by
  obtain⟨L,h1,h2⟩:=NP g hres;have e:=Ac h1;rw [h2,e];refine q (by rw [<-e];exact h1) ?_;have hl:(lI res).length<=res.length:=by unfold lI;rw [QW];exact RJ _ _
  have:=hres.le;rw [QW] at this;rw [h2,QW,e] at hl;have:=g.gx.ln;omega⟩,k⟩
end
theorem E1:bb (av tU) ["paper","since","day","days"] ["other","day"] 1 [2] ⟨Q3,[ (QX ".0",aab),(QX "other",aab),(QX "day",Rb)],false,false,[]⟩:=⟨rfl,Yp,Yp,Yp,rfl,Yp,Yp,Yp,rfl⟩
section
variable {P:YI} {w:YJ} {K:QV} {mg:Str->Option Yx} {base:YK} {t:cg}
open Classical in
def jw(d k:Int)(u:Str):Int:=if h:∃r,oE d k u r then h.choose else 0
theorem E3{d k:Int}{u:Str}{r:Int}(h:oE d k u r):r=jw d k u:=by
 unfold jw;rw [dif_pos ⟨r,h⟩];exact Nl h (Exists.choose_spec (⟨r,h⟩:∃r,oE d k u r))
def bX:Option Int->Yw
 | none=>.none
 | some i=>.int i
def gU(r:Rp):Prop:=qY r.hs/\Q2 r.c.kd=true/\r.ts.length<=41/\∀m∈r.ts,Q2 m=true
def pU(r:Rp)(wd:Str)(n:Int):List Int:=(dX r.hs wd).filter λz=>decide (z<=n)
def uw(r:Rp)(n:Int):bW->Option Int
 | .com=>some r.c.d
 | .fst wd=>(pU r wd n).head?
 | .lst wd=>(pU r wd n).getLast?
theorem NS{l:List Int}{Q:Yw->Prop}(q:Q (bX l.head?)):if (!(l.map λz=>Rv z).isEmpty)=false then Q .none else ∃d,atI (l.map λz=>Rv z) 0=some d/\Q d:=by
 cases l with
 | nil=>rw [Yt (by rfl)];exact q
 | cons a l=>rw [Ys Yv];exact⟨.int a,dH,q⟩
theorem BD{l:List Yw}{a:Yw}:atI (l++[a]) (-1)=some a:=by
 unfold atI jc;rw [Ys Yr,Yt (by rw [Ra,Td];omega)];rw [show((-1:Int)+((l++[a]).length:Nat)).toNat=l.length by rw [Ra,Td];omega];simp
theorem NT{l:List Int}{Q:Yw->Prop}(q:Q (bX l.getLast?)):if (!(l.map λz=>Rv z).isEmpty)=false then Q .none else ∃d,atI (l.map λz=>Rv z) (-1)=some d/\Q d:=by
 rcases List.eq_nil_or_concat l with e | ⟨l',a,e⟩
 ·subst e;rw [Yt (by rfl)];exact q
 ·rw [List.concat_eq_append] at e;subst e;rw [Ys Yv];refine⟨.int a,?_,?_⟩
  ·rw [Rq];exact BD
  ·rw [List.getLast?_concat] at q;exact q
def NU(C:Yz):List Yw->(Yw->Prop)->Prop:=λds Q=>∃(r:Rp)(s:bW)(n:Int),ds=[r.enc C,s.enc,.int n]/\s.Ok/\gU r/\Q (bX (uw r n s))
theorem NV(T:Txt K mg t):aA P w K mg base CX0 2 t.a_W t.d_W ["paper","since","day"] (aU K (NU t.u_Paper)):=by
 have G_V:=@EM P w _ _ base _ T;refine T.F_W.F.okD D4 (λds Q h=>?_) (λ_ _ _ _ H O ds Q E hr h=>?_)
 ·obtain⟨r,s,n,rfl,_⟩:=h;rfl
 ·obtain⟨r,si,n,rfl,hsi,hh,q⟩:=h;refine'⟨_,?A,?B⟩
  case A=>
   refine' ao ?C ?D
   case C=>
    refine' bJ ?E ?F bI
    case E=>exact(aQ (cz hr) cA (df (ak aG aM (df (dv 1)) (df af))) (df aX) (aF _))
    case' F=>refine' aw ?G
    case G=>exact(aR (cb (C:=t.u_Paper) T.cl_Paper T.na_Paper_coming (dv 0)))
   case' D=>refine' ao ?H ?I
   case H=>exact(ic (i:=3) D4.nd rfl Yu (sQ rfl E1 (df (PE.imp (aE G_V (hr.mono Yq) rfl T.F_V (aa (dv 0) (aa (ak aG aM (df (dv 1)) (df af)) aj))) aN)) aL bM Yq (λ_ _ _ _=>(aK (i:=0) E1.nd rfl Yu)) (λ_ _ _ _=>(cZ (aQ lR di (df (dv 0)) (df (dv 1)) (aF _)))) (λ_ _ _ _=>(dv 0))))
   case' I=>refine' ao ?J ?K
   case J=>
    refine' bJ ?L ?M bI
    case L=>exact(pd (tq (dv 3)))
    case M=>refine' aw (aR gE)
   case' K=>refine' aw ?N
   case' N=>refine' aR ?O
   case O=>exact(qC (aQ (cz hr) cA (df (ak aG aM (df (dv 1)) (df af))) (df aX) (aF _)) (ak aP aS (df (dv 3)) (df af)) (ak aP aS (df (dv 3)) (df (KA af))))
  case B=>
  clear hr T G_V;have dl:∀wd,(dX r.hs wd).length<=41:=λwd=>by
   unfold dX;rw [QW];exact Rx (RJ _ _) hh.1.1
  cases si with
  | com=>
   simp only [bW.enc];walk_at "d";exact⟨[QU "name",QU "coming",QU "kind",QU "makers",QU "happenings"],_,rfl,_,ur,q⟩
  | fst wd=>
   simp only [bW.enc];walk_at "d";rw [cf (show QU "first"≠QU "coming" by decide+kernel),Ys Q5];have dl:=dl wd;refine⟨r,wd,rfl,hh.1,hsi,_,rfl,by rw [QW];omega,cX (λz=>decide (z<=n)) (λz=>.int z) (λx hx R S h=>?_) ?_⟩
   ·walk_at "d";simpa using h
   ·have q:Q (bX (pU r wd n).head?):=q;unfold pU at q;exact NS q
  | lst wd=>
   simp only [bW.enc];walk_at "d";rw [cf (show QU "last"≠QU "coming" by decide+kernel),Ys Q5];have dl:=dl wd;refine⟨r,wd,rfl,hh.1,hsi,_,rfl,by rw [QW];omega,cX (λz=>decide (z<=n)) (λz=>.int z) (λx hx R S h=>?_) ?_⟩
   ·walk_at "d";simpa using h
   ·have q:Q (bX (pU r wd n).getLast?):=q;unfold pU at q;exact NT q
def fL(r:Rp)(n:Int):Pt->Option Int
 | .five _ _ s k u=>(uw r n s).map λb=>jw b k u
 | .two _ _=>none
def NW(C:Yz):List Yw->(Yw->Prop)->Prop:=λds Q=>∃(r:Rp)(w kd:Str)(s:bW)(k:Int)(u:Str)(n:Int),ds=[r.enc C,(Pt.five w kd s k u).enc,.int n]/\s.Ok/\oC u/\gU r/\Q (bX (fL r n (.five w kd s k u)))
theorem E4(T:Txt K mg t):aA P w K mg base CX0 6 t.a_X t.d_X ["paper","parts","day"] (aU K (NW t.u_Paper)):=by
 have G_W:=@NV P w _ _ base _ T;have G_H:=@Es P w _ _ base _ T;refine T.F_X.F.okD D5 (λds Q h=>?_) (λ_ _ _ _ H O ds Q E hr h=>?_)
 ·obtain⟨r,w,kd,s,k,u,n,rfl,_⟩:=h;rfl
 ·obtain⟨r,wo,kd,si,k,u,n,rfl,hsi,hu,hh,q⟩:=h;refine'⟨_,?A,?B⟩
  case A=>
   refine' ao ?C ?D
   case C=>
    refine' bg (i:=3) D5.nd rfl Yu ?E (hs:=qK)
    case E=>exact(PE.imp (aE G_W (hr.mono Yq) rfl T.F_W (aa (dv 0) (aa (ak aG aM (df (dv 1)) (df af)) (aa (dv 2) aj)))) aN)
   case' D=>refine' ao ?F ?G
   case F=>
    refine' bJ ?H ?I bI
    case H=>exact(aQ qr qN (df (dv 3)) (df gE) (aF _))
    case I=>refine' aw (aR gE)
   case' G=>refine' aw ?J
   case' J=>refine' aR ?K
   case K=>exact(PE.imp (aE G_H (hr.mono Yq) rfl T.F_H (aa (dv 3) (aa (ak aG aM (df (dv 1)) (df af)) (aa (ak aG aM (df (dv 1)) (df af)) aj)))) aN)
  case B=>
  clear hr T G_W G_H;simp only [Pt.enc];walk_at "d";refine⟨r,si,n,rfl,hsi,hh,?_⟩;have q:Q (bX ((uw r n si).map λb=>jw b k u)):=q;cases hb:uw r n si with
  | none=>
   rw [hb] at q;simp only [bX,eO];walk_at "d";exact q
  | some b=>
   rw [hb] at q;simp only [bX,eO];walk_at "d";exact⟨b,k,u,rfl,hu,λx hx=>by rw [E3 hx];exact q⟩
theorem E5{xs:List De}{c:Pp}(g:ij xs)(hc:c∈aC xs)(h1:∀z,z∈gT (dW xs c.nm)↔z∈dW xs c.nm)(h3:(gT (dW xs c.nm)).length<=41):gU (eU xs c):=by
 refine⟨⟨h3,λz hz=>?_⟩,g.gx.gp.kd c hc,?_,λm hm=>?_⟩
 ·have hz:=(h1 z).mp hz;unfold dW at hz;obtain⟨x,hx,e⟩:=Rf.mp hz;obtain⟨hx1,hx2⟩:=RP.mp hx;cases x with
  | pap p=>cases hx2
  | oth w d nm r=>
   simp only [dD,R5,beq_iff_eq] at hx2;obtain⟨rfl,rfl⟩:=hx2;obtain⟨wd,rfl,hw⟩:=g.hp _ _ _ hx1;rw [<-e];exact hw
 ·show((eT (aC xs) c).map (·.nm)).length<=41;rw [QW];exact z6 g.gx.gp
 ·obtain⟨p,hp,rfl⟩:=Rf.mp hm;exact g.gx.gp.nm p (iR.mp (RP.mp hp).1)
end
theorem E6:bb (av tV) ["paper","rules","day"] ["pair","paper"] 1 [0] ⟨Q3,[ (QX ".0",aab),(QX "pair",aab),(QX "paper",Rb)],false,false,[]⟩:=⟨rfl,Yp,Yp,Yp,rfl,Yp,Yp,Yp,rfl⟩
theorem E7:bb (av tW) ["paper","rules","day","gone","left","calls","rule","parts","due"] ["maker","gone","day"] 1 [3,2] ⟨Q3,[ (QX ".0",aab),(QX "maker",aab),(QX "has_gone",RC),(QX "day",Rb),(QX "gone",Rb)],false,false,[]⟩:=⟨rfl,Yp,Yp,Yp,rfl,Yp,Yp,Yp,rfl⟩
theorem E8:bb (av tX) ["paper","rules","day","gone","away","calls","rule","parts","due"] ["maker","gone","day"] 1 [3,2] ⟨Q3,[ (QX ".0",aab),(QX "maker",aab),(QX "has_gone",RC),(QX "day",Rb),(QX "gone",Rb)],false,false,[]⟩:=⟨rfl,Yp,Yp,Yp,rfl,Yp,Yp,Yp,rfl⟩
theorem Ad:bb (av tY) ["kind","rules"] ["rule","parts","kind"] 2 [0] ⟨Q3,[ (QX ".0",aab),(QX "rule",aab),(QX "parts",aab),(QX "kind",Rb)],false,false,[]⟩:=⟨rfl,Yp,Yp,Yp,rfl,Yp,Yp,Yp,rfl⟩
section
variable {P:YI} {w:YJ} {K:QV} {mg:Str->Option Yx} {base:YK} {t:cg}
structure Gn where
 ks:List Str
 gs:List Int
def Gn.enc(g:Gn):Yw:=gb g.ks (g.gs.map .int)
def qZ:List Str->List Int->Str->Option Int
 | k::ks,d::ds,z=>if k=z then some d else qZ ks ds z
 | _,_,_=>none
theorem E9:∀(ks:List Str)(gs:List Int)(z:Str),bh ks (gs.map .int) z=(qZ ks gs z).map .int
 | [],_,_=>rfl
 | _::_,[],_=>rfl
 | k::ks,g::gs,z=>by
  rw [Q0];unfold bh qZ;by_cases h:k=z
  ·rw [Yt h,Yt h];rfl
  ·rw [Ys h,Ys h];exact E9 ks gs z
def Gn.at(g:Gn)(z:Str):Option Int:=qZ g.ks g.gs z
def Gn.has(g:Gn)(n:Int)(z:Str):Bool:=match g.at z with
 | some d=>decide (d<=n)
 | none=>false
def NY:List Yw->(Yw->Prop)->Prop:=λds Q=>∃(g:Gn)(z:Str)(n:Int),ds=[g.enc,.str z,.int n]/\Q (.bool (g.has n z))
theorem Fb(T:Txt K mg t):aA P w K mg base CX0 1 t.a_Z t.d_Z ["gone","paper","day"] (aU K NY):=by
 refine T.F_Z.F.okD D6 (λds Q h=>?_) (λ_ _ _ _ H O ds Q E hr h=>?_)
 ·obtain⟨g,z,n,rfl,_⟩:=h;rfl
 ·obtain⟨g,z,n,rfl,q⟩:=h;refine'⟨_,?A,?B⟩
  case A=>
   refine' ao ?C ?D
   case C=>exact(bg (i:=3) D6.nd rfl Yu (Mf hr.units (dv 0) (dv 1) ⟨rfl,rfl,rfl,rfl⟩))
   case' D=>refine' aw ?E
   case' E=>refine' aR ?F
   case F=>exact(qB (dG Bh CB (df (dv 3)) (df gE) (aF _)) (qA (dG lR di (df (dv 3)) (df (dv 2)) (aF _))))
  case B=>
  clear hr T;simp only [Gn.enc];walk_at "d";refine⟨g.ks,_,rfl,?_⟩;rw [E9];have q:Q (.bool (match g.at z with | some d=>decide (d<=n) | none=>false)):=q;unfold Gn.at at q;cases hd:qZ g.ks g.gs z with
  | none=>
   rw [hd] at q;simp only [Tv,Ws,eO];walk_at "d";exact q
  | some d=>
   rw [hd] at q;simp only [Tu,Option.getD_some,eO];walk_at "d";exact q
theorem Fc{a b c d e:Yw}:bh [QU "name",QU "coming",QU "kind",QU "makers",QU "happenings"] [a,b,c,d,e] (QU "makers")=some d:=by
 simp only [bh];rw [Ys Yp,Ys Yp,Ys Yp,Yt trivial]
def Pt.wd:Pt->Str
 | .two w _=>w
 | .five w _ _ _ _=>w
def Pt.kd:Pt->Str
 | .two _ kd=>kd
 | .five _ kd _ _ _=>kd
theorem Pt.kdOk{p:Pt}(h:p.Ok):Q2 p.kd=true:=by cases p with | two w kd=>exact h.2.2 | five w kd s k u=>exact h.2.1
theorem Pt.at1(p:Pt):∃l,p.enc= .tuple l/\atI l 1=some (.str p.kd):=by cases p <;> exact⟨_,rfl,eM⟩
def iY(L:List (Str×Pt)):Prop:=L.length<=41/\∀z∈L,z.2.Ok
def jx(r:Rp)(n:Int)(L:List (Str×Pt)):List (Str×Pt):=if r.c.d > n then [] else L.filter λz=>z.2.kd==r.c.kd
def NZ(C:Yz):List Yw->(Yw->Prop)->Prop:=λds Q=>∃(r:Rp)(L:List (Str×Pt))(n:Int),ds=[r.enc C,.tuple (L.map cI),.int n]/\gU r/\iY L/\Q (.list ((jx r n L).map cI))
theorem Fd(T:Txt K mg t):aA P w K mg base CX0 1 t.a_Y t.d_Y ["paper","rules","day"] (aU K (NZ t.u_Paper)):=by
 refine T.F_Y.F.okD MT (λds Q h=>?_) (λ_ _ _ _ H O ds Q E hr h=>?_)
 ·obtain⟨r,L,n,rfl,_⟩:=h;rfl
 ·obtain⟨r,L,n,rfl,hr',hL,q⟩:=h;refine'⟨_,?A,?B⟩
  case A=>
   refine' ao ?C ?D
   case C=>
    refine' bJ ?E ?F bI
    case E=>exact(aQ jJ di (df (cb (C:=t.u_Paper) T.cl_Paper T.na_Paper_coming (dv 0))) (df (dv 2)) (aF _))
    case' F=>refine' aw ?G
    case G=>exact(aR (fe (bV aj)))
   case' D=>refine' aw ?H
   case' H=>refine' aR ?I
   case' I=>refine' fe ?J
   case J=>exact(j2 rfl E6 (df (dv 1)) aL bM Yq (λ_ _ _ _=>(aK (i:=0) E6.nd rfl Yu)) (λ_ _ _ _=>(cZ (aQ (cD hr.units) cE (df (ak aG aM (df (ak aG aM (df (dv 0)) (df af))) (df af))) (df (cb (C:=t.u_Paper) T.cl_Paper T.na_Paper_kind (dv 1))) (aF _)))) (λ_ _ _ _=>(dv 0)))
  case B=>
  clear hr T;walk_at "d";refine⟨[QU "name",QU "coming",QU "kind",QU "makers",QU "happenings"],_,rfl,_,ur,r.c.d,rfl,?_⟩;unfold jx at q;by_cases hd:r.c.d > n
  ·rw [Yt hd] at q⊢;exact q
  ·rw [Ys hd] at q⊢;refine⟨by rw [QW];have:=hL.1;omega,cX (λz:Str×Pt=>z.2.kd==r.c.kd) cI (λx hx R S h=>?_) q⟩;simp only [cI];obtain⟨l,e1,e2⟩:=Pt.at1 x.2;rw [e1];walk_at "d";refine⟨_,e2,[QU "name",QU "coming",QU "kind",QU "makers",QU "happenings"],_,rfl,_,uu,cL.mpr (Pt.kdOk (hL.2 x hx)),cL.mpr hr'.2.1,?_⟩;rw [dQ];simp only [cI] at h;rw [e1] at h;exact h
def ck(z:Str×Yw):Yw:= .tuple [.str z.1,z.2]
def jy(r:Rp)(n:Int)(g:Gn):List Str:=r.ts.filter λm=>!g.has n m
def jz(r:Rp)(n:Int)(g:Gn):List Str:=r.ts.filter λm=>g.has n m
def pV(n:Int):Option Int->Bool
 | none=>true
 | some d=>decide (d > n)
def pW(r:Rp)(n:Int)(g:Gn):Pt->Option Yw
 | .five w kd s k u=>if w=QU "keep"/\pV n (fL r n (.five w kd s k u))=true then some (bX (fL r n (.five w kd s k u))) else none
 | .two w kd=>if w=QU "while" then(jy r n g).head?.map .str else none
def pX(r:Rp)(n:Int)(g:Gn):Pt->Option Yw
 | .five w kd s k u=>if w=QU "gone"/\pV n (fL r n (.five w kd s k u))=false then some (bX (fL r n (.five w kd s k u))) else none
 | .two w kd=>if w=QU "follow" then(jz r n g).head?.map .str else none
def Ae(r:Rp)(n:Int)(g:Gn)(z:Str×Pt):List (Str×Yw):=((pW r n g z.2).map λb=>(z.1,b)).toList
def Af(r:Rp)(n:Int)(g:Gn)(z:Str×Pt):List (Str×Yw):=((pX r n g z.2).map λb=>(z.1,b)).toList
def iq(r:Rp)(n:Int)(g:Gn)(L:List (Str×Pt)):List (Str×Yw):=(jx r n L).flatMap (Ae r n g)
def lJ(r:Rp)(n:Int)(g:Gn)(L:List (Str×Pt)):List (Str×Yw):=(jx r n L).flatMap (Af r n g)
theorem uz{α β:Type}{f:α->List β}(h:∀x,(f x).length<=1):∀l:List α,(l.flatMap f).length<=l.length
 | []=>by simp
 | x::l=>by
  rw [Wi,Ra,Q8];have:=h x;have:=uz h l;omega
theorem Ag{α:Type}(o:Option α):o.toList.length<=1:=by cases o <;> simp
theorem Fe{f:Str×Pt->Option Yw}(M:List (Str×Pt))(hM:M.length<=41):∃acc:Nat->List Yw,acc 0=[]/\(∀i,(acc i).length<=41)/\(∀i x,M[i]?=some x->f x=none->acc (i+1)=acc i)/\(∀i x,M[i]?=some x->∀b,f x=some b->acc (i+1)=acc i++[.tuple [.str x.1,b]])/\acc M.length=(M.flatMap λz=>((f z).map λb=>(z.1,b)).toList).map ck:=by
 refine⟨λi=>((M.take i).flatMap λz=>((f z).map λb=>(z.1,b)).toList).map ck,rfl,λi=>?_,λi x hx e=>?_,λi x hx b e=>?_,?_⟩
 ·show(RZ ck _).length<=41;rw [QW];refine Rx (uz (λz=>Ag _) _) ?_;rw [RI];omega
 ·show RZ ck _=RZ ck _;rw [RT,hx,UI];simp [e]
 ·show RZ ck _=RZ ck _++_;rw [RT,hx,UI,Rq];simp [e,ck]
 ·show RZ ck _=_;rw [Rz (QY _)]
theorem uA{r:Rp}{n:Int}{L:List (Str×Pt)}(h:iY L):iY (jx r n L):=by
 unfold jx;split
 ·exact⟨Yv,Yv⟩
 ·exact⟨Rx (RJ _ _) h.1,λz hz=>h.2 z (RP.mp hz).1⟩
def pY(C:Yz)(r:Rp)(L:List (Str×Pt))(n:Int)(g:Gn)(ms:List Str)(a:List Yw)(δ:Dl):Prop:=∃(o6 o7 o8:Option Sl),δ=[some (Sl.v (Rp.enc C r)),some (Sl.v (RB (RZ cI L))),some (Sl.v (Rv n)),some (Sl.v g.enc),some (Sl.v (SI (ms.map λm=>QZ m))),some (Sl.o a),o6,o7,o8]
def F_a(C:Yz):List Yw->(Yw->Prop)->Prop:=λds Q=>∃(r:Rp)(L:List (Str×Pt))(n:Int)(g:Gn),ds=[r.enc C,.tuple (L.map cI),.int n,g.enc]/\gU r/\iY L/\Q (.tuple ((iq r n g L).map ck))
theorem N0(T:Txt K mg t):aA P w K mg base CX0 7 t.a_a t.d_a ["paper","rules","day","gone"] (aU K (F_a t.u_Paper)):=by
 have G_Z:=@Fb P w _ _ base _ T;have G_Y:=@Fd P w _ _ base _ T;have G_X:=@E4 P w _ _ base _ T;refine T.F_a.F.okD pJ (λds Q h=>?_) (λ_ _ _ _ H O ds Q E hr h=>?_)
 ·obtain⟨r,L,n,g,rfl,_⟩:=h;rfl
 ·obtain⟨r,L,n,g,rfl,hr',hL,q⟩:=h;refine'⟨_,?A,?B⟩
  case A=>
   refine' ao ?C ?D
   case C=>exact(ic (i:=4) pJ.nd rfl Yu (nc rfl E7 (df (cb (C:=t.u_Paper) T.cl_Paper T.na_Paper_makers (dv 0))) aL bM Yq (λ_ _ _ _=>(aK (i:=0) E7.nd rfl Yu)) (λ_ _ _ _=>(cZ (pd (jf (PE.imp (aE G_Z (hr.mono Yq) rfl T.F_Z (aa (dv 1) (aa (dv 0) (aa (dv 2) aj)))) aN))))) (λ_ _ _ _=>(dv 0))))
   case' D=>refine' ao ?E ?F
   case E=>exact(iG (i:=5) pJ.nd rfl Yu (bV aj))
   case' F=>refine' ao ?G ?H
   case G=>
    refine' nY RU rfl (PE.imp (aE G_Y (hr.mono Yq) rfl T.F_Y (aa (dv 0) (aa (dv 1) (aa (dv 2) aj)))) aN) ?I (gJ (b0 aL (b0 aL gI))) ?J
    case I=>exact(gB (n:=2) rfl (bY (aK (i:=6) pJ.nd rfl Yu) (bY (aK (i:=7) pJ.nd rfl Yu) gA)))
    case' J=>refine' ao ?K ?L
    case K=>
     refine' bJ ?M ?N bI
     case M=>exact(aQ (cz hr) cA (df (ak aG aM (df (dv 7)) (df af))) (df aX) (aF _))
     case' N=>refine' ao ?O ?P
     case O=>exact(bg (i:=8) pJ.nd rfl Yu (PE.imp (aE G_X (hr.mono Yq) rfl T.F_X (aa (dv 0) (aa (dv 7) (aa (dv 2) aj)))) aN))
     case' P=>refine' aw ?Q
     case' Q=>refine' bJ ?R ?S bI
     case R=>exact(PW.pt (sI (aQ qr qN (df (dv 8)) (df gE) (aF _)) (sH (aQ jJ di (df (dv 8)) (df (dv 2)) (aF _)))))
     case' S=>refine' aw ?T
     case T=>exact(lU (i:=5) (pv 5) (bH (aa (dv 6) (aa (dv 8) aj))))
    case' L=>refine' aw ?U
    case' U=>refine' bJ ?V ?W bI
    case V=>exact(PW.pt (fC (aQ (cz hr) cA (df (ak aG aM (df (dv 7)) (df af))) (df aX) (aF _)) (fB (tq (dv 4)))))
    case' W=>refine' aw ?X
    case' X=>refine' lU (i:=5) (pv 5) ?Y
    case Y=>exact(bH (aa (dv 6) (aa (ak aP aS (df (dv 4)) (df af)) aj)))
   case' H=>refine' aw ?Z
   case Z=>exact(aR (PE.imp (cU fP rfl T.n_tuple fR (bj (dw 5) br)) (bz fV)))
  case B=>
  clear hr T G_Z G_Y G_X;walk_at "d";refine⟨[QU "name",QU "coming",QU "kind",QU "makers",QU "happenings"],_,rfl,_,Fc,_,rfl,by rw [QW];have:=hr'.2.2.1;omega,cX (λm=>!g.has n m) (λm=>.str m) (λx hx R S h=>?_) ?_⟩
  ·walk_at "d";exact⟨g,x,n,rfl,by simpa using h⟩
  ·refine⟨r,L,n,rfl,hr',hL,?_⟩;have ok:=uA (r:=r) (n:=n) hL;walk_at "d";have q:Q (.tuple (((jx r n L).flatMap (Ae r n g)).map ck)):=q;generalize hM:jx r n L=M at ok q⊢;obtain⟨acc,a0,al,an,as,ae⟩:=Fe (f:=λz:Str×Pt=>pW r n g z.2) M ok.1;generalize hE:dP.mk _ _ _ _=EE;have eN:=congrArg dP.nx hE;simp only at eN;clear hE;refine⟨λi=>pY t.u_Paper r L n g (jy r n g) (acc i),⟨none,none,none,by rw [a0];rfl⟩,?_,?_⟩
   ·rintro i z δ hz ⟨o6,o7,o8,rfl⟩;rw [Q9] at hz;cases hz':M[i]? with
    | none=>rw [hz'] at hz;cases hz
    | some x=>
     rw [hz'] at hz;cases hz;have xo:=ok.2 x (RA hz');have tl:=al i;have none_:=an i x hz';have some_:=as i x hz';obtain⟨nm,pt⟩:=x;simp only [cI];have fin:∀a(o6 o7 o8:Option Sl),acc (i+1)=a->pY t.u_Paper r L n g (jy r n g) (acc (i+1)) [some (Sl.v (Rp.enc t.u_Paper r)),some (Sl.v (RB (RZ cI L))),some (Sl.v (Rv n)),some (Sl.v g.enc),some (Sl.v (SI ((jy r n g).map λm=>QZ m))),some (Sl.o a),o6,o7,o8]:=λa o6 o7 o8 e=>⟨o6,o7,o8,by rw [e]⟩;generalize pY t.u_Paper r L n g (jy r n g) (acc (i+1))=NX at fin⊢;clear eN;cases pt with
     | two w2 kd=>
      have k1:w2≠QU "keep":=λe=>xo.1 (.inl e);simp only [Pt.enc];generalize hD:fg (fU 8 _) _=TD;generalize hW:fD (gG _ (gP _)) _ _=TW;walk_at "d";rw [cf k1,Ys Q5];clear hD;subst hW;walk_at "d";by_cases hw:w2=QU "while"
      ·subst hw;rw [Yt (beq_self_eq_true _)];cases hl:jy r n g with
       | nil=>
        rw [hl] at fin;rw [Ys Yv];exact fin _ _ _ _ (none_ (by show(if QU "while"=QU "while" then(jy r n g).head?.map QZ else none)=none;rw [Yt rfl,hl];rfl))
       | cons m l=>
        rw [hl] at fin;rw [Yt (by rfl)];exact⟨_,dH,Yr,fin _ _ _ _ (some_ (.str m) (by show(if QU "while"=QU "while" then(jy r n g).head?.map QZ else none)=some _;rw [Yt rfl,hl];rfl))⟩
      ·rw [cf hw,Ys Q5];exact fin _ _ _ _ (none_ (by show(if w2=QU "while" then(jy r n g).head?.map QZ else none)=none;rw [Ys hw]))
     | five w2 kd si k u=>
      have k1:w2≠QU "while":=λe=>by rcases xo.1 with z | z <;> rw [z] at e <;> exact absurd e Yp
      simp only [Pt.enc];generalize hW:fD (gG _ (gP _)) _ _=TW;generalize hE2:dP.mk _ _ _ _=E2;have eN2:E2.nx=NX:=by rw [<-hE2]
      have pass:∀a(o8:Option Sl),acc (i+1)=a->TW E2 [some (Sl.v (Rp.enc t.u_Paper r)),some (Sl.v (RB (RZ cI L))),some (Sl.v (Rv n)),some (Sl.v g.enc),some (Sl.v (SI ((jy r n g).map λm=>QZ m))),some (Sl.o a),some (Sl.v (QZ nm)),some (Sl.v (RB [QZ w2,QZ kd,si.enc,Rv k,QZ u])),o8]:=λa o8 e=>by
       subst hW;walk_at "d";rw [cf k1,Ys Q5,eN2];exact fin _ _ _ _ e
      clear hW hE2;walk_at "d";by_cases hw:w2=QU "keep"
      ·subst hw;rw [Yt (beq_self_eq_true _)];refine⟨r,QU "keep",kd,si,k,u,n,rfl,xo.2.2.1,xo.2.2.2.2.2,hr',?_⟩;have df:pW r n g (.five (QU "keep") kd si k u)=if QU "keep"=QU "keep"/\pV n (fL r n (.five (QU "keep") kd si k u))=true then some (bX (fL r n (.five (QU "keep") kd si k u))) else none:=rfl
       cases hd:fL r n (.five (QU "keep") kd si k u) with
       | none=>
        rw [hd] at df;simp only [bX,eO];walk_at "d";refine⟨Yr,?_⟩;exact pass _ _ (some_ .none (by rw [df,Yt ⟨rfl,rfl⟩];rfl))
       | some d=>
        rw [hd] at df;simp only [bX,eO];walk_at "d";by_cases hdn:n < d
        ·rw [Yt hdn];refine⟨Yr,?_⟩;exact pass _ _ (some_ (.int d) (by rw [df,Yt ⟨rfl,decide_eq_true hdn⟩];rfl))
        ·rw [Ys hdn];exact pass _ _ (none_ (by rw [df,Ys λz=>hdn (of_decide_eq_true z.2)]))
      ·rw [cf hw,Ys Q5];exact pass _ _ (none_ (by show(if w2=QU "keep"/\pV n (fL r n (.five w2 kd si k u))=true then some (bX (fL r n (.five w2 kd si k u))) else none)=none;rw [Ys λz=>hw z.1]))
   ·rintro δ ⟨o6,o7,o8,rfl⟩;rw [<-eN,QW,ae];walk_at "d";exact q
def F_b(C:Yz):List Yw->(Yw->Prop)->Prop:=λds Q=>∃(r:Rp)(L:List (Str×Pt))(n:Int)(g:Gn),ds=[r.enc C,.tuple (L.map cI),.int n,g.enc]/\gU r/\iY L/\Q (.tuple ((lJ r n g L).map ck))
theorem N1(T:Txt K mg t):aA P w K mg base CX0 7 t.a_b t.d_b ["paper","rules","day","gone"] (aU K (F_b t.u_Paper)):=by
 have G_Z:=@Fb P w _ _ base _ T;have G_Y:=@Fd P w _ _ base _ T;have G_X:=@E4 P w _ _ base _ T;refine T.F_b.F.okD pK (λds Q h=>?_) (λ_ _ _ _ H O ds Q E hr h=>?_)
 ·obtain⟨r,L,n,g,rfl,_⟩:=h;rfl
 ·obtain⟨r,L,n,g,rfl,hr',hL,q⟩:=h;refine'⟨_,?A,?B⟩
  case A=>
   refine' ao ?C ?D
   case C=>exact(ic (i:=4) pK.nd rfl Yu (nc rfl E8 (df (cb (C:=t.u_Paper) T.cl_Paper T.na_Paper_makers (dv 0))) aL bM Yq (λ_ _ _ _=>(aK (i:=0) E8.nd rfl Yu)) (λ_ _ _ _=>(cZ (jf (PE.imp (aE G_Z (hr.mono Yq) rfl T.F_Z (aa (dv 1) (aa (dv 0) (aa (dv 2) aj)))) aN)))) (λ_ _ _ _=>(dv 0))))
   case' D=>refine' ao ?E ?F
   case E=>exact(iG (i:=5) pK.nd rfl Yu (bV aj))
   case' F=>refine' ao ?G ?H
   case G=>
    refine' nY RU rfl (PE.imp (aE G_Y (hr.mono Yq) rfl T.F_Y (aa (dv 0) (aa (dv 1) (aa (dv 2) aj)))) aN) ?I (gJ (b0 aL (b0 aL gI))) ?J
    case I=>exact(gB (n:=2) rfl (bY (aK (i:=6) pK.nd rfl Yu) (bY (aK (i:=7) pK.nd rfl Yu) gA)))
    case' J=>refine' ao ?K ?L
    case K=>
     refine' bJ ?M ?N bI
     case M=>exact(aQ (cz hr) cA (df (ak aG aM (df (dv 7)) (df af))) (df aX) (aF _))
     case' N=>refine' ao ?O ?P
     case O=>exact(bg (i:=8) pK.nd rfl Yu (PE.imp (aE G_X (hr.mono Yq) rfl T.F_X (aa (dv 0) (aa (dv 7) (aa (dv 2) aj)))) aN))
     case' P=>refine' aw ?Q
     case' Q=>refine' bJ ?R ?S bI
     case R=>exact(PW.pt (fC (aQ Bh CB (df (dv 8)) (df gE) (aF _)) (fB (aQ lR di (df (dv 8)) (df (dv 2)) (aF _)))))
     case' S=>refine' aw ?T
     case T=>exact(lU (i:=5) (pv 5) (bH (aa (dv 6) (aa (dv 8) aj))))
    case' L=>refine' aw ?U
    case' U=>refine' bJ ?V ?W bI
    case V=>exact(PW.pt (fC (aQ (cz hr) cA (df (ak aG aM (df (dv 7)) (df af))) (df aX) (aF _)) (fB (tq (dv 4)))))
    case' W=>refine' aw ?X
    case' X=>refine' lU (i:=5) (pv 5) ?Y
    case Y=>exact(bH (aa (dv 6) (aa (ak aP aS (df (dv 4)) (df af)) aj)))
   case' H=>refine' aw ?Z
   case Z=>exact(aR (PE.imp (cU fP rfl T.n_tuple fR (bj (dw 5) br)) (bz fV)))
  case B=>
  clear hr T G_Z G_Y G_X;walk_at "d";refine⟨[QU "name",QU "coming",QU "kind",QU "makers",QU "happenings"],_,rfl,_,Fc,_,rfl,by rw [QW];have:=hr'.2.2.1;omega,cX (λm=>g.has n m) (λm=>.str m) (λx hx R S h=>?_) ?_⟩
  ·walk_at "d";exact⟨g,x,n,rfl,by simpa using h⟩
  ·refine⟨r,L,n,rfl,hr',hL,?_⟩;have ok:=uA (r:=r) (n:=n) hL;walk_at "d";have q:Q (.tuple (((jx r n L).flatMap (Af r n g)).map ck)):=q;generalize hM:jx r n L=M at ok q⊢;obtain⟨acc,a0,al,an,as,ae⟩:=Fe (f:=λz:Str×Pt=>pX r n g z.2) M ok.1;generalize hE:dP.mk _ _ _ _=EE;have eN:=congrArg dP.nx hE;simp only at eN;clear hE;refine⟨λi=>pY t.u_Paper r L n g (jz r n g) (acc i),⟨none,none,none,by rw [a0];rfl⟩,?_,?_⟩
   ·rintro i z δ hz ⟨o6,o7,o8,rfl⟩;rw [Q9] at hz;cases hz':M[i]? with
    | none=>rw [hz'] at hz;cases hz
    | some x=>
     rw [hz'] at hz;cases hz;have xo:=ok.2 x (RA hz');have tl:=al i;have none_:=an i x hz';have some_:=as i x hz';obtain⟨nm,pt⟩:=x;simp only [cI];have fin:∀a(o6 o7 o8:Option Sl),acc (i+1)=a->pY t.u_Paper r L n g (jz r n g) (acc (i+1)) [some (Sl.v (Rp.enc t.u_Paper r)),some (Sl.v (RB (RZ cI L))),some (Sl.v (Rv n)),some (Sl.v g.enc),some (Sl.v (SI ((jz r n g).map λm=>QZ m))),some (Sl.o a),o6,o7,o8]:=λa o6 o7 o8 e=>⟨o6,o7,o8,by rw [e]⟩;generalize pY t.u_Paper r L n g (jz r n g) (acc (i+1))=NX at fin⊢;clear eN;cases pt with
     | two w2 kd=>
      have k1:w2≠QU "gone":=λe=>xo.1 (.inr e);simp only [Pt.enc];generalize hD:fg (fU 8 _) _=TD;generalize hW:fD (gG _ (gP _)) _ _=TW;walk_at "d";rw [cf k1,Ys Q5];clear hD;subst hW;walk_at "d";by_cases hw:w2=QU "follow"
      ·subst hw;rw [Yt (beq_self_eq_true _)];cases hl:jz r n g with
       | nil=>
        rw [hl] at fin;rw [Ys Yv];exact fin _ _ _ _ (none_ (by show(if QU "follow"=QU "follow" then(jz r n g).head?.map QZ else none)=none;rw [Yt rfl,hl];rfl))
       | cons m l=>
        rw [hl] at fin;rw [Yt (by rfl)];exact⟨_,dH,Yr,fin _ _ _ _ (some_ (.str m) (by show(if QU "follow"=QU "follow" then(jz r n g).head?.map QZ else none)=some _;rw [Yt rfl,hl];rfl))⟩
      ·rw [cf hw,Ys Q5];exact fin _ _ _ _ (none_ (by show(if w2=QU "follow" then(jz r n g).head?.map QZ else none)=none;rw [Ys hw]))
     | five w2 kd si k u=>
      have k1:w2≠QU "follow":=λe=>by rcases xo.1 with z | z <;> rw [z] at e <;> exact absurd e Yp
      simp only [Pt.enc];generalize hW:fD (gG _ (gP _)) _ _=TW;generalize hE2:dP.mk _ _ _ _=E2;have eN2:E2.nx=NX:=by rw [<-hE2]
      have pass:∀a(o8:Option Sl),acc (i+1)=a->TW E2 [some (Sl.v (Rp.enc t.u_Paper r)),some (Sl.v (RB (RZ cI L))),some (Sl.v (Rv n)),some (Sl.v g.enc),some (Sl.v (SI ((jz r n g).map λm=>QZ m))),some (Sl.o a),some (Sl.v (QZ nm)),some (Sl.v (RB [QZ w2,QZ kd,si.enc,Rv k,QZ u])),o8]:=λa o8 e=>by
       subst hW;walk_at "d";rw [cf k1,Ys Q5,eN2];exact fin _ _ _ _ e
      clear hW hE2;walk_at "d";by_cases hw:w2=QU "gone"
      ·subst hw;rw [Yt (beq_self_eq_true _)];refine⟨r,QU "gone",kd,si,k,u,n,rfl,xo.2.2.1,xo.2.2.2.2.2,hr',?_⟩;have df:pX r n g (.five (QU "gone") kd si k u)=if QU "gone"=QU "gone"/\pV n (fL r n (.five (QU "gone") kd si k u))=false then some (bX (fL r n (.five (QU "gone") kd si k u))) else none:=rfl
       cases hd:fL r n (.five (QU "gone") kd si k u) with
       | none=>
        rw [hd] at df;simp only [bX,eO];walk_at "d";exact pass _ _ (none_ (by rw [df,Ys λz=>Bool.noConfusion (show true=false from z.2)]))
       | some d=>
        rw [hd] at df;simp only [bX,eO];walk_at "d";by_cases hdn:d<=n
        ·rw [Yt hdn];refine⟨Yr,?_⟩;exact pass _ _ (some_ (.int d) (by rw [df,Yt ⟨rfl,decide_eq_false Yr⟩];rfl))
        ·rw [Ys hdn];exact pass _ _ (none_ (by rw [df,Ys λz=>hdn (by have:=of_decide_eq_false z.2;omega)]))
      ·rw [cf hw,Ys Q5];exact pass _ _ (none_ (by show(if w2=QU "gone"/\pV n (fL r n (.five w2 kd si k u))=false then some (bX (fL r n (.five w2 kd si k u))) else none)=none;rw [Ys λz=>hw z.1]))
   ·rintro δ ⟨o6,o7,o8,rfl⟩;rw [<-eN,QW,ae];walk_at "d";exact q
def Ff(kd:Str):Pt->Bool
 | .two w k=>w==QU "leave" && k==kd
 | _=>false
def iu(kd:Str)(L:List (Str×Pt)):List Str:=(L.filter λz=>Ff kd z.2).map (·.1)
theorem N2{a b:Str}:(a==b)=decide (a=b):=by
 by_cases h:a=b
 ·simp [h]
 ·rw [cf h,decide_eq_false h]
def N3:List Yw->(Yw->Prop)->Prop:=λds Q=>∃(kd:Str)(L:List (Str×Pt)),ds=[.str kd,.tuple (L.map cI)]/\Q2 kd=true/\iY L/\Q (.list ((iu kd L).map .str))
theorem N4{w:Str}(h:KG w):Q2 w=true:=by rcases h with h | h <;> rw [h] <;> decide+kernel
theorem N5{w:Str}(h:oC w):Q2 w=true:=by rcases h with h | h | h <;> rw [h] <;> decide+kernel
theorem bW.lay{s:bW}(h:s.Ok):bQ 2 s.enc:=by
 cases s with
 | com=>exact fh (bR (fG Yp) fF)
 | fst wd=>exact fh (bR (fG Yp) (bR (fG h) fF))
 | lst wd=>exact fh (bR (fG Yp) (bR (fG h) fF))
theorem Pt.lay{p:Pt}(h:p.Ok):bQ 3 p.enc:=by
 cases p with
 | two w kd=>exact(fh (n:=1) (bR (fG h.2.1) (bR (fG h.2.2) fF))).mono Yq
 | five w kd s k u=>exact fh (bR (fG (N4 h.1)) (bR (fG h.2.1) (bR (bW.lay h.2.2.1) (bR Cy (bR (fG (N5 h.2.2.2.2.2)) fF)))))
theorem N6(T:Txt K mg t):aA P w K mg base CX0 1 t.a_c t.d_c ["kind","rules"] (aU K N3):=by
 refine T.F_c.F.okD MU (λds Q h=>?_) (λ_ _ _ _ H O ds Q E hr h=>?_)
 ·obtain⟨kd,L,rfl,_⟩:=h;rfl
 ·obtain⟨kd,L,rfl,hk,hL,q⟩:=h;refine'⟨_,?A,?B⟩
  case A=>
   refine' aw ?C
   case' C=>refine' aR ?D
   case' D=>refine' fe ?E
   case E=>exact(j2 rfl Ad (df (dv 1)) (gJ (b0 aL (b0 aL gI))) vY Yq (λ_ _ _ _=>(gB (n:=2) rfl (bY (aK (i:=0) Ad.nd rfl Yu) (bY (aK (i:=1) Ad.nd rfl Yu) gA)))) (λ_ _ _ _=>(cZ (aQ (cD hr.units) cE (df (dv 1)) (df (bH (aa aX (aa (dv 2) aj)))) (aF _)))) (λ_ _ _ _=>(dv 0)))
  case B=>
  clear hr T;walk_at "d";refine⟨by rw [QW];have:=hL.1;omega,cX (λz:Str×Pt=>Ff kd z.2) (λz=>.str z.1) (λx hx R S h=>?_) ?_⟩
  ·have xo:=hL.2 x hx;obtain⟨nm,pt⟩:=x;have ly:=(Pt.lay xo).shp Yq;have ly2:Tz (RB [QZ (QU "leave"),QZ kd])=true:=(fh (n:=1) (bR (fG Yp) (bR (fG hk) fF))).shp Yq;simp only [cI];cases pt with
   | two w2 kd2=>
    simp only [Pt.enc] at ly⊢;walk_at "d";refine⟨ly,ly2,?_⟩;have e:(RB [QZ w2,QZ kd2]).eqv (RB [QZ (QU "leave"),QZ kd])=(w2==QU "leave" && kd2==kd):=by simp [Rr,S7,N2]
    rw [e];exact h
   | five w2 kd2 si k u=>
    simp only [Pt.enc] at ly⊢;walk_at "d";refine⟨ly,ly2,?_⟩;rw [Ys (by simp [Rr,S7])];exact h
  ·unfold iu at q;rw [Rm] at q;exact q
theorem N7{xs:List De}{n:Int}(g:ij xs)(h:iX xs n (ik xs n))(hl:(ik xs n).length<=41):iY (ik xs n):=by
 refine⟨hl,λz hz=>?_⟩;obtain⟨d,_,hm,_⟩:=(h.2 z).mp hz;obtain⟨pt,e,ok⟩:=g.ru _ _ _ hm;rw [EU (V9 e).1];exact ok
end
theorem Fg:bb (av tZ) ["ready","parts","days","paper"] ["base","parts"] 1 [1] ⟨Q3,[ (QX ".0",aab),(QX "base",aab),(QX "later",RC),(QX "parts",Rb)],false,false,[]⟩:=⟨rfl,Yp,Yp,Yp,rfl,Yp,Yp,Yp,rfl⟩
theorem Fh:bb (av qV) ["deeds","ready","days","deed"] ["name","deeds"] 1 [0] ⟨Q3,[ (QX ".0",aab),(QX "name",aab),(QX "Paper",RC),(QX "deeds",Rb)],false,false,[]⟩:=⟨rfl,Yp,Yp,Yp,rfl,Yp,Yp,Yp,rfl⟩
theorem Fi:bb (av qV) ["deeds","ready","days","deed"] ["deed"] 1 [] ⟨Q3,[(QX ".0",aab),(QX "deed",aab)],false,false,[]⟩:=⟨rfl,Yp,Yp,Yp,rfl,Yp,Yp,Yp,rfl⟩
section
variable {P:YI} {w:YJ} {K:QV} {mg:Str->Option Yx} {base:YK} {t:cg}
def oF(r:Rp):bW->List Int
 | .com=>[r.c.d]
 | .fst wd=>(dX r.hs wd).take 1
 | .lst wd=>dX r.hs wd
theorem Fj{r:Rp}(s:bW):(oF r s).length<=r.hs.length+1:=by
 have fl:∀wd,(dX r.hs wd).length<=r.hs.length:=λwd=>by
  unfold dX;rw [QW];exact RJ _ _
 cases s with
 | com=>show 1<=_;omega
 | fst wd=>show((dX r.hs wd).take 1).length<=_;rw [RI];have:=fl wd;omega
 | lst wd=>have:=fl wd;show(dX r.hs wd).length<=_;omega
theorem uB(xs:List Yw):cW xs none (some 1)=xs.take 1:=by
 cases xs with
 | nil=>rfl
 | cons a l=>rw [sO Yq (by simp;omega)];rfl
def F_d(C:Yz):List Yw->(Yw->Prop)->Prop:=λds Q=>∃(s:bW)(r:Rp),ds=[s.enc,r.enc C]/\s.Ok/\qY r.hs/\Q (.list ((oF r s).map .int))
theorem N8(T:Txt K mg t):aA P w K mg base CX0 2 t.a_d t.d_d ["since","paper"] (aU K (F_d t.u_Paper)):=by
 have G_V:=@EM P w _ _ base _ T;refine T.F_d.F.okD D7 (λds Q h=>?_) (λ_ _ _ _ H O ds Q E hr h=>?_)
 ·obtain⟨s,r,rfl,_⟩:=h;rfl
 ·obtain⟨si,r,rfl,hsi,hh,q⟩:=h;refine'⟨_,?A,?B⟩
  case A=>
   refine' ao ?C ?D
   case C=>
    refine' bJ ?E ?F bI
    case E=>exact(aQ (cz hr) cA (df (ak aG aM (df (dv 0)) (df af))) (df aX) (aF _))
    case' F=>refine' aw ?G
    case G=>exact(aR (fe (bV (aa (cb (C:=t.u_Paper) T.cl_Paper T.na_Paper_coming (dv 1)) aj))))
   case' D=>refine' ao ?H ?I
   case H=>exact(bg (i:=2) D7.nd rfl Yu (PE.imp (aE G_V (hr.mono Yq) rfl T.F_V (aa (dv 1) (aa (ak aG aM (df (dv 0)) (df af)) aj))) aN))
   case' I=>refine' aw ?J
   case' J=>refine' aR ?K
   case K=>exact(qC (aQ (cz hr) cA (df (ak aG aM (df (dv 0)) (df af))) (df aX) (aF _)) (fe (iK (df (dv 2)) ia (cq af))) (dv 2))
  case B=>
  clear hr T G_V;cases si with
  | com=>
   simp only [bW.enc];walk_at "d";exact⟨[QU "name",QU "coming",QU "kind",QU "makers",QU "happenings"],_,rfl,_,ur,q⟩
  | fst wd=>
   simp only [bW.enc];walk_at "d";rw [cf (show QU "first"≠QU "coming" by decide+kernel),Ys Q5];refine⟨r,wd,rfl,hh,hsi,_,rfl,?_⟩;rw [uB,<-T4];exact q
  | lst wd=>
   simp only [bW.enc];walk_at "d";rw [cf (show QU "last"≠QU "coming" by decide+kernel),Ys Q5];refine⟨r,wd,rfl,hh,hsi,?_⟩;show if (QU "last"==QU "first")=true then _ else _
   rw [cf (show QU "last"≠QU "first" by decide+kernel),Ys Q5];exact q
def iw(rs:List Rp)(kd:Str)(s:bW)(k:Int)(u:Str):List Int:=rs.flatMap λr=>if (r.c.kd==kd)=true then(oF r s).map λb=>jw b k u else []
theorem N9{m:Nat}{rs:List Rp}(h:∀r∈rs,r.hs.length<=m)(kd:Str)(s:bW)(k:Int)(u:Str):(iw rs kd s k u).length<=(m+1)*rs.length:=by
 unfold iw
 induction rs with
 | nil=>simp
 | cons r rs ih=>
  have ih:=ih λx hx=>h x (by simp [hx]);have hb:=Fj (r:=r) s;have h1:=h r Yv;rw [Wi,Ra,Q8,Ya];split
  ·rw [QW];omega
  ·simp only [RR];omega
def Oa(C:Yz):List Yw->(Yw->Prop)->Prop:=λds Q=>∃(rs:List Rp)(w kd:Str)(s:bW)(k:Int)(u:Str),ds=[.list (rs.map (Rp.enc C)),(Pt.five w kd s k u).enc]/\(Pt.five w kd s k u).Ok/\rs.length<=41/\(∀r∈rs,qY r.hs/\Q2 r.c.kd=true)/\Q (.list ((iw rs kd s k u).map .int))
theorem Ob(T:Txt K mg t):aA P w K mg base CX0 6 t.a_e t.d_e ["ready","parts"] (aU K (Oa t.u_Paper)):=by
 have G_d:=@N8 P w _ _ base _ T;have G_H:=@Es P w _ _ base _ T;refine T.F_e.F.okD xP (λds Q h=>?_) (λ_ _ _ _ H O ds Q E hr h=>?_)
 ·obtain⟨rs,w,kd,s,k,u,rfl,_⟩:=h;rfl
 ·obtain⟨rs,wo,kd,si,k,u,rfl,ok,rl,hr',q⟩:=h;refine'⟨_,?A,?B⟩
  case A=>
   refine' ao ?C ?D
   case C=>exact(iG (i:=2) xP.nd rfl Yu (bV aj))
   case' D=>refine' ao ?E ?F
   case E=>
    refine' nY RU rfl (dv 0) ?G aL ?H
    case G=>exact(aK (i:=3) xP.nd rfl Yu)
    case' H=>refine' aw ?I
    case' I=>refine' bJ ?J ?K bI
    case J=>exact(aQ (cD hr.units) cE (df (cb (C:=t.u_Paper) T.cl_Paper T.na_Paper_kind (dv 3))) (df (ak aG aM (df (dv 1)) (df af))) (aF _))
    case' K=>refine' aw ?L
    case L=>exact(sY (i:=2) (pv 2) (eF rfl Fg (df (PE.imp (aE G_d (hr.mono Yq) rfl T.F_d (aa (ak aG aM (df (dv 1)) (df af)) (aa (dv 3) aj))) aN)) aL bM Yq (λ_ _ _ _=>(aK (i:=0) Fg.nd rfl Yu)) (λ_ _ _ _=>dj) (λ_ _ _ _=>(PE.imp (aE G_H (hr.mono Yq) rfl T.F_H (aa (dv 0) (aa (ak aG aM (df (dv 1)) (df af)) (aa (ak aG aM (df (dv 1)) (df af)) aj)))) aN))))
   case' F=>refine' aw ?M
   case M=>exact(qD (pv 2))
  case B=>
  clear hr T G_d G_H;walk_at "d";refine⟨λi δ=>∃o3,δ=[some (Sl.v (.list (rs.map (Rp.enc t.u_Paper)))),some (Sl.v (Pt.five wo kd si k u).enc),some (Sl.o ((iw (rs.take i) kd si k u).map .int)),o3],⟨_,rfl⟩,?_,?_⟩
  ·rintro i z δ hz ⟨o3,rfl⟩;rw [Q9] at hz;cases hz':rs[i]? with
   | none=>rw [hz'] at hz;cases hz
   | some r=>
    rw [hz'] at hz;cases hz;obtain⟨h1,h2⟩:=hr' r (RA hz');have bl:=Fj (r:=r) si;have h11:=h1.1;have il:(rs.take i).length<=41:=by rw [RI];omega
    have rk:=N9 (m:=41) (rs:=rs.take i) (λx hx=>(hr' x (UA hx)).1.1) kd si k u;have rk2:(41+1)*(rs.take i).length<=42*41:=W5 _ il;simp only [Pt.enc];walk_at "d";refine⟨[QU "name",QU "coming",QU "kind",QU "makers",QU "happenings"],_,rfl,_,uu,cL.mpr h2,cL.mpr ok.2.1,?_⟩;rw [dQ];have ts:iw (rs.take (i+1)) kd si k u=iw (rs.take i) kd si k u++if (r.c.kd==kd)=true then(oF r si).map λb=>jw b k u else []:=by
     unfold iw;rw [RT,hz',UI];simp
    split
    ·rename_i hk;rw [Yt hk] at ts;refine⟨si,r,rfl,ok.2.2.1,h1,_,rfl,by rw [QW];omega,iU (λ_=>true) (λb=>.int (jw b k u)) (λb hb R S z1 _=>?_) ?_⟩
     ·walk_at "d";exact⟨b,k,u,rfl,ok.2.2.2.2.2,λx hx=>by rw [E3 hx];exact z1 rfl⟩
     ·rw [fK];refine⟨by rw [QW,QW];omega,?_,_,rfl⟩;rw [ts,Rq,Rm];rfl
    ·rename_i hk;rw [Ys hk,RN] at ts;rw [ts];exact⟨rfl,_,rfl⟩
  ·rintro δ ⟨o3,rfl⟩;walk_at "d";rw [QW,Rz (QY _)];exact q
def cN(xs:List De):List Rp:=(bu (aC xs)).map (eU xs)
def oG(x:De)(p:Str×bW×Int×Str):Prop:=∃d nm w,x= .oth (QU "rule") d nm [(Pt.five w p.1 p.2.1 p.2.2.1 p.2.2.2).enc]
theorem oG.uniq{x:De}{p q:Str×bW×Int×Str}(h:oG x p)(h':oG x q):p=q:=by
 obtain⟨d,nm,w,e⟩:=h;obtain⟨d',nm',w',e'⟩:=h';rw [e] at e';obtain⟨kd,s,k,u⟩:=p;obtain⟨kd',s',k',u'⟩:=q;simp only [De.oth.injEq,Pt.enc,RO,Si,Sj,Sb,and_true,true_and] at e';obtain⟨_,_,_,h1,h2,h3,h4⟩:=e';rw [h1,ET h2,h3,h4]
open Classical in
def cm(xs:List De)(x:De):List Int:=if h:∃p,oG x p then iw (cN xs) h.choose.1 h.choose.2.1 h.choose.2.2.1 h.choose.2.2.2 else []
theorem Oc{xs:List De}{x:De}{p:Str×bW×Int×Str}(h:oG x p):cm xs x=iw (cN xs) p.1 p.2.1 p.2.2.1 p.2.2.2:=by
 have e:∃p,oG x p:=⟨p,h⟩;unfold cm;rw [dif_pos e,h.uniq e.choose_spec]
theorem Fl{xs:List De}{x:De}(h:∀p,¬oG x p):cm xs x=[]:=by
 unfold cm;rw [dif_neg λuu77=>by obtain⟨p,z⟩:=uu77;exact h p z]
theorem Fm(xs:List De)(d:Int)(nm w2 kd:Str)(s:bW)(k:Int)(u:Str):cm xs (.oth (QU "rule") d nm [(Pt.five w2 kd s k u).enc])=iw (cN xs) kd s k u:=Oc (p:=(kd,s,k,u)) ⟨d,nm,w2,rfl⟩
theorem Fo(xs:List De)(d:Int)(nm wo w2 kd:Str):cm xs (.oth wo d nm [(Pt.two w2 kd).enc])=[]:=Fl λp uu78=>by obtain⟨_,_,_,e⟩:=uu78;simp [Pt.enc] at e
theorem Ah{xs:List De}{x:De}(h:x.isR=false):cm xs x=[]:=Fl λp uu79=>by obtain⟨_,_,_,e⟩:=uu79;rw [e] at h;simp [De.isR] at h
def gW(xs:List De):List Int:=xs.map De.d++xs.flatMap (cm xs)
def jA(xs:List De)(ns:List Int):Prop:=(∀z,z∈ns↔z∈gW xs)/\ns.Pairwise (· < ·)
theorem Od{l m:List Int}(h1:l.Pairwise (· < ·))(h2:m.Pairwise (· < ·))(h:∀z,z∈l↔z∈m):l=m:=
 nJ (λa b z=>by omega) ((U8 (h1.imp λz e=>by omega) (h2.imp λz e=>by omega)).mpr h) h1 h2
open Classical in
def eV(xs:List De):List Int:=if h:∃ns,jA xs ns then h.choose else []
theorem Ai{xs:List De}{ns:List Int}(h:jA xs ns):ns=eV xs:=by
 unfold eV;have e:∃ns,jA xs ns:=⟨ns,h⟩;rw [dif_pos e];exact Od h.2 e.choose_spec.2 λz=>(h.1 z).trans (e.choose_spec.1 z).symm
structure oH (xs:List De):Prop where
 ln:(gW xs).length < 4000
 fw:∃L:List Int,L.length < 64/\∀z∈gW xs,z∈L
theorem Fp{l L:List Int}(nd:l.Nodup)(hm:∀z∈l,z∈L):l.length<=L.length:=by
 induction l generalizing L with
 | nil=>simp
 | cons a l ih=>
  rw [Sz] at nd;obtain⟨p,q,e⟩:=Xk (hm a Yv);have:=ih (L:=p++q) nd.2 λb hb=>by
   have hb':=hm b (by simp [hb]);rw [e] at hb';rcases Rj.mp hb' with z | z
   ·exact U5 _ z
   ·rcases Q4.mp z with z | z
    ·exact absurd (by rw [<-z];exact hb) nd.1
    ·exact R0 _ z
  rw [e,Ra,Q8,Q8];rw [Ra] at this;omega
theorem Oe{xs:List De}(g:ij xs)(h:∀c∈aC xs,gU (eU xs c)):∀r∈cN xs,qY r.hs/\Q2 r.c.kd=true:=λr hr=>by
 obtain⟨c,hc,rfl⟩:=Rf.mp hr;have hc:=iR.mp hc;exact⟨(h c hc).1,g.gx.gp.kd c hc⟩
theorem Of{xs:List De}{i:Nat}{x:De}(h:xs[i]?=some x):(xs.map De.d++(xs.take (i+1)).flatMap (cm xs))=(xs.map De.d++(xs.take i).flatMap (cm xs))++cm xs x:=by
 rw [RT,h,UI,<-UX];simp
def Og:List Yw->(Yw->Prop)->Prop:=λds Q=>∃xs:List De,ds=[.tuple (xs.map De.enc)]/\ij xs/\((∀c∈aC xs,gU (eU xs c))->oH xs)/\(jA xs (eV xs)->(eV xs).length < 64->Q (.tuple ((eV xs).map .int)))
theorem Fq(T:Txt K mg t):aA P w K mg base CX0 9 t.a_f t.d_f ["deeds"] (aU K Og):=by
 have G_I:=@EL P w _ _ base _ T;have G_M:=@z5 P w _ _ base _ T;have G_e:=@Ob P w _ _ base _ T;refine T.F_f.F.okD uj (λds Q h=>?_) (λ_ _ _ _ H O ds Q E hr h=>?_)
 ·obtain⟨xs,rfl,_⟩:=h;rfl
 ·obtain⟨xs,rfl,gd,few,q⟩:=h;refine'⟨_,?A,?B⟩
  case A=>
   refine' ao ?C ?D
   case C=>exact(ic (i:=1) uj.nd rfl Yu (nc rfl Fh (df (PE.imp (aE G_M (hr.mono Yq) rfl T.F_M (aa (dv 0) aj)) aN)) aL bM Yq (λ_ _ _ _=>(aK (i:=0) Fh.nd rfl Yu)) (λ_ _ _ _=>dj) (λ_ _ _ _=>(PE.imp (rX T.mk_Paper G_I (hr.mono Yq) rfl T.c_Paper T.F_I.b .nil fx (aa (dv 1) (aa (dv 0) aj))) vZ))))
   case' D=>refine' ao ?E ?F
   case E=>exact(Dv (i:=2) uj.nd rfl Yu (nc rfl Fi (df (dv 0)) aL bM Yq (λ_ _ _ _=>(aK (i:=0) Fi.nd rfl Yu)) (λ_ _ _ _=>dj) (λ_ _ _ _=>(ak aG aM (df (dv 0)) (df af)))))
   case' F=>refine' ao ?G ?H
   case G=>
    refine' ph RU rfl (dv 0) ?I aL ?J
    case I=>exact(aK (i:=3) uj.nd rfl Yu)
    case' J=>refine' aw ?K
    case' K=>refine' bJ ?L ?M bI
    case L=>exact(PW.pt (fC (aQ (cz hr) cA (df (ak aG aM (df (dv 3)) (df af))) (df aX) (aF _)) (fB (aQ (oj hr) om (df (ak aG aM (df (ak aG aM (df (dv 3)) (df af))) (df af))) (df (bH (aa aX (aa aX aj)))) rfl))))
    case' M=>refine' aw ?N
    case N=>exact(wj (i:=2) (pv 2) (PE.imp (aE G_e (hr.mono Yq) rfl T.F_e (aa (dv 1) (aa (ak aG aM (df (dv 3)) (df af)) aj))) aN))
   case' H=>refine' aw ?O
   case O=>exact(aR (PE.imp (cU fP rfl T.n_tuple fR (bj (df (fe (LR rfl rfl T.n_sorted Tn rfl T.n_set (bj (dw 2) br)))) br)) (bz fV)))
  case B=>
  clear hr T G_I G_M G_e;walk_at "d";have ln:=gd.gx.ln;have ol:=iS (ps:=aC xs);have pl:=gd.gx.gp.ln;refine⟨xs,rfl,gd.gx,_,rfl,by rw [QW,QW];omega,?_⟩;refine⟨λi acc=>acc=((bu (aC xs)).take i).map (λc=>(eU xs c).enc t.u_Paper)/\∀c∈(bu (aC xs)).take i,gU (eU xs c),⟨rfl,Yv⟩,?_,?_⟩
  ·rintro i z acc hz ⟨rfl,hh⟩;rw [Q9,Q9] at hz;cases hz':(bu (aC xs))[i]? with
   | none=>rw [hz'] at hz;cases hz
   | some c=>
    rw [hz'] at hz;cases hz;walk_at "d";have hc:=iR.mp (RA hz');refine⟨xs,c,rfl,gd,hc,λh1 h2 h3=>⟨?_,λc' hc'=>?_⟩⟩
    ·rw [RT,hz',Rq];rfl
    ·rw [RT,hz'] at hc';rcases Rj.mp hc' with y | y
     ·exact hh c' y
     ·have y:c'=c:=by simpa using y
      rw [y];exact E5 gd hc h1 h3
  ·rintro acc ⟨rfl,hh⟩;simp only [QW,XG] at hh⊢;have hh:∀c∈aC xs,gU (eU xs c):=λc hc=>hh c (iR.mpr hc);obtain⟨f1,L,f2,f3⟩:=few hh;have hok:=Oe gd hh;have re:(bu (aC xs)).map (λc=>(eU xs c).enc t.u_Paper)=(cN xs).map (Rp.enc t.u_Paper):=by unfold cN;rw [Rm];rfl
   have rl:(cN xs).length<=41:=by unfold cN;rw [QW];omega
   rw [re];refine⟨Yr,iU (λ_=>true) (λx:De=>.int x.d) (λx hx R S h1 _=>?_) ?_⟩
   ·cases x <;> simp only [De.enc,Pp.enc] <;> walk_at "d" <;> exact h1 rfl
   ·rw [fK];have bnd:∀i,(xs.map De.d++(xs.take i).flatMap (cm xs)).length<=(gW xs).length:=λi=>by
     unfold gW;rw [Ra,Ra];have:((xs.take i).flatMap (cm xs)).length<=(xs.flatMap (cm xs)).length:=by
      have e:xs.flatMap (cm xs)=(xs.take i).flatMap (cm xs)++(xs.drop i).flatMap (cm xs):=by rw [<-UI,TQ]
      rw [e,Ra];omega
     omega
    refine⟨λi δ=>∃(o3:Option Sl),δ=[some (Sl.v (.tuple (xs.map De.enc))),some (Sl.v (.list ((cN xs).map (Rp.enc t.u_Paper)))),some (Sl.o ((xs.map De.d++(xs.take i).flatMap (cm xs)).map .int)),o3],⟨none,Yv⟩,?_,?_⟩
    ·rintro i z δ hz ⟨o3,rfl⟩;rw [Q9] at hz;cases hz':xs[i]? with
     | none=>rw [hz'] at hz;cases hz
     | some x=>
      rw [hz'] at hz;cases hz;have hx:=RA hz';have ts:=Of hz';have bd:=bnd i;have bd2:=bnd (i+1);rw [ts] at bd2;simp only [ts];generalize xs.map De.d++(xs.take i).flatMap (cm xs)=L0 at bd bd2⊢;cases x with
      | pap p=>
       simp only [De.enc,Pp.enc];walk_at "d";exact⟨by rw [Ah rfl,RN],_,rfl⟩
      | oth wo d nm r=>
       simp only [De.enc];walk_at "d";by_cases hw:wo=QU "rule"
       ·subst hw;obtain⟨pt,rfl,ok⟩:=gd.ru _ _ _ hx;rw [Yt (beq_self_eq_true _)];cases pt with
        | two w2 kd=>
         refine⟨_,fE,_,rfl,_,dH,rfl,?_⟩;rw [dQ,dQ,cf (λe=>ok.1 (.inl e.symm)),cf (λe=>ok.1 (.inr e.symm)),Ys Yq];exact⟨by rw [Fo,RN],_,rfl⟩
        | five w2 kd s k u=>
         refine⟨_,fE,_,rfl,_,dH,rfl,?_⟩;have hk:((QZ (QU "keep")).eqv (QZ w2) || (QZ (QU "gone")).eqv (QZ w2))=true:=by
          rw [dQ,dQ];rcases ok.1 with e | e <;> rw [e] <;> decide+kernel
         rw [Yt hk];rw [Fm] at bd2⊢;rw [Ra] at bd2;exact⟨_,fE,cN xs,w2,kd,s,k,u,rfl,ok,rl,hok,_,rfl,by rw [QW,QW];omega,by rw [Rq],_,rfl⟩
       ·rw [Ys (by simpa using hw)];have:cm xs (.oth wo d nm r)=[]:=Ah (cf hw);rw [this,RN];exact⟨rfl,_,rfl⟩
    ·rintro δ ⟨o3,rfl⟩;rw [QW,Rz (QY _)];have tl:xs.map De.d++xs.flatMap (cm xs)=gW xs:=rfl;rw [tl];walk_at "d";refine⟨gW xs,rfl,f1,?_,λns h1 h2=>?_⟩
     ·refine Vp (Fp (wa .nil) λz hz=>?_) f2;rw [v9] at hz;rcases hz with y | y
      ·cases y
      ·exact f3 z y
     ·have it:jA xs ns:=⟨h1,h2⟩;have e:=Ai it;have lt:ns.length < 64:=Vp (Fp (h2.imp λz e=>by omega) λz hz=>f3 z ((h1 z).mp hz)) f2;rw [e] at it lt⊢;exact q it lt
end
theorem Fs:bb (av tR) ["deeds","day"] ["deed"] 1 [] ⟨Q3,[(QX ".0",aab),(QX "deed",aab)],false,false,[]⟩:=⟨rfl,Yp,Yp,Yp,rfl,Yp,Yp,Yp,rfl⟩
theorem Ft:bb (av tS) ["holds","line","names","hold","target","deep","reached"] ["coming","target"] 1 [4] ⟨Q3,[ (QX ".0",aab),(QX "coming",aab),(QX "is_told",RC),(QX "target",Rb)],false,false,[]⟩:=⟨rfl,Yp,Yp,Yp,rfl,Yp,Yp,Yp,rfl⟩
section
variable {P:YI} {w:YJ} {K:QV} {mg:Str->Option Yx} {base:YK} {t:cg}
def Fv(a b:Rw):Prop:=dn a.nm b.nm=true/\a.nm≠b.nm
def Uq(ws:List Str)(n:Int)(xs:List Rw):Prop:=∀x∈xs,∀y∈xs,fX ws n x->fX ws n y->x.nm=y.nm->x.n=y.n->x=y
theorem uC{ws:List Str}{n:Int}{xs res:List Rw}(h:fk ws n xs res):res.Pairwise Fv:=by
 have up:=h.up;have nd:=h.nd;rw [Sm] at up;rw [VM,Sm] at nd;exact up.and nd
theorem Fw{ws:List Str}{n:Int}{xs r1 r2:List Rw}(u:Uq ws n xs)(h1:fk ws n xs r1)(h2:fk ws n xs r2)(x:Rw)(hx:x∈r1):x∈r2:=by
 obtain⟨a1,a2,a3⟩:=h1.it x hx;obtain⟨y,hy,yn⟩:=h2.al x a1 a2;obtain⟨b1,b2,b3⟩:=h2.it y hy;have e:x=y:=u x a1 y b1 a2 b2 yn.symm (XS (b3 x a1 a2 yn.symm) (a3 y b1 b2 yn));rw [e];exact hy
theorem Oh{ws:List Str}{n:Int}{xs r1 r2:List Rw}(u:Uq ws n xs)(h1:fk ws n xs r1)(h2:fk ws n xs r2):r1=r2:=
 nJ (r:=Fv) (λa b h z=>h.2 (vM h.1 z.1)) ((U8 ((uC h1).imp λz e=>z.2 (by rw [e])) ((uC h2).imp λz e=>z.2 (by rw [e]))).mpr λx=>⟨Fw u h1 h2 x,Fw u h2 h1 x⟩) (uC h1) (uC h2)
open Classical in
def uD(ws:List Str)(n:Int)(xs:List Rw):List Rw:=if h:∃r,fk ws n xs r then h.choose else []
theorem Aj{ws:List Str}{n:Int}{xs r:List Rw}(u:Uq ws n xs)(h:fk ws n xs r):r=uD ws n xs:=by
 unfold uD;have e:∃r,fk ws n xs r:=⟨r,h⟩;rw [dif_pos e];exact Oh u h e.choose_spec
def gj(ip:Bool)(tn:Str):Yw:= .tuple [.str (if ip=true then QU "paper" else QU "kind"),.str tn]
structure Hd where
 nm:Str
 ip:Bool
 tn:Str
 dp:Bool
def Hd.enc(h:Hd):Yw:= .tuple [.str h.nm,gj h.ip h.tn,.bool h.dp]
def De.isL:De->Bool
 | .oth w _ _ _=>w==QU "hold" || w==QU "lift"
 | _=>false
structure bO (xs:List De):Prop where
 gd:ij xs
 ho:∀d nm r,De.oth (QU "hold") d nm r∈xs->∃(ip:Bool)(tn:Str)(dp:Bool),r=[gj ip tn,.bool dp]/\Q2 tn=true
 le:∀d nm r,De.oth (QU "leave") d nm r∈xs->∃kd,r=[.str kd]/\Q2 kd=true
 rh:∀x∈xs,∀y∈xs,x.isL=true->y.isL=true->x.d=y.d->x.nm=y.nm->x=y
 lv:∀x∈xs,∀y∈xs,x.w=QU "leave"->y.w=QU "leave"->x.nm=y.nm->x=y
def lK:List Str:=["hold","lift"]
def q5:List Yw->Bool×Str×Bool
 | [.tuple [.str a,.str b],.bool c]=>(a==QU "paper",b,c)
 | _=>(false,QU "",false)
def rg(x:Rw):Hd:=⟨x.nm,(q5 x.r).1,(q5 x.r).2.1,(q5 x.r).2.2⟩
theorem Fx{x:Rw}{ip dp:Bool}{tn:Str}(h:x.r=[gj ip tn,.bool dp]):rg x=⟨x.nm,ip,tn,dp⟩:=by
 unfold rg;rw [h];cases ip with
 | true=>simp [gj,q5]
 | false=>simp [gj,q5,cf (show QU "kind"≠QU "paper" by decide+kernel)]
def pZ(res:List Rw):List Hd:=(res.filter λx=>x.w==QU "hold").map rg
def p5(xs:List De)(n:Int):List Hd:=pZ (uD lK n (xs.map De.rw))
theorem Fy{w:Str}(h:w∈lK):w=QU "hold"\/w=QU "lift":=by
 unfold lK at h;rcases Q4.mp h with e | h
 ·exact .inl e
 ·rcases Q4.mp h with e | h
  ·exact .inr e
  ·cases h
theorem Ak{xs:List De}{n:Int}(g:bO xs):Uq lK n (xs.map De.rw):=by
 intro x hx y hy ox oy e1 e2;obtain⟨a,ha,rfl⟩:=Rf.mp hx;obtain⟨b,hb,rfl⟩:=Rf.mp hy;have il:∀z:De,z.rw.w∈lK->z.isL=true/\z.rw.nm=z.nm/\z.rw.n=z.d:=λz hz=>by
  cases z with
  | pap p=>exact absurd (Fy hz) (by show ¬(QU "paper"=_\/QU "paper"=_);decide+kernel)
  | oth w d nm r=>
   refine⟨?_,rfl,rfl⟩;have hz:w∈lK:=hz;rcases Fy hz with e | e <;> simp [De.isL,e]
 obtain⟨a1,a2,a3⟩:=il a ox.1;obtain⟨b1,b2,b3⟩:=il b oy.1;rw [g.rh a ha b hb a1 b1 (by rw [<-a3,<-b3];exact e2) (by rw [<-a2,<-b2];exact e1)]
def ri(hs:List Hd):Prop:=hs.length<=41/\∀h∈hs,Q2 h.tn=true
def Oi:List Yw->(Yw->Prop)->Prop:=λds Q=>∃(xs:List De)(n:Int),ds=[.tuple (xs.map De.enc),.int n]/\bO xs/\(ri (p5 xs n)->Q (.tuple ((p5 xs n).map Hd.enc)))
theorem Oj(T:Txt K mg t):aA P w K mg base CX0 2 t.a_S t.d_S ["deeds","day"] (aU K Oi):=by
 have G_Q:=@EO P w _ _ base _ T;refine T.F_S.F.okD MQ (λds Q h=>?_) (λ_ _ _ _ H O ds Q E hr h=>?_)
 ·obtain⟨xs,n,rfl,_⟩:=h;rfl
 ·obtain⟨xs,n,rfl,g,q⟩:=h;refine'⟨_,?A,?B⟩
  case A=>
   refine' aw ?C
   case' C=>generalize hG2:Yn _ _ _ _=eg2
   refine' aR ?D
   case' D=>subst hG2
   exact(PE.imp (cU fP rfl T.n_tuple fR (bj (df (fe (eF rfl Fs (df (PE.imp (aE G_Q (hr.mono Yq) rfl T.F_Q (aa (dv 0) (aa (bH (aa aX (aa aX aj))) (aa (dv 1) aj)))) aN)) aL bM Yq (λ_ _ _ _=>(aK (i:=0) Fs.nd rfl Yu)) (λ_ _ _ _=>(cZ (aQ (cz hr) cA (df (ak aG aM (df (dv 0)) (df af))) (df aX) (aF _)))) (λ_ _ _ _=>(bH (aa (ak aG aM (df (dv 0)) (df af)) (aa (ak aG aM (df (dv 0)) (df af)) (aa (ak aG aM (df (dv 0)) (df af)) aj)))))))) br)) (bz fV))
  case B=>
  clear hr T G_Q;have ok:=EZ g.gd (λw d nm r h=>g.gd.gx.w _ h);walk_at "d";refine⟨xs.map De.rw,lK,n,by rw [EW];rfl,ok.st,Yp,ok.le,λres hres=>⟨_,rfl,?_,?_⟩⟩
  ·rw [QW];have:=hres.le;have:=ok.le;omega
  have fm:∀x∈res,x.w=QU "hold"->∃(ip:Bool)(tn:Str)(dp:Bool),x.r=[gj ip tn,.bool dp]/\Q2 tn=true:=λx hx hw=>by
   obtain⟨h1,_,_⟩:=hres.it x hx;obtain⟨y,hy,rfl⟩:=Rf.mp h1;cases y with
   | pap p=>exact absurd hw (by show QU "paper"≠_;decide+kernel)
   | oth w d nm r=>
    have hw:w=QU "hold":=hw;subst hw;exact g.ho _ _ _ hy
  have e:=Aj (Ak g) hres;have q:ri (pZ res)->Q (.tuple ((pZ res).map Hd.enc)):=by rw [e];exact q
  refine cX (enc:=Rw.enc) (λx=>x.w==QU "hold") (λx=>(rg x).enc) (λx hx R S h=>?_) ?_
  ·simp only [Rw.enc];walk_at "d";by_cases hr:(x.w==QU "hold")=true
   ·rw [Yt hr] at h⊢;obtain⟨ip,tn,dp,hp,_⟩:=fm x hx (eq_of_beq hr);rw [Fx hp] at h;rw [hp];exact⟨_,fE,_,kx,h⟩
   ·rw [Ys hr] at h⊢;exact h
  ·have e2:(Ue (λx=>x.w==QU "hold") res).map (λx=>(rg x).enc)=(pZ res).map Hd.enc:=by unfold pZ;rw [Rm];rfl
   rw [e2];refine q ⟨?_,λh hh=>?_⟩
   ·unfold pZ;rw [QW];have h1:=RJ (λx:Rw=>x.w==QU "hold") res;have h2:=hres.le;rw [QW] at h2;have:=g.gd.gx.ln;omega
   ·obtain⟨x,hx,rfl⟩:=Rf.mp hh;obtain⟨hx1,hx2⟩:=RP.mp hx;obtain⟨ip,tn,dp,hp,hk⟩:=fm x hx1 (eq_of_beq hx2);rw [Fx hp];exact hk
def jB(ip:Bool)(tn:Str)(c:Pp):Bool:=tn==if ip=true then c.nm else c.kd
def Fz:List Yw->(Yw->Prop)->Prop:=λds Q=>∃(ip:Bool)(tn:Str)(c:Pp),ds=[gj ip tn,c.enc]/\Q2 tn=true/\Q2 c.nm=true/\Q2 c.kd=true/\Q (.bool (jB ip tn c))
theorem Ol(T:Txt K mg t):aA P w K mg base CX0 1 t.a_T t.d_T ["target","coming"] (aU K Fz):=by
 refine T.F_T.F.okD MR (λds Q h=>?_) (λ_ _ _ _ H O ds Q E hr h=>?_)
 ·obtain⟨ip,tn,c,rfl,_⟩:=h;rfl
 ·obtain⟨ip,tn,c,rfl,h1,h2,h3,q⟩:=h;refine'⟨_,?A,?B⟩
  case A=>
   refine' aw ?C
   case' C=>refine' aR ?D
   case D=>exact(dG (cD hr.units) cE (df (ak aG aM (df (dv 0)) (df af))) (df (qC (aQ (cz hr) cA (df (ak aG aM (df (dv 0)) (df af))) (df aX) (aF _)) (ak aG aM (df (dv 1)) (df af)) (ak aG aM (df (dv 1)) (df af)))) (aF _))
  case B=>
  clear hr T;simp only [gj,Pp.enc];unfold jB at q;cases ip with
  | true=>
   walk_at "d";exact⟨cL.mpr h1,cL.mpr h2,q⟩
  | false=>
   walk_at "d";rw [Ys (show ¬(QU "kind"==QU "paper")=true by decide+kernel)];exact⟨cL.mpr h1,cL.mpr h3,q⟩
def rj(line:List Pp)(h:Hd):Bool:=(if h.dp=true then line else line.take 1).any (jB h.ip h.tn)
def gX(hs:List Hd)(line:List Pp):List Str:=(hs.filter (rj line)).map (·.nm)
def uE(line:List Pp):Prop:=line.length<=41/\∀c∈line,Q2 c.nm=true/\Q2 c.kd=true
def F_U:List Yw->(Yw->Prop)->Prop:=λds Q=>∃(hs:List Hd)(line:List Pp),ds=[.tuple (hs.map Hd.enc),.list (line.map Pp.enc)]/\ri hs/\uE line/\Q (.tuple ((gX hs line).map .str))
theorem Om(T:Txt K mg t):aA P w K mg base CX0 2 t.a_U t.d_U ["holds","line"] (aU K F_U):=by
 have G_T:=@Ol P w _ _ base _ T;refine T.F_U.F.okD pI (λds Q h=>?_) (λ_ _ _ _ H O ds Q E hr h=>?_)
 ·obtain⟨hs,line,rfl,_⟩:=h;rfl
 ·obtain⟨hs,line,rfl,ho,lo,q⟩:=h;refine'⟨_,?A,?B⟩
  case A=>
   refine' ao ?C ?D
   case C=>exact(iG (i:=2) pI.nd rfl Yu (bV aj))
   case' D=>refine' ao ?E ?F
   case E=>
    refine' ph RU rfl (dv 0) ?G (gJ (b0 aL (b0 aL (b0 aL gI)))) ?H
    case G=>exact(gB (n:=3) rfl (bY (aK (i:=3) pI.nd rfl Yu) (bY (aK (i:=4) pI.nd rfl Yu) (bY (aK (i:=5) pI.nd rfl Yu) gA))))
    case' H=>refine' ao ?I ?J
    case I=>exact(bg (i:=6) pI.nd rfl Yu (qC (jf (dv 5)) (dv 1) (fe (iK (df (dv 1)) ia (cq af)))))
    case' J=>refine' aw ?K
    case' K=>refine' bJ ?L ?M bI
    case L=>exact(jf (PE.imp (bU (vz rfl) rfl T.n_any vA (bj (df (fe (eF rfl Ft (df (dv 6)) aL bM Yq (λ_ _ _ _=>(aK (i:=0) Ft.nd rfl Yu)) (λ_ _ _ _=>dj) (λ_ _ _ _=>(PE.imp (aE G_T (hr.mono Yq) rfl T.F_T (aa (dv 1) (aa (dv 0) aj))) aN))))) br)) (bz vE)))
    case' M=>refine' aw ?N
    case N=>exact(lU (i:=2) (pv 2) (dv 3))
   case' F=>refine' aw ?O
   case O=>exact(aR (PE.imp (cU fP rfl T.n_tuple fR (bj (dw 2) br)) (bz fV)))
  case B=>
  clear hr T G_T;have h41:=ho.1;have l41:=lo.1;walk_at "d";refine⟨λi δ=>∃o3 o4 o5 o6,δ=[some (Sl.v (.tuple (hs.map Hd.enc))),some (Sl.v (.list (line.map Pp.enc))),some (Sl.o ((gX (hs.take i) line).map .str)),o3,o4,o5,o6],⟨_,_,_,_,rfl⟩,?_,?_⟩
  ·rintro i z δ hz ⟨o3,o4,o5,o6,rfl⟩;rw [Q9] at hz;cases hz':hs[i]? with
   | none=>rw [hz'] at hz;cases hz
   | some h=>
    rw [hz'] at hz;cases hz;have hk:=ho.2 h (RA hz');have ts:gX (hs.take (i+1)) line=gX (hs.take i) line++if rj line h=true then [h.nm] else []:=by
     unfold gX;rw [RT,hz',VZ,Rq];congr 1;by_cases e:rj line h=true
     ·simp [e]
     ·simp [e]
    have ll:(gX (hs.take i) line).length<=41:=by
     unfold gX;rw [QW];have:=RJ (rj line) (hs.take i);rw [RI] at this;omega
    have key:∀(l2:List Pp)(R:List Yw->Prop),(∀c∈l2,c∈line)->R ((l2.map (jB h.ip h.tn)).map .bool)->jm (iH 0) h7 (gH Fz (hV (bZ 1) (hV (bZ 0) gF))) [none,some (Sl.v (gj h.ip h.tn))] (l2.map Pp.enc) R:=λl2 R hl hR=>by
     refine iU (λ_=>true) (λc=>.bool (jB h.ip h.tn c)) (λc hc R S h1 _=>?_) (by rw [fK];rw [Rm] at hR;exact hR);walk_at "d";exact⟨h.ip,h.tn,c,rfl,hk,(lo.2 c (hl c hc)).1,(lo.2 c (hl c hc)).2,h1 rfl⟩
    simp only [Hd.enc];simp only [ts];have ec:rj line h=(if h.dp=true then line else line.take 1).any (jB h.ip h.tn):=rfl;rw [ec];generalize gX (hs.take i) line=A0 at ll;have fin:∀(l2:List Pp)(x:Option Sl),if (l2.map (jB h.ip h.tn)).any id=true then(A0.map QZ).length < 16777216/\A0.map QZ++[QZ h.nm]=(A0++if l2.any (jB h.ip h.tn)=true then [h.nm] else []).map QZ/\∃y,x=y else A0.map QZ=(A0++if l2.any (jB h.ip h.tn)=true then [h.nm] else []).map QZ/\∃y,x=y:=λl2 x=>by
     rw [VL];show if l2.any (jB h.ip h.tn)=true then _ else _
     split
     ·exact⟨by rw [QW];omega,Yv,_,rfl⟩
     ·exact⟨Yv,_,rfl⟩
    cases hd:h.dp with
    | true=>
     walk_at "d";exact⟨by rw [QW];omega,key line _ (λ_ h=>h) ⟨_,rfl,fin line _⟩⟩
    | false=>
     walk_at "d";rw [uB,<-T4];have lt:(line.take 1).length<=41:=by rw [RI];omega
     exact⟨by rw [QW];omega,key (line.take 1) _ (λ_ h=>UA h) ⟨_,rfl,fin (line.take 1) _⟩⟩
  ·rintro δ ⟨o3,o4,o5,o6,rfl⟩;walk_at "d";rw [QW,Rz (QY _)];exact q
theorem Oo{g:DG}{tb:DS}{E:dP}{xs:List Yw}{δf:Int->Dl}{C D p q X:Prop} [Decidable C] [Decidable D]{d1 d2 d3:Int}(hp:p)(hq:q)(hX:X)(key:∀dg,gL g tb E xs (δf dg)):
 if C then p/\q/\gL g tb E xs (δf d1) else X/\if D then p/\q/\gL g tb E xs (δf d2) else p/\q/\gL g tb E xs (δf d3):=by
 split
 ·exact⟨hp,hq,key _⟩
 ·refine⟨hX,?_⟩;split
  ·exact⟨hp,hq,key _⟩
  ·exact⟨hp,hq,key _⟩
def FA:List Yw->(Yw->Prop)->Prop:=λds Q=>∃(ns:List Int)(k:Int),ds=[fS (ns.map .int),.int k]/\0<=k/\k<=1000/\∀c:Int,Q (.int c)
theorem Al(T:Txt K mg t):aA P w K mg base CX0 1 t.a_v t.d_v ["_law_script","_law_k"] (aU K FA):=by
 refine T.F_v.F.okD uk (λds Q h=>?_) (λ_ _ _ _ H O ds Q E hr h=>?_)
 ·obtain⟨ns,k,rfl,_⟩:=h;rfl
 ·obtain⟨ns,k,rfl,k0,k1,q⟩:=h;refine'⟨_,?A,?B⟩
  case A=>
   refine' ao ?C ?D
   case C=>
    refine' bJ ?E ?F bI
    case E=>exact(aQ rR di (df (dv 1)) (df (PE.imp (bU dO rfl T.n_len R9 (bj (df (dv 0)) br)) (bz JT))) (aF _))
    case' F=>refine' aw ?G
    case G=>exact(aR (ak aP KR (df (dv 0)) (df (dv 1))))
   case' D=>refine' ao ?H ?I
   case H=>
    refine' bg (i:=2) uk.nd rfl Yu ?J (hs:=iM)
    case J=>exact(ar aW aD (df (ar d9 aD (df af) (df (ar bA bN (df (ar bA bN (df (ar d9 aD (df (dv 1)) (df (dv 1)))) (df (ar d9 aD (df af) (df (dv 1)))))) (df af))))) (df af))
   case' I=>refine' ao ?K ?L
   case K=>
    refine' nY RU rfl (fe (KS (df (dv 0)) ia (cq af))) ?M aL ?N
    case M=>exact(aK (i:=3) uk.nd rfl Yu)
    case' N=>refine' aw ?O
    case' O=>refine' bg (i:=2) uk.nd rfl Yu ?P (hs:=iM)
    case P=>exact(ar aW aD (df (ar bA bN (df (ar d9 aD (df (dv 2)) (df af))) (df (dv 3)))) (df af))
   case' L=>refine' aw ?Q
   case Q=>exact(aR (dv 2))
  case B=>
  clear hr T;walk_at "d";refine⟨_,rfl,?_⟩;rw [QW];split
  ·rename_i hlt;obtain⟨j,rfl⟩:=SY k0;have hj:j < ns.length:=Yr
   exact⟨_,rfl,.int ns[j],fO (by simp [hj]),q _⟩
  ·refine⟨.inl ⟨Yr,Yr⟩,_,rfl,λi δ=>∃(st:Int)(o:Option Sl),δ=[some (Sl.v (fS (ns.map .int))),some (Sl.v (.int k)),some (Sl.v (.int st)),o],⟨_,_,rfl⟩,?_,?_⟩
   ·rintro i x δ hx ⟨st,o,rfl⟩;have hm:=RA hx;unfold cW at hm;have hm2:=W0 (UA hm);obtain⟨c,_,rfl⟩:=Rf.mp hm2;walk_at "d";exact⟨_,rfl⟩
   ·rintro δ ⟨st,o,rfl⟩;walk_at "d";exact q _
def FC:List Yw->(Yw->Prop)->Prop:=λds Q=>∃c m:Int,ds=[.int c,.int m]/\0<=m/\m<=64/\∀ns:List Int,(ns.length:Int)=m->(∀z∈ns,0<=z/\z < 2000000000)->Q (.list (ns.map .int))
theorem Am(T:Txt K mg t):aA P w K mg base CX0 1 t.a_w t.d_w ["_law_cell_here","_law_many"] (aU K FC):=by
 refine T.F_w.F.okD nG (λds Q h=>?_) (λ_ _ _ _ H O ds Q E hr h=>?_)
 ·obtain⟨c,m,rfl,_⟩:=h;rfl
 ·obtain⟨c,m,rfl,m0,m1,q⟩:=h;refine'⟨_,?A,?B⟩
  case A=>
   refine' ao ?C ?D
   case C=>exact(iG (i:=2) nG.nd rfl Yu (bV aj))
   case' D=>refine' ao ?E ?F
   case E=>
    refine' bg (i:=3) nG.nd rfl Yu ?G (hs:=iM)
    case G=>exact(ar aW aD (df (ar d9 aD (df (ar bA bN (df (ar aW aD (df (dv 0)) (df af))) (df af))) (df af))) (df af))
   case' F=>refine' ao ?H ?I
   case H=>exact(bg (i:=4) nG.nd rfl Yu af)
   case' I=>refine' ao ?J ?K
   case J=>
    refine' bJ ?L ?M bI
    case L=>exact(PW.pt (sI (aQ rR di (df (dv 0)) (df af) (aF _)) (sH (aQ Bg di (df (dv 0)) (df (ar A9 aD (df af) (df af))) (aF _)))))
    case' M=>refine' aw ?N
    case N=>exact(bg (i:=4) nG.nd rfl Yu (PE.imp (bU HQ rfl T.n_abs PyProof.Rows.boot_abs (bj (df (dv 0)) br)) (bz KQ)))
   case' K=>refine' ao ?O ?P
   case O=>
    refine' BY RU rfl rfl T.n_range (aa (dv 1) aj) ?Q aL ?R
    case Q=>exact(aK (i:=5) nG.nd rfl Yu)
    case' R=>refine' ao ?S ?T
    case S=>
     generalize hG15:Wo _ _ _ _=eg15;refine' bg (i:=3) nG.nd rfl Yu ?U (hs:=by subst hG15;exact iM)
     case' U=>subst hG15
     exact(ar aW aD (df (ar bA bN (df (ar bA bN (df (ar d9 aD (df (dv 3)) (df (ar bA bN (df (ar aW aD (df (dv 3)) (df af))) (df af))))) (df (ar d9 aD (df af) (df (dv 5)))))) (df af))) (df af))
    case' T=>refine' ao ?V ?W
    case V=>
     refine' lU (i:=2) (pv 2) ?X
     case' X=>refine' ak aP aS (df ?Y) ?Z
     case Y=>exact(fe (bV (aa (dv 3) (aa (ar aW aD (df (dv 4)) (df af)) aj))))
     case Z=>exact(df (PE.imp (cU qu rfl T.n_int qz (bj (df (dG jJ di (df (dv 4)) (df af) (aF _))) br)) (bz qE)))
    case' W=>refine' aw ?a
    case a=>exact(bg (i:=4) nG.nd rfl Yu (ar cQ aD (df (dv 4)) (df af)))
   case' P=>refine' aw ?b
   case b=>exact(qD (pv 2))
  case B=>
  clear hr T;walk_at "d";have bB:0<=(c % 1999999913+41)*674506081 % 1999999913/\(c % 1999999913+41)*674506081 % 1999999913 < 1999999913:=⟨T2 _ Yq,To _ Yq⟩;generalize (c % 1999999913+41)*674506081 % 1999999913=st at*;have b1:-4611686018427387904<=m:=Yr
  have b2:m < 4611686018427387904:=Yr
  refine Oo (δf:=λdg=>[some (Sl.v (.int c)),some (Sl.v (.int m)),some (Sl.o []),some (Sl.v (.int st)),some (Sl.v (.int dg)),none]) b1 b2 Yq ?c
  case c=>
   intro dg;refine⟨λi δ=>∃(ns:List Int)(st dg:Int)(o:Option Sl),ns.length=i/\(∀z∈ns,0<=z/\z < 2000000000)/\0<=st/\st < 1999999913/\δ=[some (Sl.v (.int c)),some (Sl.v (.int m)),some (Sl.o (ns.map .int)),some (Sl.v (.int st)),some (Sl.v (.int dg)),o],⟨[],st,dg,none,rfl,Yv,bB.1,bB.2,rfl⟩,?_,?_⟩
   ·rintro i x δ hx ⟨ns,st,dg,o,hl,hn,s0,s1,rfl⟩;obtain⟨hi,rfl⟩:=qF hx;clear bB;walk_at "d";have n0:0<=(st*(st % 64921+39119)+11*(0+(i:Int))+3)% 1999999913:=T2 _ Yq;have n1:(st*(st % 64921+39119)+11*(0+(i:Int))+3)% 1999999913 < 1999999913:=To _ Yq;generalize (st*(st % 64921+39119)+11*(0+(i:Int))+3)% 1999999913=nx at*;have d0:0<=dg % 1000000:=T2 _ Yq;have d1:dg % 1000000 < 1000000:=To _ Yq;obtain⟨z,hz,z0,z1⟩:∃z:Int,atI [Rv nx,Rv (dg % 1000000)] (if 0 < dg then 1 else 0)=some (.int z)/\0<=z/\z < 2000000000:=by
     split
     ·exact⟨_,eM,d0,Yr⟩
     ·exact⟨_,dH,n0,Yr⟩
    refine⟨.inl ⟨Yr,Yr⟩,.int z,hz,by rw [QW];omega,ns++[z],by simp [hl],λy hy=>?_,nx,n0,n1,Yv,rfl,_,rfl⟩;rcases Rj.mp hy with h | h
    ·exact hn y h
    ·rw [Rk] at h;rw [h];exact⟨z0,z1⟩
   ·rintro δ ⟨ns,st,dg,o,hl,hn,s0,s1,rfl⟩;walk_at "d";have hm:(ns.length:Int)=m:=by rw [hl];unfold nW;simp;omega
    exact q ns hm hn
end
theorem FD:bb (av pF) ["_law_x","_law_many","_law_letters","_law_words","_law_size","_law_at","_law_stem","_law_ends"] ["_law_k","_law_words","_law_x"] 1 [3,0] ⟨Q3,[ (QX ".0",aab),(QX "_law_k",aab),(QX "len",RC),(QX "_law_words",Rb),(QX "_law_x",Rb)],false,false,[]⟩:=⟨rfl,Yp,Yp,Yp,rfl,Yp,Yp,Yp,rfl⟩
theorem FF:bb (av pF) ["_law_x","_law_many","_law_letters","_law_words","_law_size","_law_at","_law_stem","_law_ends"] ["_law_k","_law_letters","_law_x"] 1 [2,0] ⟨Q3,[ (QX ".0",aab),(QX "_law_k",aab),(QX "_law_letters",Rb),(QX "_law_x",Rb)],false,false,[]⟩:=⟨rfl,Yp,Yp,Yp,rfl,Yp,Yp,Yp,rfl⟩
theorem FG:bb (av pF) ["_law_x","_law_many","_law_letters","_law_words","_law_size","_law_at","_law_stem","_law_ends"] ["_law_one","_law_stem","_law_at","_law_size"] 1 [6,5,4] ⟨Q3,[ (QX ".0",aab),(QX "_law_one",aab),(QX "_law_at",Rb),(QX "_law_size",Rb),(QX "_law_stem",Rb)],false,false,[]⟩:=⟨rfl,Yp,Yp,Yp,rfl,Yp,Yp,Yp,rfl⟩
section
variable {P:YI} {w:YJ} {K:QV} {mg:Str->Option Yx} {base:YK} {t:cg}
theorem rn{c:DB}{t r:DS}{E:dP}{δ:Dl}(h:∀R,R=r->c δ λb=>if b=true then t {E with nx:=R E} δ else R E δ):fg (fD c t ji) r E δ:=h r rfl
theorem Oq{c:Nat}{n:Int}(h0:0<=n):(Wa ⟨#[c]⟩ n).cps.toList=Ri n.toNat c:=by
 have key:∀(k:Nat)(a:Array Nat),((Ri k #[c]).foldl (·++·) a).toList=a.toList++Ri k c:=by
  intro k
  induction k with
  | zero=>intro a;simp
  | succ k ih=>intro a;rw [SR,RX,ih];simp [SR]
 unfold Wa;split
 ·rw [show n.toNat=0 by omega];rfl
 ·split
  ·rename_i h;have:n=1:=by
    rw [show(⟨#[c]⟩:Str).length=1 from rfl] at h;simpa using h
   subst this;rfl
  ·show((Ri n.toNat #[c]).foldl (·++·) #[]).toList=_;rw [key];rfl
theorem mul_one{c:Nat}(hc:c < 0x110000){n:Int}(h0:0<=n)(h1:n<=50):PySem.MulOk ⟨#[c]⟩ n/\l5 n.toNat (Wa ⟨#[c]⟩ n):=by
 have lc:(⟨#[c]⟩:Str).length=1:=rfl;constructor
 ·refine⟨by simp;omega,λa b=>?_,λa b=>?_⟩
  ·rw [lc];have:(2 ^ 63 - 1:Int)/ n >= 1:=by rw [ge_iff_le,Int.le_ediv_iff_mul_le Yr];omega
   omega
  ·rw [lc];obtain⟨k,rfl⟩:=SY h0;rw [Nat.one_mul];unfold PySem.Builtin.Str.tooLong;simp;have:YH=16777216:=by first | rfl | decide | exact Y1
   omega
 ·have l:=Oq (c:=c) h0;refine⟨qH.mpr λd hd=>?_,?_⟩
  ·rw [l] at hd;rw [(List.mem_replicate.mp hd).2];exact hc
  ·show(Wa ⟨#[c]⟩ n).cps.size<=_;rw [<-RE,l,VE];exact QY _
def Ot:List Yw->(Yw->Prop)->Prop:=λds Q=>∃y:Int,ds=[.int y]/\Q (.int (cc y))
theorem Ou(T:Txt K mg t):aA P w K mg base CX0 1 t.a_y t.d_y ["_law_year"] (aU K Ot):=by
 refine T.F_y.F.okD D9 (λds Q h=>?_) (λ_ _ _ _ H O ds Q E hr h=>?_)
 ·obtain⟨y,rfl,_⟩:=h;rfl
 ·obtain⟨y,rfl,q⟩:=h;refine'⟨_,?A,?B⟩
  case A=>
   refine' ao ?C ?D
   case C=>exact(bg (i:=1) D9.nd rfl Yu (ar eZ bN (df (dv 0)) (df af)))
   case' D=>refine' aw ?E
   case' E=>generalize hG4:Wo _ _ _ _=eg4
   refine' aR ?F
   case' F=>subst hG4
   exact(ar bA bN (df (ar eZ bN (df (ar bA bN (df (ar d9 aD (df (dv 1)) (df af))) (df (ar cQ aD (df (ar bA bN (df (dv 1)) (df af))) (df af))))) (df (ar cQ aD (df (ar bA bN (df (dv 1)) (df af))) (df af))))) (df (ar cQ aD (df (ar bA bN (df (dv 1)) (df af))) (df af))))
  case B=>
  clear hr T;walk_at "d";have e:(y - 2000)*365+(y - 2000+3)/ 4 - (y - 2000+99)/ 100+(y - 2000+399)/ 400=cc y:=by rw [<-L7 y];omega
  rw [e];exact q
def ro(y:Int):List Int:=[31,28+ld y,31,30,31,30,31,31,30,31,30,31]
def Ov:List Yw->(Yw->Prop)->Prop:=λds Q=>∃y:Int,ds=[.int y]/\Q (.list ((ro y).map .int))
theorem Ow(T:Txt K mg t):aA P w K mg base CX0 1 t.a_z t.d_z ["_law_year"] (aU K Ov):=by
 refine T.F_z.F.okD Ea (λds Q h=>?_) (λ_ _ _ _ H O ds Q E hr h=>?_)
 ·obtain⟨y,rfl,_⟩:=h;rfl
 ·obtain⟨y,rfl,q⟩:=h;refine'⟨_,?A,?B⟩
  case A=>
   refine' ao ?C ?D
   case C=>
    refine' bg (i:=1) Ea.nd rfl Yu ?E (hs:=KD)
    case E=>exact(JL (dG (cD hr.units) cE (df (ar aW aD (df (dv 0)) (df af))) (df af) (aF _)) (qA (qB (dG (cD hr.units) cE (df (ar aW aD (df (dv 0)) (df af))) (df af) (aF _)) (qA (dG jJ di (df (ar aW aD (df (dv 0)) (df af))) (df af) (aF _))))))
   case' D=>refine' aw ?F
   case' F=>generalize hG5:Xl _ _=eg5
   refine' aR ?G
   case' G=>subst hG5
   refine' fe ?H
   case' H=>refine' bV ?I
   case' I=>refine' aa af ?J
   case' J=>refine' aa ?K ?L
   case K=>exact(ar bA bN (df af) (df (PE.imp (cU qu rfl T.n_int qz (bj (df (dv 1)) br)) (bz qE))))
   case L=>refine' l4 (ds:=[.int 31,.int 30,.int 31,.int 30,.int 31,.int 31,.int 30,.int 31,.int 30,.int 31]) (by rfl)
  case B=>
  clear hr T;walk_at "d";have l1:=qT y;have hl:∀b:Bool,iP y=b->ld y=if b=true then 1 else 0:=λb e=>by unfold ld;rw [e]
  have fin:∀v:Int,v=ld y->Q (.list ([31,28+v,31,30,31,30,31,31,30,31,30,31].map .int)):=λv e=>by rw [e];exact q
  split
  ·rename_i h;have h:y % 400=0:=by simpa using h
   exact fin 1 (by rw [hl true (l1.mpr (.inl h))];rfl)
  ·rename_i h;have h:¬y % 400=0:=by simpa using h
   split
   ·rename_i h4;have h4:y % 4=0:=by simpa using h4
    by_cases h1:0 < y % 100
    ·rw [Yt h1];exact fin 1 (by rw [hl true (l1.mpr (.inr ⟨h4,Yr⟩))];rfl)
    ·rw [Ys h1];exact fin 0 (by rw [hl false (by rw [<-Tp,l1];omega)];rfl)
   ·rename_i h4;have h4:¬y % 4=0:=by simpa using h4
    exact fin 0 (by rw [hl false (by rw [<-Tp,l1];omega)];rfl)
theorem FH:∀{l:List Int},(∀z∈l,z<=31)->l.sum<=31*(l.length:Int)
 | [],_=>by simp
 | a::l,h=>by
  have ih:=FH λz hz=>h z (Ru _ hz);have:=h a RK;rw [Uo,Q8];omega
theorem Ox(y:Int)(m:Nat):((ro y).take m).sum<=31*(m:Int):=by
 have h:∀z∈(ro y).take m,z<=31:=λz hz=>by
  have hz:=UA hz;have l0:ld y<=1:=by unfold ld;split <;> omega
  unfold ro at hz;simp only [Q4,Rt,or_false] at hz;omega
 have:=FH h;rw [RI] at this;omega
def An:List Str:=["paper","rule","keep","gone","coming","days","first","last","kind","deep","end","hold","lift","leave","while","follow","happens","none","never","months","there","plan"]
theorem Oy:∀z∈An,Q2 z=true:=by
 intro z hz;have a:An.all Q2=true:=Yp
 exact Wt.mp a z hz
def Oz:List Yw->(Yw->Prop)->Prop:=λds Q=>∃x m:Int,ds=[.int x,.int m]/\0<=m/\m<=50/\∀ss:List Str,(ss.length:Int)=m->(∀z∈ss,Q2 z=true)->Q (.list (ss.map .str))
theorem OA(T:Txt K mg t):aA P w K mg base CX0 1 t.a_x t.d_x ["_law_x","_law_many"] (aU K Oz):=by
 refine T.F_x.F.okD nH (λds Q h=>?_) (λ_ _ _ _ H O ds Q E hr h=>?_)
 ·obtain⟨x,m,rfl,_⟩:=h;rfl
 ·obtain⟨x,m,rfl,m0,m1,q⟩:=h;refine'⟨_,?A,?B⟩
  case A=>
   refine' ao ?C ?D
   case C=>exact(bg (i:=2) nH.nd rfl Yu aX)
   case' D=>refine' ao ?E ?F
   case E=>
    generalize hE4_0:Xl _ _=ee4_0;exact bg (i:=3) nH.nd rfl Yu (fe (vI (ds:=[.str "paper",.str "rule",.str "keep",.str "gone",.str "coming",.str "days",.str "first",.str "last",.str "kind",.str "deep",.str "end",.str "hold",.str "lift"]) (by first | (subst hE4_0;rfl)))) (hs:=Ki (ds:=[.str "paper",.str "rule",.str "keep",.str "gone",.str "coming",.str "days",.str "first",.str "last",.str "kind",.str "deep",.str "end",.str "hold",.str "lift"]) (by first | (subst hE4_0;rfl)))
   case' F=>refine' ao ?G ?H
   case G=>
    generalize hE6_0:Xl _ _=ee6_0;exact(bg (i:=3) nH.nd rfl Yu (fe (nZ (df (dv 3)) (df (fe (vI (ds:=[.str "leave",.str "while",.str "follow",.str "happens",.str "none",.str "never",.str "months",.str "there",.str "plan"]) (by first | (subst hE6_0;rfl))))))))
   case' H=>refine' ao ?I ?J
   case I=>
    refine' bJ ?K ?L bI
    case K=>exact(aQ (cD hr.units) cE (df (ar aW aD (df (ar cQ aD (df (dv 0)) (df af))) (df af))) (df af) (aF _))
    case' L=>refine' aw ?M
    case' M=>refine' aR ?N
    case' N=>refine' fe ?O
    case O=>exact(JN rfl FD rfl T.n_range (bj (df (dv 1)) br) aL bM Yq (λ_ _ _ _=>(aK (i:=0) FD.nd rfl Yu)) (λ_ _ _ _=>dj) (λ_ _ _ _=>(ak aP aS (df (dv 1)) (df (ar aW aD (df (ar bA bN (df (ar cQ aD (df (dv 2)) (df af))) (df (dv 0)))) (df (PE.imp (bU dO rfl T.n_len R9 (bj (df (dv 1)) br)) (bz eG))))))))
   case' J=>refine' ao ?P ?Q
   case P=>exact(bg (i:=4) nH.nd rfl Yu (ar bA bN (df af) (df (ar aW aD (df (dv 0)) (df af)))))
   case' Q=>refine' ao ?R ?S
   case R=>exact(bg (i:=5) nH.nd rfl Yu (ar aW aD (df (ar cQ aD (df (dv 0)) (df af))) (df (dv 4))))
   case' S=>refine' ao ?T ?U
   case T=>
    refine' bg (i:=6) nH.nd rfl Yu ?V (hs:=oo)
    case V=>exact(ak BF B3 (df (dv 2)) (df (ar aW aD (df (ar cQ aD (df (dv 0)) (df af))) (df af))))
   case' U=>refine' ao ?W ?X
   case W=>exact(ic (i:=7) nH.nd rfl Yu (Cj rfl FF rfl T.n_range (bj (df (dv 1)) br) aL bM Yq (λ_ _ _ _=>(aK (i:=0) FF.nd rfl Yu)) (λ_ _ _ _=>dj) (λ_ _ _ _=>(ak BF B3 (df (dv 1)) (df (ar aW aD (df (ar bA bN (df (ar cQ aD (df (dv 2)) (df af))) (df (ar d9 aD (df af) (df (dv 0)))))) (df af)))))))
   case' X=>refine' aw ?Y
   case' Y=>refine' aR ?Z
   case' Z=>refine' fe ?a
   case a=>exact(eF rfl FG (df (dv 7)) aL bM Yq (λ_ _ _ _=>(aK (i:=0) FG.nd rfl Yu)) (λ_ _ _ _=>dj) (λ_ _ _ _=>(ar Bl B2 (df (ar Bl B2 (df (ar CC CD (df (dv 1)) (df (dv 2)))) (df (dv 0)))) (df (ar CC CD (df (dv 1)) (df (ar eZ bN (df (ar eZ bN (df (dv 3)) (df (dv 2)))) (df af))))))))
  case B=>
  clear hr T;walk_at "d";split
  ·refine⟨Yr,by have:(16777216:Nat)=(16777216:Int):=rfl;omega,?_⟩;refine⟨λi acc=>∃ys:List Str,acc=ys.map .str/\ys.length=i/\∀y∈ys,Q2 y=true,⟨[],rfl,rfl,Yv⟩,?_,?_⟩
   ·rintro i z acc hz ⟨ys,rfl,hl,hg⟩;obtain⟨hi,rfl⟩:=qF hz;walk_at "d";obtain⟨v,e1,m1⟩:=qy (xs:=An.map QZ) (i:=(x / 344+(0+(i:Int)))% 22) Yr (by show _ < (22:Int);omega);obtain⟨nm,hnm,rfl⟩:=Rf.mp m1;refine⟨Yq,_,e1,ys++[nm],by rw [Rq];rfl,by simp [hl],λy hy=>?_⟩;rcases Rj.mp hy with h | h
    ·exact hg y h
    ·rw [Rk] at h;rw [h];exact Oy nm hnm
   ·rintro acc ⟨ys,rfl,hl,hg⟩;rw [vF] at hl;exact q ys Yr hg
  ·refine⟨Yr,Yp,?_⟩;obtain⟨c,e1,_,c1⟩:=Ci (j:=x / 64 % 26) Yr Yr;refine⟨c,e1,Yr,by have:(16777216:Nat)=(16777216:Int):=rfl;omega,?_⟩;generalize hsz:1+x % 8=sz;have s0:1<=sz:=Yr
   have s1:sz<=8:=Yr
   generalize hat:x / 8 % sz=at0;have a0:0<=at0:=by rw [<-hat];exact T2 _ Yr
   have a1:at0 < sz:=by rw [<-hat];exact To _ Yr
   clear hsz hat;refine⟨λi acc=>∃ys:List Nat,acc=ys.map (λy=>.str ⟨#[y]⟩)/\ys.length=i/\∀y∈ys,y < 0x110000,⟨[],rfl,rfl,Yv⟩,?_,?_⟩
   ·rintro i z acc hz ⟨ys,rfl,hl,hg⟩;obtain⟨hi,rfl⟩:=qF hz;walk_at "d";obtain⟨y,g1,_,y1⟩:=Ci (j:=(x / 1664+5*(0+(i:Int)))% 26) Yr Yr;refine⟨Yp,y,g1,ys++[y],by rw [Rq];rfl,by simp [hl],λz hz=>?_⟩;rcases Rj.mp hz with h | h
    ·exact hg z h
    ·rw [Rk] at h;rw [h];exact y1
   ·rintro acc ⟨ys,rfl,hl,hg⟩;rw [vF] at hl;refine⟨by rw [QW];omega,?_⟩;refine⟨λi acc=>∃zs:List Str,acc=zs.map .str/\zs.length=i/\∀y∈zs,Q2 y=true,⟨[],rfl,rfl,Yv⟩,?_,?_⟩
    ·rintro i z acc hz ⟨zs,rfl,hl2,hg2⟩;rw [Q9] at hz;cases hz':ys[i]? with
     | none=>rw [hz'] at hz;cases hz
     | some y=>
      rw [hz'] at hz;cases hz;walk_at "d";obtain⟨mo,gg⟩:=mul_one c1 a0 Yr;obtain⟨mo2,gg2⟩:=mul_one c1 (n:=sz - at0 - 1) Yr Yr;have ly:(⟨#[y]⟩:Str).length=1:=rfl;have l1:=gg.le;have l2:=gg2.le;refine⟨mo,by rw [ly];omega,mo2,by rw [Cg,ly];omega,zs++[_],by rw [Rq];rfl,by simp [hl2],λz hz=>?_⟩;rcases Rj.mp hz with h | h
      ·exact hg2 z h
      ·rw [Rk] at h;rw [h];exact((gg.append (l5.chr (hg y (RA hz')))).append gg2).ok
    ·rintro acc ⟨zs,rfl,hl2,hg2⟩;rw [QW] at hl2;exact q zs Yr hg2
theorem atI_c5{α:Type}{a b c d e f:α}{l:List α}:atI (a::b::c::d::e::f::l) 5=some f:=fO (j:=5) rfl
theorem atI_c6{α:Type}{a b c d e f g:α}{l:List α}:atI (a::b::c::d::e::f::g::l) 6=some g:=fO (j:=6) rfl
theorem atI_c7{α:Type}{a b c d e f g h:α}{l:List α}:atI (a::b::c::d::e::f::g::h::l) 7=some h:=fO (j:=7) rfl
theorem atI_c8{α:Type}{a b c d e f g h i:α}{l:List α}:atI (a::b::c::d::e::f::g::h::i::l) 8=some i:=fO (j:=8) rfl
def FI:List Yw->(Yw->Prop)->Prop:=λds Q=>∃(x:Int)(b:Bool),ds=[.int x,.bool b]/\0<=x/\∀d:Int,0<=d/\d < 100000->Q (.int d)
theorem day_iff{x:Int}{b:Bool}{Q:Yw->Prop}:FI [.int x,.bool b] Q↔0<=x/\∀d:Int,0<=d/\d < 100000->Q (.int d):=by
 constructor
 ·rintro⟨_,_,e,h,q⟩;simp only [RO,Sb,and_true] at e;rw [e.1];exact⟨h,q⟩
 ·rintro⟨h,q⟩;exact⟨x,b,rfl,h,q⟩
theorem cell_iff{ns:List Int}{k:Int}{Q:Yw->Prop}:FA [fS (ns.map .int),.int k] Q↔(0<=k/\k<=1000/\∀c:Int,Q (.int c)):=by
 constructor
 ·rintro⟨ns',k',e,a,b,q⟩;simp only [RO,Sb,and_true] at e;rw [e.2];exact⟨a,b,q⟩
 ·rintro⟨a,b,q⟩;exact⟨ns,k,rfl,a,b,q⟩
theorem numbers_iff{c m:Int}{Q:Yw->Prop}:FC [.int c,.int m] Q↔(0<=m/\m<=64/\∀ns:List Int,(ns.length:Int)=m->(∀z∈ns,0<=z/\z < 2000000000)->Q (.list (ns.map .int))):=by
 constructor
 ·rintro⟨c',m',e,a,b,q⟩;simp only [RO,Sb,and_true] at e;obtain⟨rfl,rfl⟩:=e;exact⟨a,b,q⟩
 ·rintro⟨a,b,q⟩;exact⟨c,m,rfl,a,b,q⟩
local macro_rules | `(tactic| walk_at "g") =>rzT (rzS++" K24.atI_c5 K24.atI_c6 K24.atI_c7 K24.atI_c8 K24.day_iff K24.cell_iff K24.numbers_iff true_and")
theorem OB(T:Txt K mg t):aA P w K mg base CX0 2 t.a_AA t.d_AA ["_law_x","_law_far_here"] (aU K FI):=by
 have G_y:=@Ou P w _ _ base _ T;have G_z:=@Ow P w _ _ base _ T;refine T.F_AA.F.okD xT (λds Q h=>?_) (λ_ _ _ _ H O ds Q E hr h=>?_)
 ·obtain⟨x,b,rfl,_⟩:=h;rfl
 ·obtain⟨x,b,rfl,x0,q⟩:=h;refine'⟨_,?A,?B⟩
  case A=>
   refine' ao ?C ?D
   case C=>
    refine' bJ ?E ?F bI
    case E=>exact(pd (jf (dv 1)))
    case' F=>refine' aw ?G
    case G=>exact(aR (ar aW aD (df (dv 0)) (df af)))
   case' D=>refine' ao ?H ?I
   case H=>
    refine' bJ ?J ?K bI
    case J=>exact(aQ (cD hr.units) cE (df (ar aW aD (df (ar cQ aD (df (dv 0)) (df af))) (df af))) (df af) (aF _))
    case' K=>refine' aw ?L
    case L=>exact(aR (ar aW aD (df (ar cQ aD (df (dv 0)) (df af))) (df af)))
   case' I=>refine' ao ?M ?N
   case M=>exact(bg (i:=2) xT.nd rfl Yu (ar aW aD (df (ar cQ aD (df (dv 0)) (df af))) (df af)))
   case' N=>refine' ao ?O ?P
   case O=>
    generalize hG12:Wo _ _ _ _=eg12;refine' bg (i:=3) xT.nd rfl Yu ?Q (hs:=by subst hG12;exact iM)
    case' Q=>subst hG12
    exact(ar bA bN (df (PE.imp (aE G_y (hr.mono Yq) rfl T.F_y (aa (ar bA bN (df af) (df (ar cQ aD (df (dv 2)) (df af)))) aj)) aN)) (df (PE.imp (bU (BR rfl) rfl T.n_sum WV (bj (df (fe (iK (df (PE.imp (aE G_z (hr.mono Yq) rfl T.F_z (aa (ar bA bN (df af) (df (ar cQ aD (df (dv 2)) (df af)))) aj)) aN)) ia (cq (ar aW aD (df (dv 2)) (df af)))))) br)) (bz LY))))
   case' P=>refine' aw ?R
   case' R=>refine' aR ?S
   case S=>exact(PE.imp (bU (HR rfl) rfl T.n_max Yj (bj (df af) (bj (df (ar bA bN (df (ar eZ bN (df (dv 3)) (df af))) (df (ar aW aD (df (dv 0)) (df af))))) br))) (bz JU))
  case B=>
  clear hr T G_y G_z;walk_at "d";split
  ·exact q _ Yr
  ·split
   ·exact q _ Yr
   ·have e12:x / 6 % 3280 % 12=((x / 6 % 3280 % 12).toNat:Int):=Yr
    rw [e12];have sl:=Ox (2000+x / 6 % 3280 / 12) (x / 6 % 3280 % 12).toNat;have ys:cc (2000+x / 6 % 3280 / 12)+31*(((x / 6 % 3280 % 12).toNat:Nat):Int) < 100000:=by
     unfold cc lb;omega
    refine⟨_,rfl,_,rfl,_,rfl,(ro (2000+x / 6 % 3280 / 12)).take (x / 6 % 3280 % 12).toNat,?_,_,rfl,?_⟩
    ·rw [sO Yr (by rw [QW];show _<=((12:Nat):Int);omega),Sk,T4]
    ·split
     ·exact q _ Yr
     ·exact q 0 Yr
def FJ:List Yw->(Yw->Prop)->Prop:=λds Q=>∃(x:Int)(a b:Str),ds=[.int x,.list [.str a,.str b]]/\Q2 a=true/\Q2 b=true/\∀s:bW,s.Ok->Q s.enc
theorem OC(T:Txt K mg t):aA P w K mg base CX0 1 t.a_AB t.d_AB ["_law_x","_law_words"] (aU K FJ):=by
 refine T.F_AB.F.okD M5 (λds Q h=>?_) (λ_ _ _ _ H O ds Q E hr h=>?_)
 ·obtain⟨x,a,b,rfl,_⟩:=h;rfl
 ·obtain⟨x,a,b,rfl,ha,hb,q⟩:=h;refine'⟨_,?A,?B⟩
  case A=>
   refine' aw ?C
   case' C=>generalize hG2:U4 _ _ _=eg2
   refine' aR ?D
   case' D=>subst hG2
   refine' ak aP aS (df ?E) ?F
   case E=>
    refine' fe ?G
    case' G=>refine' bV ?H
    case' H=>refine' aa ?I ?J
    case I=>exact(bH (aa aX aj))
    case' J=>refine' aa ?K ?L
    case K=>
     refine' bH ?M
     case' M=>refine' aa aX ?N
     case' N=>refine' aa ?O aj
     case' O=>refine' ak aP aS (df (dv 1)) ?P
     case P=>exact(df (ar aW aD (df (ar cQ aD (df (dv 0)) (df af))) (df af)))
    case' L=>refine' aa ?Q aj
    case' Q=>refine' bH ?R
    case' R=>refine' aa aX ?S
    case' S=>refine' aa ?T aj
    case' T=>refine' ak aP aS (df (dv 1)) ?U
    case U=>exact(df (ar aW aD (df (ar cQ aD (df (dv 0)) (df af))) (df af)))
   case F=>exact(df (ar aW aD (df (dv 0)) (df af)))
  case B=>
  clear hr T;walk_at "d";obtain⟨v,e1,mv⟩:=qy (xs:=[QZ a,QZ b]) (i:=x / 3 % 2) Yr (by show _ < ((2:Nat):Int);omega);have hv:∃wd,v= .str wd/\Q2 wd=true:=by
   simp only [Q4,Rt,or_false] at mv;rcases mv with rfl | rfl
   ·exact⟨_,rfl,ha⟩
   ·exact⟨_,rfl,hb⟩
  obtain⟨wd,rfl,hwd⟩:=hv;refine⟨_,e1,_,e1,?_⟩;obtain⟨v,e2,mv⟩:=qy (xs:=[RB [QZ (QU "coming")],RB [QZ (QU "first"),QZ wd],RB [QZ (QU "last"),QZ wd]]) (i:=x % 3) Yr (by show _ < ((3:Nat):Int);omega);refine⟨_,e2,?_⟩;simp only [Q4,Rt,or_false] at mv;rcases mv with rfl | rfl | rfl
  ·exact q .com trivial
  ·exact q (.fst wd) hwd
  ·exact q (.lst wd) hwd
theorem lL(ss:List Str){i:Int}(h0:0<=i)(h1:i < ss.length):∃nm∈ss,atI (ss.map QZ) i=some (.str nm):=by
 obtain⟨v,e,m⟩:=qy (xs:=ss.map QZ) h0 (by rw [QW];exact h1);obtain⟨nm,hn,rfl⟩:=Rf.mp m;exact⟨nm,hn,e⟩
theorem OD:∀z∈([QU "while",QU "follow",QU "leave"]:List Str),¬KG z/\Q2 z=true:=by
 intro z hz;simp only [Q4,Rt,or_false] at hz;rcases hz with rfl | rfl | rfl <;> exact⟨λh=>by rcases h with h | h <;> exact absurd h Yp,Yp⟩
theorem FK:∀z∈([QU "days",QU "months",QU "years"]:List Str),oC z:=by
 intro z hz;simp only [Q4,Rt,or_false] at hz;exact hz
theorem OE:∀z∈([QU "keep",QU "gone"]:List Str),KG z:=by
 intro z hz;simp only [Q4,Rt,or_false] at hz;exact hz
def OF:List Yw->(Yw->Prop)->Prop:=λds Q=>∃(x0 x1 x2 x3 x4 x5 x6 x7 x8:Int)(a b c d e:Str)(f:Bool),ds=[.list [.int x0,.int x1,.int x2,.int x3,.int x4,.int x5,.int x6,.int x7,.int x8],.list [.str a,.str b,.str c],.list [.str d,.str e],.bool f]/\(∀z∈[a,b,c,d,e],Q2 z=true)/\∀pt:Pt,pt.Ok->Q pt.enc
theorem OG(T:Txt K mg t):aA P w K mg base CX0 2 t.a_AC t.d_AC ["_law_xs","_law_kinds","_law_words","_law_far_here"] (aU K OF):=by
 have G_AB:=@OC P w _ _ base _ T;refine T.F_AC.F.okD oB (λds Q h=>?_) (λ_ _ _ _ H O ds Q E hr h=>?_)
 ·obtain⟨x0,x1,x2,x3,x4,x5,x6,x7,x8,a,b,c,d,e,f,rfl,_⟩:=h;rfl
 ·obtain⟨x0,x1,x2,x3,x4,x5,x6,x7,x8,a,b,c,d,e,f,rfl,hok,q⟩:=h;refine'⟨_,?A,?B⟩
  case A=>
   refine' ao ?C ?D
   case C=>
    refine' bg (i:=4) oB.nd rfl Yu ?E (hs:=oo)
    case' E=>refine' ak aP aS (df (dv 1)) ?F
    case F=>exact(df (ar aW aD (df (ar aW aD (df (ak aP aS (df (dv 0)) (df af))) (df af))) (df (PE.imp (bU dO rfl T.n_len R9 (bj (df (dv 1)) br)) (bz eG)))))
   case' D=>refine' ao ?G ?H
   case G=>exact(bg (i:=5) oB.nd rfl Yu (ar aW aD (df (ak aP aS (df (dv 0)) (df af))) (df af)))
   case' H=>refine' ao ?I ?J
   case I=>
    refine' bJ ?K ?L bI
    case K=>exact(aQ jJ di (df (dv 5)) (df af) (aF _))
    case' L=>refine' aw ?M
    case' M=>refine' aR ?N
    case' N=>refine' bH ?O
    case' O=>refine' aa ?P ?Q
    case P=>
     refine' ak aP aS (df ?R) ?S
     case R=>exact(fe (bV (l4 (ds:=[.str "while",.str "follow",.str "leave"]) (by rfl))))
     case S=>exact(df (ar eZ bN (df (dv 5)) (df af)))
    case Q=>refine' aa (dv 4) aj
   case' J=>refine' ao ?T ?U
   case T=>
    generalize hG19:U4 _ _ _=eg19;refine' bg (i:=6) oB.nd rfl Yu ?V (hs:=by subst hG19;exact oo)
    case' V=>subst hG19
    refine' ak aP aS (df ?W) ?X
    case W=>exact(fe (bV (l4 (ds:=[.str "days",.str "months",.str "years"]) (by rfl))))
    case X=>exact(df (ar aW aD (df (ak aP aS (df (dv 0)) (df af))) (df af)))
   case' U=>refine' ao ?Y ?Z
   case Y=>
    generalize hG23:U4 _ _ _=eg23;refine' bg (i:=7) oB.nd rfl Yu ?a (hs:=by subst hG23;exact oo)
    case' a=>subst hG23
    refine' ak aP aS (df ?b) ?c
    case b=>
     refine' fe ?d
     case' d=>refine' bV ?e
     case' e=>refine' aa ?f ?g
     case f=>exact(ar aW aD (df (ak aP aS (df (dv 0)) (df af))) (df af))
     case' g=>refine' aa ?h aj
     case h=>exact(ar aW aD (df (ak aP aS (df (dv 0)) (df af))) (df af))
    case c=>exact(df (PE.imp (cU qu rfl T.n_int qz (bj (df (dG (cD hr.units) cE (df (ar aW aD (df (ak aP aS (df (dv 0)) (df af))) (df af))) (df af) (aF _))) br)) (bz qE)))
   case' Z=>refine' ao ?i ?j
   case i=>
    refine' bJ ?k ?l bI
    case k=>exact(pd (jf (dv 3)))
    case' l=>refine' ao ?m ?n
    case m=>
     generalize hG35:U4 _ _ _=eg35;refine' bg (i:=6) oB.nd rfl Yu ?o (hs:=by subst hG35;exact oo)
     case' o=>subst hG35
     refine' ak aP aS (df ?p) ?q
     case p=>exact(fe (bV (l4 (ds:=[.str "days",.str "days",.str "months"]) (by rfl))))
     case q=>exact(df (ar aW aD (df (ak aP aS (df (dv 0)) (df af))) (df af)))
    case' n=>refine' aw ?r
    case' r=>generalize hG39:U4 _ _ _=eg39
    refine' bg (i:=7) oB.nd rfl Yu ?s (hs:=by subst hG39;exact oo)
    case' s=>subst hG39
    refine' ak aP aS (df ?t) ?u
    case t=>
     refine' fe ?v
     case' v=>refine' bV ?w
     case' w=>refine' aa ?x ?y
     case x=>exact(ar aW aD (df (ak aP aS (df (dv 0)) (df af))) (df af))
     case' y=>refine' aa ?z aj
     case z=>exact(ar aW aD (df (ak aP aS (df (dv 0)) (df af))) (df af))
    case u=>exact(df (PE.imp (cU qu rfl T.n_int qz (bj (df (dG (cz hr) cA (df (dv 6)) (df aX) (aF _))) br)) (bz qE)))
   case' j=>refine' aw ?A0
   case' A0=>refine' aR ?A1
   case' A1=>refine' bH ?A2
   case' A2=>refine' aa ?A3 ?A4
   case A3=>exact(ak aP aS (df (fe (bV (aa aX (aa aX aj))))) (df (ar aW aD (df (dv 5)) (df af))))
   case' A4=>refine' aa (dv 4) ?A5
   case' A5=>refine' aa ?A6 ?A7
   case A6=>exact(PE.imp (aE G_AB (hr.mono Yq) rfl T.F_AB (aa (ak aP aS (df (dv 0)) (df af)) (aa (dv 2) aj))) aN)
   case' A7=>refine' aa (dv 7) ?A8
   case A8=>refine' aa (dv 6) aj
  case B=>
  clear hr T G_AB;walk_at "d";obtain⟨kd,hkd,ek⟩:=lL [a,b,c] (i:=x2 % 3 % 3) Yr (by show _ < ((3:Nat):Int);omega);have kok:Q2 kd=true:=hok kd (by
   simp only [Q4,Rt,or_false] at hkd⊢;rcases hkd with h | h | h <;> simp [h])
  refine⟨Yq,_,ek,?_⟩;split
  ·obtain⟨wo,hw,ew⟩:=lL [QU "while",QU "follow",QU "leave"] (i:=x3 % 8 - 5) Yr (by show _ < ((3:Nat):Int);omega);obtain⟨w1,w2⟩:=OD wo hw;exact⟨_,ew,q (.two wo kd) ⟨w1,w2,kok⟩⟩
  ·have fin:∀(k:Int)(u:Str),0<=k->k < 1000->oC u->∃d_7,atI [QZ (QU "keep"),QZ (QU "gone")] (x3 % 8 % 2)=some d_7/\FJ [.int x7,SI [QZ d,QZ e]] λd=>Q (RB [d_7,.str kd,d,.int k,.str u]):=λk u k0 k1 hu=>by
    obtain⟨wo,hw,ew⟩:=lL [QU "keep",QU "gone"] (i:=x3 % 8 % 2) Yr (by show _ < ((2:Nat):Int);omega);exact⟨_,ew,x7,d,e,rfl,hok d Yv,hok e Yv,λs hs=>q (.five wo kd s k u) ⟨OE wo hw,kok,hs,k0,k1,hu⟩⟩
   obtain⟨u,hu,eu⟩:=lL [QU "days",QU "months",QU "years"] (i:=x4 % 3) Yr (by show _ < ((3:Nat):Int);omega);refine⟨_,eu,?_⟩;have two:∀(p r:Int)(b:Bool),0<=p->p < 1000->0<=r->r < 1000->∃k,atI [Rv p,Rv r] (if b=true then 1 else 0)=some (.int k)/\0<=k/\k < 1000:=λp r b p0 p1 r0 r1=>by
    cases b
    ·exact⟨p,dH,p0,p1⟩
    ·exact⟨r,eM,r0,r1⟩
   walk_at "g";obtain⟨k,hk,k0,k1⟩:=two (x5 % 30) (x5 % 1000) (x6 % 4==0) Yr Yr Yr Yr;refine⟨_,hk,?_⟩;split
   ·obtain⟨u,hu,eu⟩:=lL [QU "days",QU "days",QU "months"] (i:=x4 % 3) Yr (by show _ < ((3:Nat):Int);omega);refine⟨_,eu,rfl,?_⟩;obtain⟨k,hk,k0,k1⟩:=two (x5 % 21) (x5 % 2) ((QZ u).eqv (QZ (QU "months"))) Yr Yr Yr Yr;exact⟨_,hk,fin k u k0 k1 (FK u (by
     simp only [Q4,Rt,or_false] at hu⊢;rcases hu with h | h | h <;> simp [h]))⟩
   ·exact fin k u k0 k1 (FK u hu)
structure jC (x:De):Prop where
 d0:0<=x.d/\x.d < 100000
 nm:Q2 x.nm=true
 w:Q2 x.w=true
 ly:bQ 6 x.enc
 pp:∀p,x= .pap p->Q2 p.kd=true/\(∀m∈p.ms,Q2 m=true)/\p.ms.length<=50
 np:∀w d nm r,x= .oth w d nm r->w≠QU "paper"
 hp:∀d nm r,x= .oth (QU "happens") d nm r->∃wd,r=[.str wd]/\Q2 wd=true
 ru:∀d nm r,x= .oth (QU "rule") d nm r->∃pt:Pt,r=[pt.enc]/\pt.Ok
 ho:∀d nm r,x= .oth (QU "hold") d nm r->∃(ip:Bool)(tn:Str)(dp:Bool),r=[gj ip tn,.bool dp]/\Q2 tn=true
 le:∀d nm r,x= .oth (QU "leave") d nm r->∃kd,r=[.str kd]/\Q2 kd=true
 rl:∀w d nm r,x= .oth w d nm r->r.length<=5
def gY(x y:De):Prop:=x≠y/\(∀p q,x= .pap p->y= .pap q->p.nm≠q.nm)/\(x.isE=true->y.isE=true->¬(x.d=y.d/\x.nm=y.nm))/\(x.isL=true->y.isL=true->¬(x.d=y.d/\x.nm=y.nm))/\(x.w=QU "leave"->y.w=QU "leave"->x.nm≠y.nm)
def De.r:De->List Yw
 | .pap p=>[.str p.kd,.tuple (p.ms.map .str)]
 | .oth _ _ _ r=>r
theorem nK(x:De):x.enc= .tuple (.str x.w:: .int x.d:: .str x.nm::x.r):=by cases x <;> rfl
theorem OH(x:De):x.isE=true↔x.w=QU "rule"\/x.w=QU "end":=by
 cases x with
 | pap p=>exact⟨λh=>(nomatch h),λh=>absurd h (by show ¬(QU "paper"=_\/QU "paper"=_);decide+kernel)⟩
 | oth w d nm r=>simp [De.isE,De.w]
theorem OI(x:De):x.isL=true↔x.w=QU "hold"\/x.w=QU "lift":=by
 cases x with
 | pap p=>exact⟨λh=>(nomatch h),λh=>absurd h (by show ¬(QU "paper"=_\/QU "paper"=_);decide+kernel)⟩
 | oth w d nm r=>simp [De.isL,De.w]
mutual
theorem Ao:∀d:Yw,d.canLay0=true->Rr d d=true
 | .none,_=>by simp [Rr]
 | .bool _,_ | .int _,_ | .str _,_=>by simp [Rr]
 | .list xs,h=>by rw [Rr];exact Ap xs (by simpa [RS] using h)
 | .tuple xs,h=>by rw [Rr];exact Ap xs (by simpa [RS] using h)
 | .dict _,h=>by simp [RS] at h
theorem Ap:∀ds:List Yw,SH ds=true->S7 ds ds=true
 | [],_=>by simp [S7]
 | d::ds,h=>by
  rw [SH,R5] at h;rw [S7,Ao d h.1,Ap ds h.2];rfl
end
theorem FL{a b:Int}{s u:Str}:Rr (.tuple [.int a,.str s]) (.tuple [.int b,.str u])=false->¬(a=b/\s=u):=by
 rintro h ⟨rfl,rfl⟩;simp [Rr,S7] at h
def OJ:List Yw->(Yw->Prop)->Prop:=λds Q=>∃x y:De,ds=[x.enc,y.enc]/\jC x/\jC y/\∀b:Bool,(b=false->gY x y)->Q (.bool b)
theorem FN(T:Txt K mg t):aA P w K mg base CX0 1 t.a_AD t.d_AD ["_law_one","_law_other"] (aU K OJ):=by
 refine T.F_AD.F.okD M6 (λds Q h=>?_) (λ_ _ _ _ H O ds Q E hr h=>?_)
 ·obtain⟨x,y,rfl,_⟩:=h;rfl
 ·obtain⟨x,y,rfl,gx,gy,q⟩:=h;refine'⟨_,?A,?B⟩
  case A=>
   refine' ao ?C ?D
   case C=>
    refine' bJ ?E ?F bI
    case E=>exact(aQ (cD hr.units) cE (df (dv 0)) (df (dv 1)) (aF _))
    case F=>refine' aw (aR vD)
   case' D=>refine' ao ?G ?H
   case G=>
    refine' bJ ?I ?J bI
    case I=>exact(PW.pt (fC (aQ (oj hr) om (df (ak aG aM (df (dv 0)) (df af))) (df (bH (aa aX (aa aX aj)))) rfl) (fB (aQ (oj hr) om (df (ak aG aM (df (dv 1)) (df af))) (df (bH (aa aX (aa aX aj)))) rfl))))
    case' J=>refine' aw ?K
    case' K=>refine' aR ?L
    case L=>exact(dG (cD hr.units) cE (df (oh (df (dv 0)) (cq af) (cq af))) (df (oh (df (dv 1)) (cq af) (cq af))) (aF _))
   case' H=>refine' ao ?M ?N
   case M=>
    refine' bJ ?O ?P bI
    case O=>exact(PW.pt (fC (aQ (oj hr) om (df (ak aG aM (df (dv 0)) (df af))) (df (bH (aa aX (aa aX aj)))) rfl) (fB (aQ (oj hr) om (df (ak aG aM (df (dv 1)) (df af))) (df (bH (aa aX (aa aX aj)))) rfl))))
    case' P=>refine' aw ?Q
    case' Q=>refine' aR ?R
    case R=>exact(dG (cD hr.units) cE (df (oh (df (dv 0)) (cq af) (cq af))) (df (oh (df (dv 1)) (cq af) (cq af))) (aF _))
   case' N=>refine' aw ?S
   case' S=>refine' aR ?T
   case T=>exact(qB (dG (cD hr.units) cE (df (ak aG aM (df (dv 0)) (df af))) (df (ak aG aM (df (dv 1)) (df af))) (aF _)) (qB (dG (oj hr) om (df (ak aG aM (df (dv 0)) (df af))) (df (bH (aa aX (aa aX aj)))) rfl) (qA (dG (cD hr.units) cE (df (ak aG aM (df (dv 0)) (df af))) (df (ak aG aM (df (dv 1)) (df af))) (aF _)))))
  case B=>
  clear hr T;have ex:=gx.ly.shp Yq;have ey:=gy.ly.shp Yq;have ne:(x.enc).eqv y.enc=false->x≠y:=λh e=>by rw [e,Ao _ gy.ly.can] at h;cases h
  have two:∀z:De,Q2 z.nm=true->Tz (RB [Rv z.d,QZ z.nm])=true:=λz hz=>(fh (n:=1) λy hy=>by
   simp only [Q4,Rt,or_false] at hy;rcases hy with rfl | rfl
   ·exact qI
   ·exact iL hz).shp Yq
  have tx:=two x gx.nm;have ty:=two y gy.nm;have ax:=cL.mpr gx.w;have ay:=cL.mpr gy.w;have bx:=cL.mpr gx.nm;have by':=cL.mpr gy.nm
  rw [nK] at ex;rw [nK] at ey;have pw:∀z:De,∀p,z= .pap p->z.w=QU "paper":=λz p e=>by rw [e];rfl
  have eE:=OH;have eL:=OI;have q:∀b:Bool,(b=false->(x.enc).eqv y.enc=false/\(x.w=QU "paper"->y.w=QU "paper"->x.nm≠y.nm)/\((x.w=QU "rule"\/x.w=QU "end")->(y.w=QU "rule"\/y.w=QU "end")->¬(x.d=y.d/\x.nm=y.nm))/\((x.w=QU "hold"\/x.w=QU "lift")->(y.w=QU "hold"\/y.w=QU "lift")->¬(x.d=y.d/\x.nm=y.nm))/\(x.w=QU "leave"->y.w=QU "leave"->x.nm≠y.nm))->Q (.bool b):=λb h=>q b λe=>by
   obtain⟨h1,h2,h3,h4,h5⟩:=h e;refine⟨ne h1,λp q e1 e2=>?_,λa b=>h3 ((eE x).mp a) ((eE y).mp b),λa b=>h4 ((eL x).mp a) ((eL y).mp b),h5⟩;have h2:=h2 (pw x p e1) (pw y q e2);rw [e1,e2] at h2;exact h2
  clear ne pw eE eL two gx gy;rw [nK,nK] at q;rw [nK,nK];generalize x.w=xw at*;generalize y.w=yw at*;generalize x.d=xd at*;generalize y.d=yd at*;generalize x.nm=xn at*;generalize y.nm=yn at*;generalize x.r=xr at*;generalize y.r=yr at*;walk_at "d";refine⟨ex,ey,?_⟩;clear ex ey;split
  ·exact q true (λe=>by cases e)
  ·rename_i hn;rw [Tp] at hn;have E':∀z:Str,(QU "rule"==z || QU "end"==z)=true↔(z=QU "rule"\/z=QU "end"):=λz=>by
    rw [Vg,beq_iff_eq,beq_iff_eq];exact⟨λh=>h.imp Eq.symm Eq.symm,λh=>h.imp Eq.symm Eq.symm⟩
   have L':∀z:Str,(QU "hold"==z || QU "lift"==z)=true↔(z=QU "hold"\/z=QU "lift"):=λz=>by
    rw [Vg,beq_iff_eq,beq_iff_eq];exact⟨λh=>h.imp Eq.symm Eq.symm,λh=>h.imp Eq.symm Eq.symm⟩
   have nw:∀{z:Str},(z=QU "rule"\/z=QU "end")\/(z=QU "hold"\/z=QU "lift")->z≠QU "paper"/\z≠QU "leave":=λ{z} h=>by
    rcases h with(h | h) | (h | h) <;> subst h <;> decide+kernel
   have cut:(xw=QU "rule"\/xw=QU "end")\/(xw=QU "hold"\/xw=QU "lift")->Q (UT ((RB [Rv xd,QZ xn]).eqv (RB [Rv yd,QZ yn]))):=λhx=>q _ λe=>⟨hn,λa=>absurd a (nw hx).1,λ_ _=>FL e,λ_ _=>FL e,λa=>absurd a (nw hx).2⟩;have tl:¬((xw=QU "rule"\/xw=QU "end")/\(yw=QU "rule"\/yw=QU "end"))->¬((xw=QU "hold"\/xw=QU "lift")/\(yw=QU "hold"\/yw=QU "lift"))->Tz (QZ xw)=true/\Tz (QZ yw)=true/\(if (xw==yw)=true then(if (QU "paper"==xw || QU "leave"==xw)=true then Tz (QZ xn)=true/\Tz (QZ yn)=true/\Q (UT (xn==yn)) else Q (UT false)) else Q (UT false)):=λhE hL=>by
    refine⟨ax,ay,?_⟩;split
    ·rename_i h;split
     ·exact⟨bx,by',q _ λe=>⟨hn,λ_ _=>by simpa using e,λa b=>absurd ⟨a,b⟩ hE,λa b=>absurd ⟨a,b⟩ hL,λ_ _=>by simpa using e⟩⟩
     ·rename_i h2;exact q _ λ_=>⟨hn,λa=>absurd (by rw [a];simp) h2,λa b=>absurd ⟨a,b⟩ hE,λa b=>absurd ⟨a,b⟩ hL,λa=>absurd (by rw [a];simp) h2⟩
    ·rename_i h;exact q _ λ_=>⟨hn,λa b=>absurd (by rw [a,b];simp) h,λa b=>absurd ⟨a,b⟩ hE,λa b=>absurd ⟨a,b⟩ hL,λa b=>absurd (by rw [a,b];simp) h⟩
   clear q ax ay bx by'
   split
   ·rename_i h1;split
    ·exact⟨tx,ty,cut (.inl ((E' _).mp h1))⟩
    ·rename_i h2;split
     ·rename_i h3;split
      ·exact⟨tx,ty,cut (.inl ((E' _).mp h1))⟩
      ·rename_i h4;exact tl (λz=>h2 ((E' _).mpr z.2)) (λz=>h4 ((L' _).mpr z.2))
     ·rename_i h3;exact tl (λz=>h2 ((E' _).mpr z.2)) (λz=>h3 ((L' _).mpr z.1))
   ·rename_i h1;split
    ·rename_i h3;split
     ·exact⟨tx,ty,cut (.inr ((L' _).mp h3))⟩
     ·rename_i h4;exact tl (λz=>h1 ((E' _).mpr z.1)) (λz=>h4 ((L' _).mpr z.2))
    ·rename_i h3;exact tl (λz=>h1 ((E' _).mpr z.1)) (λz=>h3 ((L' _).mpr z.1))
def OL:List Yw->(Yw->Prop)->Prop:=λds Q=>∃x:Int,ds=[.int x]/\∀n0 n1 n2 n3 n4 n5 n6:Str,(∀z∈[n0,n1,n2,n3,n4,n5,n6],Q2 z=true)->Q (.tuple [.list [.str n0,.str n1,.str n2,.str n3,.str n4,.str n5],.list [.str n1,.str n2,.str n3],.list [.str n2,.str n3],.list [.str n2,.str n3,.str n4,.str n5,.str n6]])
theorem OM(T:Txt K mg t):aA P w K mg base CX0 2 t.a_AF t.d_AF ["_law_x"] (aU K OL):=by
 have G_x:=@OA P w _ _ base _ T;refine T.F_AF.F.okD Eb (λds Q h=>?_) (λ_ _ _ _ H O ds Q E hr h=>?_)
 ·obtain⟨x,rfl,_⟩:=h;rfl
 ·obtain⟨x,rfl,q⟩:=h;refine'⟨_,?A,?B⟩
  case A=>
   refine' ao ?C ?D
   case C=>exact(bg (i:=1) Eb.nd rfl Yu (PE.imp (aE G_x (hr.mono Yq) rfl T.F_x (aa (dv 0) (aa af aj))) aN))
   case' D=>refine' aw ?E
   case' E=>generalize hG4:XT _ _ _=eg4
   refine' aR ?F
   case' F=>subst hG4
   refine' bH ?G
   case' G=>refine' aa ?H ?I
   case H=>exact(fe (iK (df (dv 1)) ia (cq af)))
   case' I=>refine' aa ?J ?K
   case J=>exact(fe (iK (df (dv 1)) (cq af) (cq af)))
   case' K=>refine' aa ?L ?M
   case L=>exact(fe (iK (df (dv 1)) (cq af) (cq af)))
   case' M=>refine' aa ?N aj
   case N=>exact(fe (iK (df (dv 1)) (cq af) (cq af)))
  case B=>
  clear hr T G_x;walk_at "d";refine⟨x,7,rfl,Yr,Yr,λss sl sok=>?_⟩;obtain⟨n0,n1,n2,n3,n4,n5,n6,rfl⟩:∃a b c d e f g,ss=[a,b,c,d,e,f,g]:=by
   match ss,(show ss.length=7 by omega) with
   | [a,b,c,d,e,f,g],_=>exact⟨_,_,_,_,_,_,_,rfl⟩
  walk_at "d";exact q n0 n1 n2 n3 n4 n5 n6 sok
def ix:List Str:=[QU "paper",QU "paper",QU "paper",QU "paper",QU "paper",QU "rule",QU "rule",QU "rule",QU "rule",QU "rule",QU "happens",QU "happens",QU "happens",QU "hold",QU "hold",QU "end",QU "lift",QU "leave",QU "leave"]
def ON:List Yw->(Yw->Prop)->Prop:=λds Q=>ds=[]/\Q (.list (ix.map .str))
theorem OO(T:Txt K mg t):aA P w K mg base CX0 1 t.a_AG t.d_AG [] (aU K ON):=by
 refine T.F_AG.F.okD Ec (λds Q h=>?_) (λ_ _ _ _ H O ds Q E hr h=>?_)
 ·obtain⟨rfl,_⟩:=h;rfl
 ·obtain⟨rfl,q⟩:=h;refine'⟨_,?A,?B⟩
  case A=>
   refine' ao ?C ?D
   case C=>
    generalize hG2:Wo _ _ _ _=eg2;refine' bg (i:=0) Ec.nd rfl Yu ?E (hs:=by subst hG2;exact iM)
    case' E=>subst hG2
    refine' fe ?F
    case' F=>refine' nZ (df ?G) (df ?H)
    case G=>
     refine' fe ?I
     case' I=>refine' nZ (df ?J) (df ?K)
     case J=>exact(fe (wg (n:=5) Yq (bV (aa aX aj))))
     case K=>exact(fe (wg (n:=5) Yq (bV (aa aX aj))))
    case H=>exact(fe (wg (n:=3) Yq (bV (aa aX aj))))
   case' D=>refine' aw ?L
   case' L=>generalize hE11_0:Xl _ _=ee11_0
   exact(aR (fe (nZ (df (dv 0)) (df (fe (vI (ds:=[.str "hold",.str "hold",.str "end",.str "lift",.str "leave",.str "leave"]) (by first | (subst hE11_0;rfl))))))))
  case B=>
  clear hr T;walk_at "d";refine⟨?_,?_,?_,q⟩
  ·show(10:Nat)<=16777216;decide
  ·show(13:Nat)<=16777216;decide
  ·show(13:Nat)<=16777210;decide
end
local macro_rules | `(tactic| walk_at "g") =>rzT (rzS++" K24.atI_c5 K24.atI_c6 K24.atI_c7 K24.atI_c8 K24.day_iff K24.cell_iff K24.numbers_iff true_and")
theorem FO:bb (av uc) ["_law_sort","_law_xs","_law_pools_here","_law_far_here","_law_names","_law_kinds","_law_words","_law_rules","_law_day_here","_law_some","_law_target"] ["_law_k","_law_names","_law_xs"] 1 [4,1] ⟨Q3,[ (QX ".0",aab),(QX "_law_k",aab),(QX "_law_names",Rb),(QX "_law_xs",Rb)],false,false,[]⟩:=⟨rfl,Yp,Yp,Yp,rfl,Yp,Yp,Yp,rfl⟩
section
variable {P:YI} {w:YJ} {K:QV} {mg:Str->Option Yx} {base:YK} {t:cg}
theorem OP{a b:Str}(ha:Q2 a=true)(hb:Q2 b=true):bQ 2 (.tuple [.str a,.str b]):=fh (bR (iL ha) (bR (iL hb) fF))
theorem FP{w nm:Str}{d:Int}{r:List Yw}(hw:Q2 w=true)(hn:Q2 nm=true)(hr:∀y∈r,bQ 5 y):bQ 6 (.tuple (.str w:: .int d:: .str nm::r)):=
 fh (bR ((iL hw).mono Yq) (bR (qI.mono Yq) (bR ((iL hn).mono Yq) hr)))
structure OQ (w:Str) (r:List Yw):Prop where
 np:w≠QU "paper"
 hp:w=QU "happens"->∃wd,r=[.str wd]/\Q2 wd=true
 ru:w=QU "rule"->∃pt:Pt,r=[pt.enc]/\pt.Ok
 ho:w=QU "hold"->∃(ip:Bool)(tn:Str)(dp:Bool),r=[gj ip tn,.bool dp]/\Q2 tn=true
 le:w=QU "leave"->∃kd,r=[.str kd]/\Q2 kd=true
 ln:r.length<=5
theorem rA{w nm:Str}{d:Int}{r:List Yw}(d0:0<=d/\d < 100000)(hw:Q2 w=true)(hn:Q2 nm=true)(hr:∀y∈r,bQ 5 y)(o:OQ w r):jC (.oth w d nm r):=by
 refine⟨d0,hn,hw,FP hw hn hr,λp e=>(by cases e),λw' d' nm' r' e=>(by cases e;exact o.np),λd' nm' r' e=>(by cases e;exact o.hp rfl),λd' nm' r' e=>(by cases e;exact o.ru rfl),λd' nm' r' e=>(by cases e;exact o.ho rfl),λd' nm' r' e=>(by cases e;exact o.le rfl),λw' d' nm' r' e=>(by cases e;exact o.ln)⟩
theorem OR{p:Pp}(d0:0<=p.d/\p.d < 100000)(hn:Q2 p.nm=true)(hk:Q2 p.kd=true)(hm:∀m∈p.ms,Q2 m=true)(hl:p.ms.length<=50):jC (.pap p):=by
 refine⟨d0,hn,xZ,FP xZ hn (bR ((iL hk).mono Yq) (bR ((fh (sS (n:=1) hm)).mono Yq) fF)),λp' e=>(by cases e;exact⟨hk,hm,hl⟩),λw' d' nm' r' e=>(by cases e),λd' nm' r' e=>(by cases e),λd' nm' r' e=>(by cases e),λd' nm' r' e=>(by cases e),λd' nm' r' e=>(by cases e),λw' d' nm' r' e=>(by cases e)⟩
theorem OS:∀z∈ix,Q2 z=true:=by
 intro z hz;have h:z∈([QU "paper",QU "rule",QU "happens",QU "hold",QU "end",QU "lift",QU "leave"]:List Str):=by
  simp only [ix,Q4,Rt,or_false] at hz⊢;rcases hz with h | h | h | h | h | h | h | h | h | h | h | h | h | h | h | h | h | h | h <;> simp only [h,true_or,or_true]
 simp only [Q4,Rt,or_false] at h;rcases h with rfl | rfl | rfl | rfl | rfl | rfl | rfl <;> decide+kernel
theorem OT(ss:List Str)(lo hi:Option Int):∃ms:List Str,cW (ss.map QZ) lo hi=ms.map .str/\(∀m∈ms,m∈ss)/\ms.length<=ss.length:=by
 unfold cW;rw [<-V8,<-T4];exact⟨_,rfl,λm hm=>W0 (UA hm),by rw [RI,TH];omega⟩
def Aq(n0 n1 n2 n3 n4 n5 n6:Str):Yw:= .tuple [.list [.str n0,.str n1,.str n2,.str n3,.str n4,.str n5],.list [.str n1,.str n2,.str n3],.list [.str n2,.str n3],.list [.str n2,.str n3,.str n4,.str n5,.str n6]]
def OU:List Yw->(Yw->Prop)->Prop:=λds Q=>∃(so:Str)(x0 x1 x2 x3 x4 x5 x6 x7 x8:Int)(n0 n1 n2 n3 n4 n5 n6:Str)(f:Bool),ds=[.str so,.list [.int x0,.int x1,.int x2,.int x3,.int x4,.int x5,.int x6,.int x7,.int x8],Aq n0 n1 n2 n3 n4 n5 n6,.bool f]/\so∈ix/\0<=x0/\(∀z∈[n0,n1,n2,n3,n4,n5,n6],Q2 z=true)/\∀x:De,jC x->x.w=so->Q x.enc
theorem OV(T:Txt K mg t):aA P w K mg base CX0 3 t.a_AE t.d_AE ["_law_sort","_law_xs","_law_pools_here","_law_far_here"] (aU K OU):=by
 have G_AA:=@OB P w _ _ base _ T;have G_AC:=@OG P w _ _ base _ T;refine T.F_AE.F.okD nI (λds Q h=>?_) (λ_ _ _ _ H O ds Q E hr h=>?_)
 ·obtain⟨so,x0,x1,x2,x3,x4,x5,x6,x7,x8,n0,n1,n2,n3,n4,n5,n6,f,rfl,_⟩:=h;rfl
 ·obtain⟨so,x0,x1,x2,x3,x4,x5,x6,x7,x8,n0,n1,n2,n3,n4,n5,n6,f,rfl,hso,h0,hok,q⟩:=h;refine'⟨_,?A,?B⟩
  case A=>
   refine' ao ?C ?D
   case C=>exact(BX (dv 2) (gB (n:=4) rfl (bY (aK (i:=4) nI.nd rfl Yu) (bY (aK (i:=5) nI.nd rfl Yu) (bY (aK (i:=6) nI.nd rfl Yu) (bY (aK (i:=7) nI.nd rfl Yu) gA))))) (gJ (b0 aL (b0 aL (b0 aL (b0 aL gI))))))
   case' D=>refine' ao ?E ?F
   case E=>exact(bg (i:=8) nI.nd rfl Yu (PE.imp (aE G_AA (hr.mono Yq) rfl T.F_AA (aa (ak aP aS (df (dv 1)) (df af)) (aa (dv 3) aj))) aN))
   case' F=>refine' ao ?G ?H
   case G=>
    refine' bJ ?I ?J bI
    case I=>exact(aQ (cz hr) cA (df (dv 0)) (df aX) (aF _))
    case' J=>refine' ao ?K ?L
    case K=>exact(ic (i:=9) nI.nd rfl Yu (Cj rfl FO rfl T.n_range (bj (df (PE.imp (bU dO rfl T.n_len R9 (bj (df (dv 4)) br)) (bz eG))) br) aL bM Yq (λ_ _ _ _=>(aK (i:=0) FO.nd rfl Yu)) (λ_ _ _ _=>(cZ (PW.pt (fC (aQ (cD hr.units) cE (df (ar Du tj (df (ar Ds tj (df (ak aP aS (df (dv 2)) (df af))) (df (dv 0)))) (df af))) (df af) (aF _)) (fB (aQ (cD hr.units) cE (df (ar Du tj (df (ar Ds tj (df (ak aP aS (df (dv 2)) (df af))) (df (dv 0)))) (df af))) (df af) (aF _))))))) (λ_ _ _ _=>(ak aP aS (df (dv 1)) (df (dv 0))))))
    case' L=>refine' aw ?M
    case' M=>generalize hG10:XT _ _ _=eg10
    refine' aR ?N
    case' N=>subst hG10
    refine' bH ?O
    case' O=>refine' aa aX ?P
    case' P=>refine' aa (dv 8) ?Q
    case' Q=>refine' aa ?R ?S
    case R=>
     refine' ak aP aS (df (dv 4)) ?T
     case T=>exact(df (ar aW aD (df (ak aP aS (df (dv 1)) (df af))) (df (PE.imp (bU dO rfl T.n_len R9 (bj (df (dv 4)) br)) (bz eG)))))
    case' S=>refine' aa ?U ?V
    case U=>
     refine' ak aP aS (df (dv 5)) ?W
     case W=>exact(df (ar aW aD (df (ar aW aD (df (ak aP aS (df (dv 1)) (df af))) (df af))) (df (PE.imp (bU dO rfl T.n_len R9 (bj (df (dv 5)) br)) (bz eG)))))
    case' V=>refine' aa ?X aj
    case X=>exact(PE.imp (cU fP rfl T.n_tuple fR (bj (df (fe (iK (df (fe (Ku rfl T.n_sorted Tn (bj (df (dv 9)) br)))) ia (cq af)))) br)) (bz fV))
   case' H=>refine' ao ?Y ?Z
   case Y=>
    refine' bJ ?a ?b bI
    case a=>exact(aQ (cz hr) cA (df (dv 0)) (df aX) (aF _))
    case' b=>refine' aw ?c
    case' c=>refine' aR ?d
    case' d=>refine' bH ?e
    case' e=>refine' aa aX ?f
    case' f=>refine' aa (dv 8) ?g
    case' g=>refine' aa ?h ?i
    case h=>
     refine' ak aP aS (df (dv 4)) ?j
     case j=>exact(df (ar aW aD (df (ak aP aS (df (dv 1)) (df af))) (df (PE.imp (bU dO rfl T.n_len R9 (bj (df (dv 4)) br)) (bz eG)))))
    case' i=>refine' aa ?k aj
    case' k=>refine' ak aP aS (df (dv 6)) ?l
    case l=>exact(df (ar aW aD (df (ak aP aS (df (dv 1)) (df af))) (df af)))
   case' Z=>refine' ao ?m ?n
   case m=>
    refine' bJ ?o ?p bI
    case o=>exact(aQ (cz hr) cA (df (dv 0)) (df aX) (aF _))
    case' p=>refine' aw ?q
    case' q=>refine' aR ?r
    case' r=>refine' bH ?s
    case' s=>refine' aa aX ?t
    case' t=>refine' aa (dv 8) ?u
    case' u=>refine' aa ?v ?w
    case v=>
     refine' ak aP aS (df (dv 7)) ?x
     case x=>exact(df (ar aW aD (df (ak aP aS (df (dv 1)) (df af))) (df (PE.imp (bU dO rfl T.n_len R9 (bj (df (dv 7)) br)) (bz eG)))))
    case' w=>refine' aa ?y aj
    case y=>exact(PE.imp (aE G_AC (hr.mono Yq) rfl T.F_AC (aa (dv 1) (aa (dv 5) (aa (dv 6) (aa (dv 3) aj))))) aN)
   case' n=>refine' ao ?z ?A0
   case z=>
    refine' bJ ?A1 ?A2 bI
    case A1=>exact(aQ (cz hr) cA (df (dv 0)) (df aX) (aF _))
    case' A2=>refine' ao ?A3 ?A4
    case A3=>
     generalize hG59:U4 _ _ _=eg59;refine' bg (i:=10) nI.nd rfl Yu ?A5 (hs:=by subst hG59;exact oo)
     case' A5=>subst hG59
     refine' ak aP aS (df ?A6) ?A7
     case A6=>
      refine' fe ?A8
      case' A8=>refine' bV ?A9
      case' A9=>refine' aa ?AA ?AB
      case AA=>
       refine' bH ?AC
       case' AC=>refine' aa aX ?AD
       case' AD=>refine' aa ?AE aj
       case' AE=>refine' ak aP aS (df (dv 4)) ?AF
       case AF=>exact(df (ar aW aD (df (ak aP aS (df (dv 1)) (df af))) (df (PE.imp (bU dO rfl T.n_len R9 (bj (df (dv 4)) br)) (bz eG)))))
      case' AB=>refine' aa ?AG aj
      case' AG=>refine' bH ?AH
      case' AH=>refine' aa aX ?AI
      case' AI=>refine' aa ?AJ aj
      case' AJ=>refine' ak aP aS (df (dv 5)) ?AK
      case AK=>exact(df (ar aW aD (df (ak aP aS (df (dv 1)) (df af))) (df (PE.imp (bU dO rfl T.n_len R9 (bj (df (dv 5)) br)) (bz eG)))))
     case A7=>exact(df (ar aW aD (df (ak aP aS (df (dv 1)) (df af))) (df af)))
    case' A4=>refine' aw ?AL
    case' AL=>generalize hG81:XT _ _ _=eg81
    refine' aR ?AM
    case' AM=>subst hG81
    refine' bH ?AN
    case' AN=>refine' aa aX ?AO
    case' AO=>refine' aa (dv 8) ?AP
    case' AP=>refine' aa ?AQ ?AR
    case AQ=>
     refine' ak aP aS (df (dv 7)) ?AS
     case AS=>exact(df (ar aW aD (df (ak aP aS (df (dv 1)) (df af))) (df af)))
    case' AR=>refine' aa (dv 10) ?AT
    case' AT=>refine' aa ?AU aj
    case AU=>exact(dG (cD hr.units) cE (df (ar aW aD (df (ak aP aS (df (dv 1)) (df af))) (df af))) (df af) (aF _))
   case' A0=>refine' ao ?AV ?AW
   case AV=>
    refine' bJ ?AX ?AY bI
    case AX=>exact(aQ (cz hr) cA (df (dv 0)) (df aX) (aF _))
    case' AY=>refine' aw ?AZ
    case' AZ=>refine' aR ?Aa
    case' Aa=>refine' bH ?Ab
    case' Ab=>refine' aa aX ?Ac
    case' Ac=>refine' aa (dv 8) ?Ad
    case' Ad=>refine' aa ?Ae ?Af
    case Ae=>
     refine' ak aP aS (df (dv 4)) ?Ag
     case Ag=>exact(df (ar aW aD (df (ak aP aS (df (dv 1)) (df af))) (df (PE.imp (bU dO rfl T.n_len R9 (bj (df (dv 4)) br)) (bz eG)))))
    case' Af=>refine' aa ?Ah aj
    case' Ah=>refine' ak aP aS (df (dv 5)) ?Ai
    case Ai=>exact(df (ar aW aD (df (ar aW aD (df (ak aP aS (df (dv 1)) (df af))) (df af))) (df (PE.imp (bU dO rfl T.n_len R9 (bj (df (dv 5)) br)) (bz eG)))))
   case' AW=>refine' aw ?Aj
   case' Aj=>refine' aR ?Ak
   case' Ak=>refine' bH ?Al
   case' Al=>refine' aa (dv 0) ?Am
   case' Am=>refine' aa (dv 8) ?An
   case' An=>refine' aa ?Ao aj
   case' Ao=>refine' ak aP aS (df (dv 7)) ?Ap
   case Ap=>exact(df (ar aW aD (df (ak aP aS (df (dv 1)) (df af))) (df (ak aP aS (df (fe (bV (aa (PE.imp (bU dO rfl T.n_len R9 (bj (df (dv 7)) br)) (bz eG)) (aa af aj))))) (df (PE.imp (cU qu rfl T.n_int qz (bj (df (dG (cz hr) cA (df (dv 0)) (df aX) (aF _))) br)) (bz qE)))))))
  case B=>
  clear hr T G_AA G_AC;simp only [Aq];generalize hB:fg (fD _ _ _) _=TB;walk_at "g";refine⟨h0,λd d0=>?_⟩;subst hB;have six:∀i:Int,0<=i->i < 6->∃nm,atI [QZ n0,QZ n1,QZ n2,QZ n3,QZ n4,QZ n5] i=some (.str nm)/\Q2 nm=true:=λi i0 i1=>by
   obtain⟨nm,hm,e⟩:=lL [n0,n1,n2,n3,n4,n5] i0 (show i < ((6:Nat):Int) by omega);exact⟨nm,e,hok nm (by simp only [Q4,Rt,or_false] at hm⊢;rcases hm with h | h | h | h | h | h <;> simp only [h,true_or,or_true])⟩
  have thr:∀i:Int,0<=i->i < 3->∃nm,atI [QZ n1,QZ n2,QZ n3] i=some (.str nm)/\Q2 nm=true:=λi i0 i1=>by
   obtain⟨nm,hm,e⟩:=lL [n1,n2,n3] i0 (show i < ((3:Nat):Int) by omega);exact⟨nm,e,hok nm (by simp only [Q4,Rt,or_false] at hm⊢;rcases hm with h | h | h <;> simp only [h,true_or,or_true])⟩
  have fiv:∀i:Int,0<=i->i < 5->∃nm,atI [QZ n2,QZ n3,QZ n4,QZ n5,QZ n6] i=some (.str nm)/\Q2 nm=true:=λi i0 i1=>by
   obtain⟨nm,hm,e⟩:=lL [n2,n3,n4,n5,n6] i0 (show i < ((5:Nat):Int) by omega);exact⟨nm,e,hok nm (by simp only [Q4,Rt,or_false] at hm⊢;rcases hm with h | h | h | h | h <;> simp only [h,true_or,or_true])⟩
  have l1:∀{s:Str},Q2 s=true->bQ 5 (.str s):=λh=>(iL h).mono Yq;refine rn λR hR=>?_;walk_at "g";split
  ·rename_i e;refine⟨Yq,Yq,λi acc=>∃ss:List Str,acc=ss.map .str/\ss.length<=i/\∀z∈ss,Q2 z=true,⟨[],rfl,QY _,Yv⟩,?_,?_⟩
   ·rintro i z acc hz ⟨ss,rfl,sl,sok⟩;obtain⟨hi,rfl⟩:=qF hz;have hi:i < 6:=hi;obtain⟨nm,en,hn⟩:=six (0+(i:Int)) Yr Yr;walk_at "d";have no:∃ss_1:List Str,RZ QZ ss=RZ QZ ss_1/\ss_1.length<=i+1/\∀(z:Str),z∈ss_1->Q2 z=true:=⟨ss,rfl,Yr,sok⟩;refine⟨⟨_,rfl⟩,Yr,λ_ r=>?_⟩;split
    ·refine⟨⟨_,rfl⟩,Yr,λ_ r=>?_⟩;split
     ·refine⟨_,en,ss++[nm],by rw [Rq];rfl,by rw [Ra,Td];omega,λz hz=>?_⟩;rcases Rj.mp hz with h | h
      ·exact sok z h
      ·rw [Rk] at h;rw [h];exact hn
     ·exact no
    ·exact no
   ·rintro acc ⟨ss,rfl,sl,sok⟩;rw [vF] at sl;have sl:ss.length<=6:=sl;obtain⟨nm,en,hn⟩:=six (x1 % 6) Yr Yr;obtain⟨kd,ek,hk⟩:=thr (x2 % 3 % 3) Yr Yr;refine⟨Yq,_,en,Yq,_,ek,ss,rfl,Yr,?_⟩;obtain⟨ms,em,m1,m2⟩:=OT (fi ss) none (some 4);have sp:=kC ss;rw [em];exact q (.pap ⟨d,nm,kd,ms⟩) (OR d0 hn hk (λm hm=>sok m (sp.mem_iff.mp (m1 m hm))) (by rw [sp.length_eq] at m2;show ms.length<=50;omega)) (eq_of_beq e).symm
  ·rename_i ep;subst hR;refine rn λR hR=>?_;walk_at "g";split
   ·rename_i e;obtain⟨nm,en,hn⟩:=six (x1 % 6) Yr Yr;obtain⟨kd,hk,ek⟩:=lL [n2,n3] (i:=x2 % 2) Yr (by show _ < ((2:Nat):Int);omega);have hk:Q2 kd=true:=hok kd (by simp only [Q4,Rt,or_false] at hk⊢;rcases hk with h | h <;> simp only [h,true_or,or_true]);exact⟨Yq,_,en,_,ek,q (.oth (QU "happens") d nm [.str kd]) (rA d0 Yp hn (bR (l1 hk) fF) ⟨Yp,λ_=>⟨kd,rfl,hk⟩,λh=>absurd h Yp,λh=>absurd h Yp,λh=>absurd h Yp,Yv⟩) (eq_of_beq e).symm⟩
   ·rename_i eh;subst hR;refine rn λR hR=>?_;walk_at "g";split
    ·rename_i e;obtain⟨nm,en,hn⟩:=fiv (x1 % 5) Yr Yr;refine⟨Yq,_,en,x0,x1,x2,x3,x4,x5,x6,x7,x8,n1,n2,n3,n2,n3,f,rfl,λz hz=>hok z ?_,λpt hpt=>?_⟩
     ·simp only [Q4,Rt,or_false] at hz⊢;rcases hz with h | h | h | h | h <;> simp only [h,true_or,or_true]
     ·exact q (.oth (QU "rule") d nm [pt.enc]) (rA d0 Yp hn (bR ((Pt.lay hpt).mono Yq) fF) ⟨Yp,λh=>absurd h Yp,λ_=>⟨pt,rfl,hpt⟩,λh=>absurd h Yp,λh=>absurd h Yp,Yv⟩) (eq_of_beq e).symm
    ·rename_i er;subst hR;refine rn λR hR=>?_;walk_at "g";split
     ·rename_i e;obtain⟨nm,en,hn⟩:=six (x2 % 6) Yr Yr;obtain⟨kd,ek,hk⟩:=thr (x2 % 3) Yr Yr;obtain⟨ho,eo,hh⟩:=fiv (x1 % 2) Yr Yr;obtain⟨v,ev,hv⟩:=qy (xs:=[RB [QZ (QU "paper"),.str nm],RB [QZ (QU "kind"),.str kd]]) (i:=x3 % 2) Yr (by show _ < ((2:Nat):Int);omega);have lv:∃(ip:Bool)(z:Str),v=gj ip z/\Q2 z=true:=by
       simp only [Q4,Rt,or_false] at hv;rcases hv with rfl | rfl
       ·exact⟨true,nm,rfl,hn⟩
       ·exact⟨false,kd,rfl,hk⟩
      obtain⟨ip,z,rfl,hz⟩:=lv;have ly:bQ 5 (gj ip z):=(OP (by cases ip <;> decide+kernel) hz).mono Yq;exact⟨Yq,_,en,Yq,_,ek,_,ev,_,eo,q (.oth (QU "hold") d ho [gj ip z,.bool (x4 % 2==0)]) (rA d0 Yp hh (bR ly (bR (Km.mono Yq) fF)) ⟨Yp,λh=>absurd h Yp,λh=>absurd h Yp,λ_=>⟨ip,z,_,rfl,hz⟩,λh=>absurd h Yp,Yv⟩) (eq_of_beq e).symm⟩
     ·rename_i eo;subst hR;refine rn λR hR=>?_;walk_at "g";split
      ·rename_i e;obtain⟨nm,en,hn⟩:=six (x1 % 6) Yr Yr;obtain⟨kd,ek,hk⟩:=thr (x2 % 3 % 3) Yr Yr;exact⟨Yq,_,en,Yq,_,ek,q (.oth (QU "leave") d nm [.str kd]) (rA d0 Yp hn (bR (l1 hk) fF) ⟨Yp,λh=>absurd h Yp,λh=>absurd h Yp,λh=>absurd h Yp,λ_=>⟨kd,rfl,hk⟩,Yv⟩) (eq_of_beq e).symm⟩
      ·rename_i el;have fin:∀m:Int,0 < m->m<=5->∃x_1,atI [QZ n2,QZ n3,QZ n4,QZ n5,QZ n6] (x1 % m)=some x_1/\Q (RB [QZ so,Rv d,x_1]):=λm m0 m5=>by
        obtain⟨nm,en,hn⟩:=fiv (x1 % m) (T2 _ Yr) (Int.lt_of_lt_of_le (To _ m0) m5);exact⟨_,en,q (.oth so d nm []) (rA d0 (OS so hso) hn fF ⟨λh=>ep (by rw [h];rfl),λh=>absurd (by rw [h];rfl) eh,λh=>absurd (by rw [h];rfl) er,λh=>absurd (by rw [h];rfl) eo,λh=>absurd (by rw [h];rfl) el,Yv⟩) rfl⟩
       subst hR;walk_at "g";split
       ·exact⟨_,eM,2,rfl,Yq,fin 2 Yq Yq⟩
       ·exact⟨_,dH,5,rfl,Yq,fin 5 Yq Yq⟩
end
theorem FQ:bb (av ue) ["_law_script","_law_at","_law_far_here","_law_head","_law_pools_here","_law_found","_law_k","_law_sort","_law_xs","_law_deed_here","_law_turn"] ["_law_other","_law_deed_here"] 1 [9] ⟨Q3,[ (QX ".0",aab),(QX "_law_other",aab),(QX "_law_quarrel",RC),(QX "_law_deed_here",Rb)],false,false,[]⟩:=⟨rfl,Yp,Yp,Yp,rfl,Yp,Yp,Yp,rfl⟩
section
variable {P:YI} {w:YJ} {K:QV} {mg:Str->Option Yx} {base:YK} {t:cg}
theorem FT{ns:List Int}(h:(ns.length:Int)=4):∃a b c d,ns=[a,b,c,d]:=by
 match ns,(show ns.length=4 by omega) with
 | [a,b,c,d],_=>exact⟨_,_,_,_,rfl⟩
theorem OW{ns:List Int}(h:(ns.length:Int)=9):∃a0 a1 a2 a3 a4 a5 a6 a7 a8,ns=[a0,a1,a2,a3,a4,a5,a6,a7,a8]:=by
 match ns,(show ns.length=9 by omega) with
 | [a0,a1,a2,a3,a4,a5,a6,a7,a8],_=>exact⟨_,_,_,_,_,_,_,_,_,rfl⟩
theorem FU{f:De->Bool}{s:Str}(h:∀x,f x=true->x.w=s):∀xs:List De,(xs.filter f).length<=((xs.map De.w).filter (·==s)).length
 | []=>QY _
 | x::xs=>by
  have ih:=FU h xs;rw [RQ,Q0,RQ];by_cases hf:f x=true
  ·rw [Yt hf,Yt (by rw [h x hf];exact beq_self_eq_true _)];exact Wy ih
  ·rw [Ys hf];split
   ·exact U0 ih
   ·exact ih
theorem Ar{f:De->Bool}{s:Str}{n:Nat}{xs:List De}(sl:(xs.map De.w).Sublist ix)(hn:(ix.filter (·==s)).length=n)(h:∀x,f x=true->x.w=s):(xs.filter f).length<=n:=by
 rw [<-hn];exact Rx (FU h xs) (sl.filter _).length_le
theorem gY.symm{x y:De}(h:gY x y):gY y x:=⟨λe=>h.1 e.symm,λp q e1 e2 e=>h.2.1 q p e2 e1 e.symm,λa b e=>h.2.2.1 b a ⟨e.1.symm,e.2.symm⟩,λa b e=>h.2.2.2.1 b a ⟨e.1.symm,e.2.symm⟩,λa b e=>h.2.2.2.2 b a e.symm⟩
structure Dr (np nr nh:Nat) (xs:List De):Prop where
 it:∀x∈xs,jC x
 pw:xs.Pairwise gY
 ln:xs.length<=20
 cP:(aC xs).length<=np
 cR:(xs.filter De.isR).length<=nr
 cH:(xs.filter De.isH).length<=nh
theorem Dr.of{xs:List De}(it:∀x∈xs,jC x)(pw:xs.Pairwise gY)(sl:(xs.map De.w).Sublist ix):Dr 5 5 3 xs/\xs.length<=19:=by
 have ln:xs.length<=19:=by have:=sl.length_le;rwa [QW] at this
 have pl:(aC xs).length<=5:=by
  have h1:=Ar (f:=iV λ_=>true) sl (n:=5) (s:=QU "paper") Yp (λx hx=>by cases x with | pap p=>rfl | oth=>cases hx);have h2:=congrArg VU (pR (f:=λ_=>true) xs);rw [fK,QW,QW] at h2;omega
 refine⟨⟨it,pw,Yr,pl,?_,?_⟩,ln⟩
 ·exact Ar sl (s:=QU "rule") Yp (λx hx=>by cases x with | pap p=>cases hx | oth w d nm r=>exact eq_of_beq hx)
 ·exact Ar sl (s:=QU "happens") Yp (λx hx=>by cases x with | pap p=>cases hx | oth w d nm r=>exact eq_of_beq hx)
theorem Dr.perm{np nr nh:Nat}{xs ys:List De}(d:Dr np nr nh xs)(h:ys.Perm xs):Dr np nr nh ys:=
 ⟨λx hx=>d.it x (h.mem_iff.mp hx),(h.pairwise_iff λz=>z.symm).mpr d.pw,by rw [h.length_eq];exact d.ln,by unfold aC;rw [(h.filterMap _).length_eq];exact d.cP,by rw [(h.filter _).length_eq];exact d.cR,by rw [(h.filter _).length_eq];exact d.cH⟩
theorem Dr.good{np nr nh:Nat}{xs:List De}(h:Dr np nr nh xs):bO xs:=by
 have it:=h.it;have pw:=h.pw;have ln:=h.ln;clear h;have pg:∀p∈aC xs,jC (.pap p):=λp hp=>it _ (EA.mp hp);have pl:(aC xs).length<=xs.length:=Vq De.pp xs;have two:∀{A:De->De->Prop},(∀x y,gY x y->¬A x y)->(∀x y,A x y->A y x)->∀x∈xs,∀y∈xs,A x y->x=y:=λ{A} h sy x hx y hy a=>by
  clear it pg pl ln
  induction xs with
  | nil=>cases hx
  | cons z xs ih=>
   rw [Sy] at pw;rcases Q4.mp hx with e1 | h1
   ·rcases Q4.mp hy with e2 | h2
    ·rw [e1,e2]
    ·exact absurd (by rw [<-e1];exact a) (h z y (pw.1 y h2))
   ·rcases Q4.mp hy with e2 | h2
    ·exact absurd (by rw [<-e2];exact sy _ _ a) (h z x (pw.1 x h1))
    ·exact ih pw.2 h1 h2
 refine⟨⟨⟨⟨Yr,?_,λp hp=>(pg p hp).nm,λp hp=>((pg p hp).pp p rfl).1,λp hp=>((pg p hp).pp p rfl).2⟩,λw d nm r h=>(it _ h).np w d nm r rfl,Yr,λx hx=>(it x hx).w,λx hx=>(it x hx).nm⟩,λd nm r h=>(it _ h).hp d nm r rfl,λd nm r h=>(it _ h).ru d nm r rfl,pw.imp λh=>h.1,λx hx=>(it x hx).d0,λx hx y hy a1 a2 a3 a4=>?_⟩,λd nm r h=>(it _ h).ho d nm r rfl,λd nm r h=>(it _ h).le d nm r rfl,λx hx y hy a1 a2 a3 a4=>?_,λx hx y hy a1 a2 a3=>?_⟩
 ·rw [VM,Sm];refine pw.filterMap De.pp λa b h p hp q hq=>?_;cases a with
  | oth=>cases hp
  | pap p'=>
   cases b with
   | oth=>cases hq
   | pap q'=>cases hp;cases hq;exact h.2.1 _ _ rfl rfl
 ·exact two (A:=λx y=>x.isE=true/\y.isE=true/\x.d=y.d/\x.nm=y.nm) (λx y h a=>h.2.2.1 a.1 a.2.1 a.2.2) (λx y a=>⟨a.2.1,a.1,a.2.2.1.symm,a.2.2.2.symm⟩) x hx y hy ⟨a1,a2,a3,a4⟩
 ·exact two (A:=λx y=>x.isL=true/\y.isL=true/\x.d=y.d/\x.nm=y.nm) (λx y h a=>h.2.2.2.1 a.1 a.2.1 a.2.2) (λx y a=>⟨a.2.1,a.1,a.2.2.1.symm,a.2.2.2.symm⟩) x hx y hy ⟨a1,a2,a3,a4⟩
 ·exact two (A:=λx y=>x.w=QU "leave"/\y.w=QU "leave"/\x.nm=y.nm) (λx y h a=>h.2.2.2.2 a.1 a.2.1 a.2.2) (λx y a=>⟨a.2.1,a.1,a.2.2.symm⟩) x hx y hy ⟨a1,a2,a3⟩
theorem OX(l:List (Int×Str)):(gT l).length<=l.length:=by
 unfold gT;split
 ·rename_i h;exact Xa h.choose_spec.1.length_eq
 ·exact RL _
theorem FV{α:Type}{p q:α->Bool}(h:∀x,p x=true->q x=true):∀xs:List α,(xs.filter p).length+((xs.filter λx=>!p x).filter q).length<=(xs.filter q).length
 | []=>QY _
 | x::xs=>by
  have ih:=FV h xs;by_cases hp:p x=true
  ·rw [RQ,Yt hp,RQ,Ys (by rw [hp];exact Q5),RQ,Yt (h x hp),Q8,Q8];omega
  ·rw [RQ,Ys hp,RQ,Yt (by rw [Tp] at hp;rw [hp];rfl),RQ,RQ];by_cases hq:q x=true
   ·rw [Yt hq,Yt hq,Q8,Q8];omega
   ·rw [Ys hq,Ys hq];exact ih
theorem As{nm:Str}{x:De}(h:dD nm x=true):x.isH=true/\x.nm=nm:=by
 cases x with
 | pap p=>cases h
 | oth w d n r=>
  simp only [dD,R5,beq_iff_eq] at h;exact⟨by simp [De.isH,h.1],h.2⟩
theorem FW:∀{nms:List Str},nms.Nodup->∀xs:List De,(nms.map λnm=>(xs.filter (dD nm)).length).sum<=(xs.filter De.isH).length
 | [],_,_=>RL _
 | nm::nms,nd,xs=>by
  rw [Sz] at nd;have ih:=FW nd.2 (xs.filter λx=>!dD nm x);have sp:=FV (p:=dD nm) (q:=De.isH) (λx h=>(As h).1) xs;have e:(nms.map λnm'=>((xs.filter λx=>!dD nm x).filter (dD nm')).length)=nms.map λnm'=>(xs.filter (dD nm')).length:=by
   refine Tc λnm' hn=>?_;rw [Xj];congr 2;funext x;by_cases h:dD nm' x=true
   ·have h2:dD nm x=false:=by
     rw [<-Tp];intro z;exact nd.1 (by rw [<-(As z).2,(As h).2];exact hn)
    rw [h,h2];rfl
   ·rw [Tp] at h;rw [h];rfl
  rw [e] at ih;rw [Q0,Uo];omega
theorem rB{α β:Type}{f:α->List β}{g:α->Nat}:∀{l:List α},(∀x∈l,(f x).length<=g x)->(l.flatMap f).length<=(l.map g).sum
 | [],_=>RL _
 | x::l,h=>by
  have ih:=rB (f:=f) (g:=g) (l:=l) λy hy=>h y (Ru _ hy);have h1:=h x RK;rw [Wi,Ra,Q0,Uo];omega
theorem FX{α:Type}:∀l:List α,(l.map λ_=>1).sum=l.length
 | []=>rfl
 | _::l=>by rw [Q0,Uo,FX l,Q8];omega
theorem OY{np nr nh:Nat}{xs:List De}(h:Dr np nr nh xs)(kd:Str)(s:bW)(k:Int)(u:Str):(iw (cN xs) kd s k u).length<=max np nh:=by
 have rl:(cN xs).length=(aC xs).length:=by unfold cN;rw [QW,iS]
 have c1:=h.cP;have c3:=h.cH;have hap:∀wd:Str,((cN xs).map λr=>(dX r.hs wd).length).sum<=nh:=λwd=>by
  have nd:((bu (aC xs)).map (·.nm)).Nodup:=((iQ _).map _).nodup_iff.mpr h.good.gd.gx.gp.nd;have hs:=FW nd xs;have le:((cN xs).map λr=>(dX r.hs wd).length).sum<=(((bu (aC xs)).map (·.nm)).map λnm=>(xs.filter (dD nm)).length).sum:=by
   unfold cN;rw [Rm,Rm];generalize bu (aC xs)=cs
   induction cs with
   | nil=>exact QY _
   | cons c cs ih=>
    rw [Q0,Q0,Uo,Uo];have h1:(dX (eU xs c).hs wd).length<=(xs.filter (dD c.nm)).length:=by
     unfold dX;rw [QW];refine Rx (RJ _ _) (Rx (OX _) ?_);unfold dW;rw [QW];exact QY _
    exact VT h1 ih
  omega
 unfold iw;cases s with
 | com=>
  have:=rB (f:=λr:Rp=>if (r.c.kd==kd)=true then(oF r .com).map λb=>jw b k u else []) (g:=λ_=>1) (l:=cN xs) (λr _=>by
   split
   ·rw [QW];exact QY _
   ·exact RL _)
  rw [FX] at this;omega
 | fst wd=>
  have:=rB (f:=λr:Rp=>if (r.c.kd==kd)=true then(oF r (.fst wd)).map λb=>jw b k u else []) (g:=λr=>(dX r.hs wd).length) (l:=cN xs) (λr _=>by
   split
   ·rw [QW];show((dX r.hs wd).take 1).length<=_;rw [RI];omega
   ·exact RL _)
  have:=hap wd;omega
 | lst wd=>
  have:=rB (f:=λr:Rp=>if (r.c.kd==kd)=true then(oF r (.lst wd)).map λb=>jw b k u else []) (g:=λr=>(dX r.hs wd).length) (l:=cN xs) (λr _=>by
   split
   ·rw [QW];exact QY _
   ·exact RL _)
  have:=hap wd;omega
theorem OZ{np nr nh:Nat}{xs:List De}(h:Dr np nr nh xs){x:De}(hx:x∈xs):(cm xs x).length<=if x.isR=true then max np nh else 0:=by
 by_cases e:cm xs x=[]
 ·rw [e];exact RL _
 ·have hr:x.isR=true:=by
   rw [<-Wj];exact λz=>e (Ah z)
  rw [Yt hr];cases x with
  | pap p=>cases hr
  | oth wo d nm r=>
   have hw:wo=QU "rule":=eq_of_beq hr;subst hw;obtain⟨pt,rfl,ok⟩:=(h.it _ hx).ru d nm r rfl;cases pt with
   | two w2 kd=>exact absurd (Fo _ _ _ _ _ _) e
   | five w2 kd s k u=>
    rw [Fm];exact OY h kd s k u
theorem FY(m:Nat):∀xs:List De,(xs.map λx=>if x.isR=true then m else 0).sum=m*(xs.filter De.isR).length
 | []=>rfl
 | x::xs=>by
  rw [Q0,Uo,FY m xs,RQ];split
  ·rw [Q8,Ya];omega
  ·omega
theorem Dr.few{np nr nh:Nat}{xs:List De}(h:Dr np nr nh xs)(hn:20+max np nh*nr < 64):oH xs:=by
 have fb:=rB (f:=cm xs) (l:=xs) λx hx=>OZ h hx;rw [FY] at fb;have ln:=h.ln;have mm:=W5 (max np nh) h.cR;have tl:(gW xs).length < 64:=by
  unfold gW;rw [Ra,QW];omega
 exact⟨Yr,gW xs,tl,λz hz=>hz⟩
def O3:List Yw->(Yw->Prop)->Prop:=λds Q=>∃(ns:List Int)(k:Int)(f:Bool),ds=[fS (ns.map .int),.int k,.bool f]/\0<=k/\k<=100/\∀xs,Dr 5 5 3 xs->xs.length<=19->Q (.tuple (xs.map De.enc))
def O4(v0 v1 v2 v3 v4:Yw)(i:Nat)(δ:Dl):Prop:=∃(xs:List De)(o6 o7 o8 o9:Option Sl),(xs.map De.w).Sublist (ix.take i)/\(∀x∈xs,jC x)/\xs.Pairwise gY/\δ=[some (Sl.v v0),some (Sl.v v1),some (Sl.v v2),some (Sl.v v3),some (Sl.v v4),some (Sl.o (xs.map De.enc)),o6,o7,o8,o9,none]
theorem O5(T:Txt K mg t):aA P w K mg base CX0 4 t.a_AH t.d_AH ["_law_script","_law_at","_law_far_here"] (aU K O3):=by
 have G_v:=@Al P w _ _ base _ T;have G_w:=@Am P w _ _ base _ T;have G_AF:=@OM P w _ _ base _ T;have G_AG:=@OO P w _ _ base _ T;have G_AE:=@OV P w _ _ base _ T;have G_AD:=@FN P w _ _ base _ T;refine T.F_AH.F.okD lH (λds Q h=>?_) (λ_ _ _ _ H O ds Q E hr h=>?_)
 ·obtain⟨ns,k,f,rfl,_⟩:=h;rfl
 ·obtain⟨ns,k,f,rfl,k0,k1,q⟩:=h;refine'⟨_,?A,?B⟩
  case A=>
   refine' ao ?C ?D
   case C=>exact(bg (i:=3) lH.nd rfl Yu (PE.imp (aE G_w (hr.mono Yq) rfl T.F_w (aa (PE.imp (aE G_v (hr.mono Yq) rfl T.F_v (aa (dv 0) (aa (dv 1) aj))) aN) (aa af aj))) aN))
   case' D=>refine' ao ?E ?F
   case E=>exact(bg (i:=4) lH.nd rfl Yu (PE.imp (aE G_AF (hr.mono Yq) rfl T.F_AF (aa (ak aP aS (df (dv 3)) (df af)) aj)) aN))
   case' F=>refine' ao ?G ?H
   case G=>exact(iG (i:=5) lH.nd rfl Yu (bV aj))
   case' H=>refine' ao ?I ?J
   case I=>
    refine' Dq RU rfl rfl T.n_enumerate (aa (PE.imp (Il G_AG (hr.mono Yq) rfl T.F_AG.m T.F_AG.kp T.F_AG.b .nil fx) JV) aj) ?K (gJ (b0 aL (b0 aL gI))) ?L
    case K=>exact(gB (n:=2) rfl (bY (aK (i:=6) lH.nd rfl Yu) (bY (aK (i:=7) lH.nd rfl Yu) gA)))
    case' L=>refine' ao ?M ?N
    case M=>
     refine' bg (i:=8) lH.nd rfl Yu ?O (hs:=qK)
     case O=>exact(PE.imp (aE G_w (hr.mono Yq) rfl T.F_w (aa (PE.imp (aE G_v (hr.mono Yq) rfl T.F_v (aa (dv 0) (aa (ar bA bN (df (ar bA bN (df (dv 1)) (df af))) (df (dv 6))) aj))) aN) (aa af aj))) aN)
    case' N=>refine' ao ?P ?Q
    case P=>exact(bg (i:=9) lH.nd rfl Yu (PE.imp (aE G_AE (hr.mono Yq) rfl T.F_AE (aa (dv 7) (aa (dv 8) (aa (dv 4) (aa (dv 2) aj))))) aN))
    case' Q=>refine' aw ?R
    case' R=>refine' bJ ?S ?T bI
    case S=>exact(PW.pt (fC (aQ jJ di (df (ar aW aD (df (ak aP aS (df (dv 8)) (df af))) (df af))) (df af) (aF _)) (fB (pd (jf (PE.imp (bU (vz rfl) rfl T.n_any vA (bj (df (fe (eF rfl FQ (dw 5) aL bM Yq (λ_ _ _ _=>(aK (i:=0) FQ.nd rfl Yu)) (λ_ _ _ _=>dj) (λ_ _ _ _=>(PE.imp (aE G_AD (hr.mono Yq) rfl T.F_AD (aa (dv 1) (aa (dv 0) aj))) aN))))) br)) (bz vE)))))))
    case' T=>refine' aw ?U
    case U=>exact(lU (i:=5) (pv 5) (dv 9))
   case' J=>refine' ao ?V ?W
   case V=>
    refine' bg (i:=10) lH.nd rfl Yu ?X (hs:=iM)
    case X=>exact(ar aW aD (df (ak aP aS (df (dv 3)) (df af))) (df (ar bA bN (df (PE.imp (bU dO rfl T.n_len R9 (bj (dw 5) br)) (bz eG))) (df af))))
   case' W=>refine' aw ?Y
   case' Y=>refine' aR ?Z
   case Z=>exact(PE.imp (cU fP rfl T.n_tuple fR (bj (df (fe (nZ (df (fe (iK (dw 5) (cq (dv 10)) ia))) (df (fe (iK (dw 5) ia (cq (dv 10)))))))) br)) (bz fV))
  case B=>
  clear hr T G_v G_w G_AF G_AG G_AE G_AD;walk_at "g";refine⟨k0,Yr,λc ms ml mn=>?_⟩;obtain⟨a,b,c2,d,rfl⟩:=FT ml;have c20:=(mn c2 Yv).1;clear ml mn;refine⟨_,eM,b,rfl,λn0 n1 n2 n3 n4 n5 n6 nok=>⟨rfl,_,rfl,?_⟩⟩;refine⟨O4 (fS (ns.map .int)) (.int k) (.bool f) (.list ([a,b,c2,d].map .int)) (Aq n0 n1 n2 n3 n4 n5 n6),⟨[],_,_,_,_,List.nil_sublist _,Yv,.nil,rfl⟩,?_,?_⟩
  ·rintro i z δ hz ⟨xs,o6,o7,o8,o9,sl,hg,hp,rfl⟩;rw [pA,Q9] at hz;cases hz':ix[i]? with
   | none=>rw [hz'] at hz;cases hz
   | some so=>
    rw [hz'] at hz;cases hz;have hi:i < 19:=(Q7.mp hz').1;walk_at "g";refine⟨Yr,Yr,λc1 ys yl yn=>?_⟩;obtain⟨y0,y1,y2,y3,y4,y5,y6,y7,y8,rfl⟩:=OW yl;have y00:=(yn y0 Yv).1;clear yl yn;refine⟨so,y0,y1,y2,y3,y4,y5,y6,y7,y8,n0,n1,n2,n3,n4,n5,n6,f,rfl,RA hz',y00,nok,λx gx hw=>?_⟩;walk_at "g";have ts:ix.take (i+1)=ix.take i++[so]:=by rw [RT,hz'];rfl
    have sl1:(xs.map De.w).Sublist (ix.take (i+1)):=by rw [ts];exact sl.trans (List.sublist_append_left _ _)
    have xl:xs.length<=19:=by have:=sl1.length_le;rw [QW,RI] at this;exact Rx this (Wr _ _)
    split
    ·refine⟨by rw [QW];omega,λi acc=>∃bs:List Bool,acc=bs.map .bool/\bs.length=i/\∀j:Nat,bs[j]?=some false->∀y,xs[j]?=some y->gY x y,⟨[],rfl,rfl,Yv⟩,?_,?_⟩
     ·rintro j z acc hz ⟨bs,rfl,bl,hb⟩;rw [Q9] at hz;cases hy':xs[j]? with
      | none=>rw [hy'] at hz;cases hz
      | some y=>
       rw [hy'] at hz;cases hz;walk_at "d";refine⟨x,y,rfl,gx,hg y (RA hy'),λb hb2=>⟨bs++[b],by rw [Rq];rfl,by rw [Ra,bl];rfl,λn hn y' hy2=>?_⟩⟩;rcases Tf n bs.length with h | h
       ·rw [R4 h] at hn;exact hb n hn y' hy2
       ·rw [Ss h] at hn;have n0:n - bs.length=0:=by
         rcases VW (n - bs.length) with h0 | h0
         ·exact h0
         ·rw [SF (by rw [Td];omega)] at hn;cases hn
        rw [n0] at hn;have ek:n=j:=Yr
        rw [ek,hy'] at hy2;cases hy2;exact hb2 (by simpa using hn)
     ·rintro acc ⟨bs,rfl,bl,hb⟩;rw [QW] at bl;refine⟨bs,rfl,?_⟩;split
      ·rename_i hany;have hno:∀y∈xs,gY x y:=λy hy=>by
        obtain⟨j,hj⟩:=W2 hy;have jl:j < bs.length:=by rw [bl];exact(Q7.mp hj).1
        refine hb j ?_ y hj;have:bs[j]=false:=by simpa using Wc.mp hany bs[j] (Tg jl)
        rw [RF jl,this]
       refine⟨by rw [QW];omega,xs++[x],_,_,_,_,?_,λy hy=>?_,U6.mpr ⟨hp,Vt _ _,λu hu v hv=>?_⟩,by rw [Rq];rfl⟩
       ·rw [ts,Rq,Q0,RW,hw];exact sl.append (Xu _)
       ·rcases Rj.mp hy with h | h
        ·exact hg y h
        ·rw [Rk] at h;rw [h];exact gx
       ·rw [Rk] at hv;rw [hv];exact(hno u hu).symm
      ·exact⟨xs,_,_,_,_,sl1,hg,hp,rfl⟩
    ·exact⟨xs,_,_,_,_,sl1,hg,hp,rfl⟩
  ·rintro δ ⟨xs,o6,o7,o8,o9,sl,hg,hp,rfl⟩;walk_at "d";rw [qS,QW,Rz (QY _)] at sl;have lm:(RZ De.enc xs).length=xs.length:=QW _;have xl:xs.length<=19:=by have:=sl.length_le;rwa [QW] at this
   refine⟨Yr,?_⟩;generalize htn:c2 % (((RZ De.enc xs).length:Int)+1)=tn;have t0:0<=tn:=by rw [<-htn];exact T2 _ Yr
   have t1:tn < ((RZ De.enc xs).length:Int)+1:=by rw [<-htn];exact To _ Yr
   rw [B4 t0 Yr,sO t0 Yr];refine⟨by rw [TH,RI];omega,?_⟩;rw [<-V8,<-T4,<-Rq];have dr:=Dr.of hg hp sl;have pm:(xs.drop tn.toNat++xs.take tn.toNat).Perm xs:=by
    have:=WW (l₁:=xs.drop tn.toNat) (l₂:=xs.take tn.toNat)
    rwa [TQ] at this
   exact q _ (dr.1.perm pm) (by rw [pm.length_eq];exact dr.2)
end
theorem FZ:bb (av tO) ["deeds","paper","line","place"] ["deed","line"] 1 [2] ⟨Q3,[ (QX ".0",aab),(QX "deed",aab),(QX "line",Rb)],false,false,[]⟩:=⟨rfl,Yp,Yp,Yp,rfl,Yp,Yp,Yp,rfl⟩
section
variable {P:YI} {w:YJ} {K:QV} {mg:Str->Option Yx} {base:YK} {t:cg}
theorem F0:∀{a b:List Str},S7 (a.map .str) (b.map .str)=true↔a=b
 | [],[]=>by simp [S7]
 | [],_::_=>by simp [S7]
 | _::_,[]=>by simp [S7]
 | x::a,y::b=>by
  rw [Q0,Q0,S7,R5,F0,dQ,beq_iff_eq,RO]
theorem F1{a b:Pp}:Rr a.enc b.enc=true↔a=b:=by
 obtain⟨d,nm,kd,ms⟩:=a;obtain⟨d',nm',kd',ms'⟩:=b;simp only [Pp.enc,Rr,S7,R5,F0,Pp.mk.injEq,decide_eq_true_eq,beq_iff_eq,and_true,true_and]
def p6(l:List Pp)(p:Pp):Bool:=(l.map Pp.enc).any λd=>Rr d p.enc
theorem O6{l:List Pp}{p:Pp}:p6 l p=true↔p∈l:=by
 unfold p6;rw [Ua];constructor
 ·rintro⟨d,hd,e⟩;obtain⟨q,hq,rfl⟩:=Rf.mp hd;rw [<-F1.mp e];exact hq
 ·intro h;exact⟨p.enc,Rf.mpr ⟨p,h,rfl⟩,F1.mpr rfl⟩
def lM(ps line:List Pp)(c:Pp):List Pp:=(eT ps c).filter λp=>!p6 line p
def gZ(ps:List Pp):Nat->List Pp->Nat->List Pp
 | 0,l,_=>l
 | f+1,l,i=>match l[i]? with
  | none=>l
  | some c=>gZ ps f (l++lM ps l c) (i+1)
def jD(ps:List Pp)(c:Pp):List Pp:=gZ ps ps.length [c] 0
theorem O7{ps l:List Pp}{i:Nat}(h:l.length<=i):∀f,gZ ps f l i=l
 | 0=>rfl
 | f+1=>by rw [gZ,SF h]
structure oI (ps:List Pp) (c:Pp) (l:List Pp):Prop where
 nd:l.Nodup
 sb:∀p∈l,p∈ps
 hd:∃r,l=c::r
theorem uF{α:Type}:∀{l L:List α},l.Nodup->(∀z∈l,z∈L)->l.length<=L.length
 | [],_,_,_=>RL _
 | a::l,L,nd,hm=>by
  rw [Sz] at nd;obtain⟨p,q,e⟩:=Xk (hm a Yv);have:=uF (l:=l) (L:=p++q) nd.2 λb hb=>by
   have hb':=hm b (by simp [hb]);rw [e] at hb';rcases Rj.mp hb' with z | z
   ·exact U5 _ z
   ·rcases Q4.mp z with z | z
    ·exact absurd (by rw [<-z];exact hb) nd.1
    ·exact R0 _ z
  rw [e,Ra,Q8,Q8];rw [Ra] at this;omega
theorem O8{ps:List Pp}(nd:(ps.map (·.nm)).Nodup):ps.Nodup:=by
 rw [VM,Sm] at nd;exact nd.imp λh e=>h (by rw [e])
theorem O9{ps:List Pp}(nd:(ps.map (·.nm)).Nodup)(c:Pp):(eT ps c).Nodup:=((iQ ps).nodup_iff.mpr (O8 nd)).sublist U9
theorem F2{ps:List Pp}{c p:Pp}(h:p∈eT ps c):p∈ps:=iR.mp (RP.mp h).1
theorem oI.next{ps:List Pp}(nd:(ps.map (·.nm)).Nodup){c:Pp}{l:List Pp}(h:oI ps c l)(d:Pp):oI ps c (l++lM ps l d):=by
 refine⟨Wh.mpr ⟨h.nd,(O9 nd d).sublist U9,λa ha b hb e=>?_⟩,λp hp=>?_,?_⟩
 ·have:=(RP.mp hb).2;rw [Sw,<-Tp] at this;exact this (O6.mpr (by rw [<-e];exact ha))
 ·rcases Rj.mp hp with z | z
  ·exact h.sb p z
  ·exact F2 (RP.mp z).1
 ·obtain⟨r,e⟩:=h.hd;exact⟨r++lM ps l d,by rw [e];rfl⟩
theorem F3{ps:List Pp}(nd:(ps.map (·.nm)).Nodup){c:Pp}:∀(f:Nat){l:List Pp}(i:Nat),oI ps c l->oI ps c (gZ ps f l i)
 | 0,_,_,h=>h
 | f+1,l,i,h=>by
  rw [gZ];split
  ·exact h
  ·exact F3 nd f (i+1) (h.next nd _)
theorem Pa{ps:List Pp}(nd:(ps.map (·.nm)).Nodup){c:Pp}(hc:c∈ps):oI ps c (jD ps c):=F3 nd _ _ ⟨Yv,by simpa using hc,[],rfl⟩
theorem Pb{ps:List Pp}(g:iT ps){c:Pp}(hc:c∈ps):uE (jD ps c):=by
 have h:=Pa g.nd hc;have h1:=uF h.nd h.sb;have h2:=g.ln;exact⟨Yr,λp hp=>⟨g.nm p (h.sb p hp),g.kd p (h.sb p hp)⟩⟩
theorem F4{ps:List Pp}(g:iT ps){c:Pp}(hc:c∈ps):bQ 3 c.enc:=by
 obtain⟨h1,h2⟩:=g.ms c hc;exact fh (bR (fG Yp) (bR Cy (bR (fG (g.nm c hc)) (bR (fG (g.kd c hc)) (bR (fh (n:=1) (sS h1)) fF)))))
def Pc:List Yw->(Yw->Prop)->Prop:=λds Q=>∃(xs:List De)(c:Pp),ds=[.tuple (xs.map De.enc),.str c.nm]/\gS xs/\c∈aC xs/\Q (.list ((jD (aC xs) c).map Pp.enc))
theorem Pd(T:Txt K mg t):aA P w K mg base CX0 6 t.a_P t.d_P ["deeds","paper"] (aU K Pc):=by
 have G_L:=@z4 P w _ _ base _ T;have G_N:=@EJ P w _ _ base _ T;refine T.F_P.F.okD uh (λds Q h=>?_) (λ_ _ _ _ H O ds Q E hr h=>?_)
 ·obtain⟨xs,c,rfl,_⟩:=h;rfl
 ·obtain⟨xs,c,rfl,gd,hc,q⟩:=h;refine'⟨_,?A,?B⟩
  case A=>
   refine' ao ?C ?D
   case C=>exact(iG (i:=2) uh.nd rfl Yu (bV (aa (PE.imp (aE G_L (hr.mono Yq) rfl T.F_L (aa (dv 0) (aa (dv 1) aj))) aN) aj)))
   case' D=>refine' ao ?E ?F
   case E=>exact(bg (i:=3) uh.nd rfl Yu af)
   case' F=>refine' ao ?G ?H
   case G=>
    refine' Lu RU ?I ?J
    case I=>exact(aQ rR di (df (dv 3)) (df (PE.imp (bU dO rfl T.n_len R9 (bj (dw 2) br)) (bz eG))) (aF _))
    case' J=>refine' ao ?K ?L
    case K=>exact(sY (i:=2) (pv 2) (eF rfl FZ (df (PE.imp (aE G_N (hr.mono Yq) rfl T.F_N (aa (dv 0) (aa (ak aP aS (dw 2) (df (dv 3))) aj))) aN)) aL bM Yq (λ_ _ _ _=>(aK (i:=0) FZ.nd rfl Yu)) (λ_ _ _ _=>(cZ (aQ (Kn hr) vL (df (dv 0)) (dw 1) rfl))) (λ_ _ _ _=>(dv 0))))
    case' L=>refine' aw ?M
    case M=>exact(bg (i:=3) uh.nd rfl Yu (ar bA bN (df (dv 3)) (df af)))
   case' H=>refine' aw ?N
   case N=>exact(qD (pv 2))
  case B=>
  clear hr T G_L G_N;have nd:=gd.gp.nd;have pl:=gd.gp.ln;walk_at "d";refine⟨xs,c,rfl,gd,hc,?_⟩;refine⟨λm δ=>∃(l:List Pp)(i f:Nat),oI (aC xs) c l/\i<=l.length/\m+i=(aC xs).length/\(aC xs).length<=f+i/\gZ (aC xs) f l i=jD (aC xs) c/\δ=[some (Sl.v (.tuple (xs.map De.enc))),some (Sl.v (.str c.nm)),some (Sl.o (l.map Pp.enc)),some (Sl.v (.int (i:Int)))],⟨(aC xs).length,[c],0,(aC xs).length,⟨Yv,by simpa using hc,[],rfl⟩,RL _,Yr,Yr,rfl,rfl⟩,?_⟩;rintro m δ ⟨l,i,f,hl,hi,hm,hf,ef,rfl⟩;have ll:=uF hl.nd hl.sb;walk_at "d";rw [QW];by_cases hlt:i < l.length
  ·rw [Yt Yr];have hc':l[i]?=some l[i]:=RF hlt;have ho:=hl.next nd l[i];have lo:=uF ho.nd ho.sb;rw [Ra] at lo;refine⟨_,fO (j:=i) (by rw [Q9,hc'];rfl),xs,l[i],rfl,gd,hl.sb _ (Tg hlt),_,rfl,by rw [QW];have:=z6 (c:=l[i]) gd.gp;omega,cX (λp=>!p6 l p) Pp.enc (λp hp R S h=>?_) ?_⟩
   ·walk_at "d";have ps:=F2 hp;refine⟨(F4 gd.gp ps).shp Yq,(qJ (n:=3) λd hd=>?_).1,by simpa [p6] using h⟩;obtain⟨p',hp',rfl⟩:=Rf.mp hd;exact F4 gd.gp (hl.sb p' hp')
   ·have e:(Ue (λp=>!p6 l p) (eT (aC xs) l[i]))=lM (aC xs) l l[i]:=rfl;rw [e];cases f with
    | zero=>omega
    | succ f=>
     rw [gZ,hc'] at ef;refine⟨by rw [QW];omega,m - 1,Yr,_,ho,i+1,by rw [Ra];omega,Yr,f,Yr,ef,by rw [Rq],Yr⟩
  ·rw [Ys Yr];rw [<-ef,O7 Yr] at q;exact q
local macro_rules | `(tactic| walk_at "e") =>rzT (rzS++" Sl.i.injEq exists_and_left pC")
theorem jE{f:Str}{d:Yw}:∀{l:List (Str×Yw)}{ks:List Str},l.map (·.1)=ks->ks.all (λk=>!(k==f))=true->dB f d l=l++[(f,d)]
 | [],_,_,_=>rfl
 | (g,x)::l,k::ks,h,hk=>by
  rw [Q0] at h;obtain⟨e1,e2⟩:=V9 h;rw [T8,R5] at hk;have e1:g=k:=e1;rw [dB,Ys (λz=>by rw [<-e1,z] at hk;simp at hk),jE e2 hk.2];rfl
 | _::_,[],h,_=>by cases h
def cn:List Str:=[QU "day",QU "paper",QU "to_stay",QU "to_go",QU "bars",QU "leave"]
abbrev F5(C:Yz)(a b c d e f:Yw):Yw:=fz C (cn.map .str) [a,b,c,d,e,f]
def Pe(C:Yz):List Yw->(Yw->Prop)->Prop:=λds Q=>∃a b c d e f,ds=[a,b,c,d,e,f]/\Q (F5 C a b c d e f)
theorem Pf(T:Txt K mg t):aA P w K mg base CX0 1 t.a_g t.d_g ["self","day","paper","to_stay","to_go","bars","leave"] (qQ K t.u_Look (Pe t.u_Look)):=by
 refine T.F_g.F.okI MV (λds Q h=>?_) (λcdv A outer s H H1 O ds Q E l hr h=>?_)
 ·obtain⟨a,b,c,d,e,f,rfl,_⟩:=h;rfl
 ·obtain⟨a,b,c,d,e,f,rfl,q⟩:=h;refine'⟨_,?A,?B⟩
  case A=>
   refine' ao ?C ?D
   case C=>exact(fI (C:=t.u_Look) (i:=0) T.cl_Look T.na_Look_day (pv 0) (dv 1))
   case' D=>refine' ao ?E ?F
   case E=>exact(fI (C:=t.u_Look) (i:=0) T.cl_Look T.na_Look_paper (pv 0) (dv 2))
   case' F=>refine' ao ?G ?H
   case G=>exact(fI (C:=t.u_Look) (i:=0) T.cl_Look T.na_Look_to_stay (pv 0) (dv 3))
   case' H=>refine' ao ?I ?J
   case I=>exact(fI (C:=t.u_Look) (i:=0) T.cl_Look T.na_Look_to_go (pv 0) (dv 4))
   case' J=>refine' ao ?K ?L
   case K=>exact(fI (C:=t.u_Look) (i:=0) T.cl_Look T.na_Look_bars (pv 0) (dv 5))
   case' L=>refine' aw ?M
   case M=>exact(fI (C:=t.u_Look) (i:=0) T.cl_Look T.na_Look_leave (pv 0) (dv 6))
  case B=>
  clear hr T;simp only [tf,eJ,Q0,RW,Sd,R7,VS,Q8,RR,SM,SN,Ri];walk_at "e";rw [jE (ks:=[]) rfl rfl,jE (ks:=cn.take 1) rfl Yp,jE (ks:=cn.take 2) rfl Yp,jE (ks:=cn.take 3) rfl Yp,jE (ks:=cn.take 4) rfl Yp,jE (ks:=cn.take 5) rfl Yp];have lt:∀n:Nat,n < 10->n < 1000:=λn h=>by omega
  exact⟨lt 1 Yq,lt 2 Yq,lt 3 Yq,lt 4 Yq,lt 5 Yq,q⟩
def iZ:Option Str->Yw
 | none=>.none
 | some s=>.str s
structure Lk where
 d:Int
 nm:Str
 st:List (Str×Yw)
 go:List (Str×Yw)
 bars:List Yw
 lv:Option Str
def Lk.enc(C:Yz)(k:Lk):Yw:=F5 C (.int k.d) (.str k.nm) (.tuple (k.st.map ck)) (.tuple (k.go.map ck)) (.list k.bars) (iZ k.lv)
def Lk.lets(k:Lk):Bool:=decide (0 < k.go.length) && decide (k.bars.length=0)
structure Ro where
 nm:Str
 d:Int
 lv:Option Str
def Ro.enc(r:Ro):Yw:= .tuple [.str r.nm,.int r.d,iZ r.lv]
def Lk.row(k:Lk):Ro:=⟨k.nm,k.d,k.lv⟩
def lN(k:Lk):Prop:=k.st.length<=41/\k.go.length<=41/\k.bars.length<=200
theorem Pg{a b c d e f:Yw}:bh cn [a,b,c,d,e,f] (QU "day")=some a:=by simp [cn,bh]
theorem Ph{a b c d e f:Yw}:bh cn [a,b,c,d,e,f] (QU "paper")=some b:=by
 simp only [cn,bh,Ys (show QU "day"≠QU "paper" by decide+kernel),if_true]
theorem Pj{a b c d e f:Yw}:bh cn [a,b,c,d,e,f] (QU "to_go")=some d:=by
 simp only [cn,bh,Ys (show QU "day"≠QU "to_go" by decide+kernel),Ys (show QU "paper"≠QU "to_go" by decide+kernel),Ys (show QU "to_stay"≠QU "to_go" by decide+kernel),if_true]
theorem Pk{a b c d e f:Yw}:bh cn [a,b,c,d,e,f] (QU "bars")=some e:=by
 simp only [cn,bh,Ys (show QU "day"≠QU "bars" by decide+kernel),Ys (show QU "paper"≠QU "bars" by decide+kernel),Ys (show QU "to_stay"≠QU "bars" by decide+kernel),Ys (show QU "to_go"≠QU "bars" by decide+kernel),if_true]
theorem Pm{a b c d e f:Yw}:bh cn [a,b,c,d,e,f] (QU "leave")=some f:=by
 simp only [cn,bh,Ys (show QU "day"≠QU "leave" by decide+kernel),Ys (show QU "paper"≠QU "leave" by decide+kernel),Ys (show QU "to_stay"≠QU "leave" by decide+kernel),Ys (show QU "to_go"≠QU "leave" by decide+kernel),Ys (show QU "bars"≠QU "leave" by decide+kernel),if_true]
def Pn(C:Yz):List Yw->(Yw->Prop)->Prop:=λds Q=>∃k:Lk,ds=[k.enc C]/\lN k/\Q (.bool k.lets)
theorem F6(T:Txt K mg t):aA P w K mg base CX0 1 t.a_h t.d_h ["self"] (aU K (Pn t.u_Look)):=by
 refine T.F_h.F.okD MW (λds Q h=>?_) (λ_ _ _ _ H O ds Q E hr h=>?_)
 ·obtain⟨k,rfl,_⟩:=h;rfl
 ·obtain⟨k,rfl,⟨_,h1,h2⟩,q⟩:=h;refine'⟨_,?A,?B⟩
  case A=>
   refine' aw ?C
   case' C=>refine' aR ?D
   case D=>exact(qB (dG jJ di (df (PE.imp (bU dO rfl T.n_len R9 (bj (df (cb (C:=t.u_Look) T.cl_Look T.na_Look_to_go (dv 0))) br)) (bz eG))) (df af) (aF _)) (qA (dG (cD hr.units) cE (df (PE.imp (bU dO rfl T.n_len R9 (bj (df (cb (C:=t.u_Look) T.cl_Look T.na_Look_bars (dv 0))) br)) (bz eG))) (df af) (aF _))))
  case B=>
  clear hr T;simp only [Lk.enc];walk_at "d";refine⟨cn,_,rfl,_,Pj,_,.inr rfl,?_⟩;have q:Q (.bool (decide (0 < k.go.length) && decide (k.bars.length=0))):=q;rw [QW];by_cases h:0 < k.go.length
  ·rw [Yt Yr];refine⟨cn,_,rfl,_,Pk,_,.inl rfl,?_⟩;rw [decide_eq_true h,SA] at q;rw [show((k.bars.length:Int)==0)=decide (k.bars.length=0) by
    by_cases e:k.bars.length=0
    ·simp [e]
    ·rw [decide_eq_false e];simp;exact λz=>e (by rw [z];rfl)]
   exact q
  ·rw [Ys Yr];rw [decide_eq_false h,U1] at q;exact q
def Po(C:Yz):List Yw->(Yw->Prop)->Prop:=λds Q=>∃k:Lk,ds=[k.enc C]/\Q k.row.enc
theorem F7(T:Txt K mg t):aA P w K mg base CX0 1 t.a_i t.d_i ["self"] (aU K (Po t.u_Look)):=by
 refine T.F_i.F.okD MX (λds Q h=>?_) (λ_ _ _ _ H O ds Q E hr h=>?_)
 ·obtain⟨k,rfl,_⟩:=h;rfl
 ·obtain⟨k,rfl,q⟩:=h;refine'⟨_,?A,?B⟩
  case A=>
   refine' aw ?C
   case' C=>refine' aR ?D
   case' D=>refine' bH ?E
   case' E=>refine' aa ?F ?G
   case F=>exact(cb (C:=t.u_Look) T.cl_Look T.na_Look_paper (dv 0))
   case' G=>refine' aa ?H ?I
   case H=>exact(cb (C:=t.u_Look) T.cl_Look T.na_Look_day (dv 0))
   case' I=>refine' aa ?J aj
   case J=>exact(cb (C:=t.u_Look) T.cl_Look T.na_Look_leave (dv 0))
  case B=>
  clear hr T;simp only [Lk.enc];walk_at "d";exact⟨cn,_,rfl,_,Ph,cn,_,rfl,_,Pg,cn,_,rfl,_,Pm,q⟩
structure Rn where
 n:Int
 L:List (Str×Pt)
 hs:List Hd
 lvs:List Pp
 go:List (Str×Int)
 us:List Str
def jF(p:Pp):Yw:= .tuple [.str (QU "leave"),.int p.d,.str p.nm,.str p.kd]
def Rn.fd(R:Rn):List (Str×Yw):=[(QU "day",.int R.n),(QU "rules",.tuple (R.L.map cI)),(QU "holds",.tuple (R.hs.map Hd.enc)),(QU "leaves",.list (R.lvs.map jF))]
def fo(go:List (Str×Int)):List (aq×Yw):=go.map λp=>(Sx p.1,.int p.2)
def fM(us:List Str):List (aq×Yw):=us.map λs=>(Sx s,.bool true)
def cu:List Str:=[QU "day",QU "rules",QU "holds",QU "leaves",QU "gone",QU "used"]
def Rn.gn(R:Rn):Gn:=⟨R.go.map (·.1),R.go.map (·.2)⟩
def Rn.enc(C:Yz)(R:Rn):Yw:=fz C (cu.map .str) [.int R.n,.tuple (R.L.map cI),.tuple (R.hs.map Hd.enc),.list (R.lvs.map jF),R.gn.enc,gb R.us (R.us.map λ_=>.bool true)]
theorem Pq(C:Yz)(R:Rn):wF C R.fd (R.go.map (·.1)) R.us (fo R.go) (fM R.us)=R.enc C:=by
 have e1:(fo R.go).map (·.2)=(R.go.map (·.2)).map Rv:=by unfold fo;rw [Rm,Rm];rfl
 have e2:(fM R.us).map (·.2)=R.us.map λ_=>.bool true:=by unfold fM;rw [Rm];rfl
 unfold wF;rw [e1,e2];rfl
theorem F8{a b c d e f:Yw}:bh cu [a,b,c,d,e,f] (QU "day")=some a/\bh cu [a,b,c,d,e,f] (QU "rules")=some b/\bh cu [a,b,c,d,e,f] (QU "holds")=some c/\bh cu [a,b,c,d,e,f] (QU "leaves")=some d/\bh cu [a,b,c,d,e,f] (QU "gone")=some e/\bh cu [a,b,c,d,e,f] (QU "used")=some f:=by
 have h:∀{x y:Str}{p q:Option Yw},x≠y->(if x=y then p else q)=q:=λh=>Ys h;refine⟨?_,?_,?_,?_,?_,?_⟩
 ·simp [cu,bh]
 ·simp only [cu,bh,h (show QU "day"≠QU "rules" by decide+kernel),if_true]
 ·simp only [cu,bh,h (show QU "day"≠QU "holds" by decide+kernel),h (show QU "rules"≠QU "holds" by decide+kernel),if_true]
 ·simp only [cu,bh,h (show QU "day"≠QU "leaves" by decide+kernel),h (show QU "rules"≠QU "leaves" by decide+kernel),h (show QU "holds"≠QU "leaves" by decide+kernel),if_true]
 ·simp only [cu,bh,h (show QU "day"≠QU "gone" by decide+kernel),h (show QU "rules"≠QU "gone" by decide+kernel),h (show QU "holds"≠QU "gone" by decide+kernel),h (show QU "leaves"≠QU "gone" by decide+kernel),if_true]
 ·simp only [cu,bh,h (show QU "day"≠QU "used" by decide+kernel),h (show QU "rules"≠QU "used" by decide+kernel),h (show QU "holds"≠QU "used" by decide+kernel),h (show QU "leaves"≠QU "used" by decide+kernel),h (show QU "gone"≠QU "used" by decide+kernel),if_true]
structure oJ (R:Rn):Prop where
 rl:iY R.L
 hd:ri R.hs
 ll:R.lvs.length<=41
 lk:∀p∈R.lvs,Q2 p.kd=true
theorem F9:∀(us:List Str)(z:Str),(bh us (us.map λ_=>UT true) z).isSome=us.contains z
 | [],_=>rfl
 | u::us,z=>by
  rw [Q0,bh,VY];by_cases h:u=z
  ·rw [Yt h,h];simp
  ·rw [Ys h,F9 us z,cf (λe=>h e.symm),S6]
def p7(R:Rn)(kd:Str)(p:Pp):Bool:=p.kd==kd && !R.us.contains p.nm
def oK(R:Rn)(kd:Str):Option Str:=(R.lvs.find? (p7 R kd)).map (·.nm)
def Pr(C:Yz):List Yw->(Yw->Prop)->Prop:=λds Q=>∃(R:Rn)(kd:Str),ds=[R.enc C,.str kd]/\oJ R/\Q2 kd=true/\Q (iZ (oK R kd))
theorem Pu(T:Txt K mg t):aA P w K mg base CX0 1 t.a_l t.d_l ["self","kind"] (aU K (Pr t.u_Round)):=by
 refine T.F_l.F.okD D8 (λds Q h=>?_) (λ_ _ _ _ H O ds Q E hr h=>?_)
 ·obtain⟨R,kd,rfl,_⟩:=h;rfl
 ·obtain⟨R,kd,rfl,g,hk,q⟩:=h;refine'⟨_,?A,?B⟩
  case A=>
   refine' ao ?C ?D
   case C=>
    refine' nY RU rfl (cb (C:=t.u_Round) T.cl_Round T.na_Round_leaves (dv 0)) ?E aL ?F
    case E=>exact(aK (i:=2) D8.nd rfl Yu)
    case' F=>refine' aw ?G
    case' G=>refine' bJ ?H ?I bI
    case H=>exact(PW.pt (fC (aQ (cD hr.units) cE (df (ak aG aM (df (dv 2)) (df af))) (df (dv 1)) (aF _)) (fB (Mj hr.units (cb (C:=t.u_Round) T.cl_Round T.na_Round_used (dv 0)) (ak aG aM (df (dv 2)) (df af))))))
    case' I=>refine' aw ?J
    case J=>exact(aR (ak aG aM (df (dv 2)) (df af)))
   case D=>refine' aw (aR gE)
  case B=>
  clear hr T;obtain⟨_,_,_,x4,_,x6⟩:=F8 (a:= .int R.n) (b:= .tuple (R.L.map cI)) (c:= .tuple (R.hs.map Hd.enc)) (d:= .list (R.lvs.map jF)) (e:=R.gn.enc) (f:=gb R.us (R.us.map λ_=>.bool true));walk_at "d";refine⟨cu,_,rfl,_,x4,_,rfl,?_⟩;refine⟨λi δ=>(∀p∈R.lvs.take i,p7 R kd p=false)/\∃o2,δ=[some (Sl.v (R.enc t.u_Round)),some (Sl.v (.str kd)),o2],⟨Yv,_,rfl⟩,?_,?_⟩
  ·rintro i z δ hz ⟨hn,o2,rfl⟩;rw [Q9] at hz;cases hz':R.lvs[i]? with
   | none=>rw [hz'] at hz;cases hz
   | some p=>
    rw [hz'] at hz;cases hz;have hp:=RA hz';have no:p7 R kd p=false->∀p∈R.lvs.take (i+1),p7 R kd p=false:=λh p' hp'=>by
     rw [RT,hz'] at hp';rcases Rj.mp hp' with z | z
     ·exact hn p' z
     ·have z:p'=p:=by simpa using z
      rw [z];exact h
    have yes:p7 R kd p=true->Q (.str p.nm):=λh=>by
     have e:oK R kd=some p.nm:=by
      unfold oK;rw [show R.lvs=R.lvs.take i++p::R.lvs.drop (i+1) by
       have hi:=(Q7.mp hz').1;rw [<-(Q7.mp hz').2,<-Vc hi,TQ]]
      rw [Xv,Vl.mpr (λx hx=>by rw [hn x hx];simp),List.find?_cons_of_pos h];rfl
     rw [e] at q;exact q
    simp only [jF];walk_at "d";refine⟨cL.mpr (g.lk p hp),cL.mpr hk,?_⟩;unfold p7 at no yes;by_cases h1:(p.kd==kd)=true
    ·rw [Yt h1];rw [h1,SA] at no yes;refine⟨cu,_,rfl,_,x6,_,_,rfl,?_⟩;rw [F9];by_cases h2:R.us.contains p.nm=false
     ·rw [Yt h2];exact yes (by rw [h2];rfl)
     ·rw [Ys h2];exact⟨no (by rw [Wj] at h2;rw [h2];rfl),_,rfl⟩
    ·rw [Ys h1];exact⟨no (by rw [Tp] at h1;rw [h1];rfl),_,rfl⟩
  ·rintro δ ⟨hn,o2,rfl⟩;rw [QW,Rz (QY _)] at hn;walk_at "d";have e:oK R kd=none:=by
    unfold oK;rw [Vl.mpr (λx hx=>by rw [hn x hx];simp)];rfl
   rw [e] at q;exact q
end
local macro_rules | `(tactic| walk_at "h") =>rzT (rzS++" Sl.i.injEq exists_and_left pC")
theorem Au:bb (av pE) ["self","paper","line","to_stay","to_go","asking","leave","bars"] ["rule","by"] 2 [] ⟨Q3,[ (QX ".0",aab),(QX "rule",aab),(QX "by",aab)],false,false,[]⟩:=⟨rfl,Yp,Yp,Yp,rfl,Yp,Yp,Yp,rfl⟩
theorem Ga:bb (av pE) ["self","paper","line","to_stay","to_go","asking","leave","bars"] ["hold"] 1 [] ⟨Q3,[(QX ".0",aab),(QX "hold",aab)],false,false,[]⟩:=⟨rfl,Yp,Yp,Yp,rfl,Yp,Yp,Yp,rfl⟩
theorem Gb:bb (av pE) ["self","paper","line","to_stay","to_go","asking","leave","bars"] ["rule"] 1 [] ⟨Q3,[(QX ".0",aab),(QX "rule",aab)],false,false,[]⟩:=⟨rfl,Yp,Yp,Yp,rfl,Yp,Yp,Yp,rfl⟩
section
variable {P:YI} {w:YJ} {K:QV} {mg:Str->Option Yx} {base:YK} {t:cg}
def uG(z:Str×Yw):Yw:= .tuple [.str (QU "stays"),.str z.1,z.2]
def uH(h:Str):Yw:= .tuple [.str (QU "held"),.str h]
def uI(a:Str):Yw:= .tuple [.str (QU "lacks"),.str a]
def lO(R:Rn)(kd:Str):Option Str:=if (iu kd R.L).length=0 then none else oK R kd
def eX(R:Rn)(r:Rp)(line:List Pp):Lk where
 d:=R.n
 nm:=r.c.nm
 st:=iq r R.n R.gn R.L
 go:=lJ r R.n R.gn R.L
 bars:=(iq r R.n R.gn R.L).map uG++(gX R.hs line).map uH++(if lO R r.c.kd=none then(iu r.c.kd R.L).map uI else [])
 lv:=lO R r.c.kd
theorem Gd{kd:Str}{L:List (Str×Pt)}(h:iY L):(iu kd L).length<=41:=by
 unfold iu;rw [QW];exact Rx (RJ _ _) h.1
theorem Ge{hs:List Hd}{line:List Pp}(h:ri hs):(gX hs line).length<=41:=by
 unfold gX;rw [QW];exact Rx (RJ _ _) h.1
theorem Av{r:Rp}{n:Int}{g:Gn}{L:List (Str×Pt)}(h:iY L):(iq r n g L).length<=41:=
 Rx (uz (λz=>Ag _) _) (uA h).1
theorem Pw{r:Rp}{n:Int}{g:Gn}{L:List (Str×Pt)}(h:iY L):(lJ r n g L).length<=41:=
 Rx (uz (λz=>Ag _) _) (uA h).1
theorem Gf{R:Rn}{r:Rp}{line:List Pp}(g:oJ R):lN (eX R r line):=by
 refine⟨Av g.rl,Pw g.rl,?_⟩;show(VU (_++_++_))<=200;have h1:=Av (r:=r) (n:=R.n) (g:=R.gn) g.rl;have h2:=Ge (line:=line) g.hd;have h3:=Gd (kd:=r.c.kd) g.rl;rw [Ra,Ra,QW,QW];split
 ·rw [QW];omega
 ·simp only [RR];omega
theorem Gg{a b c d e:Yw}:bh [QU "name",QU "coming",QU "kind",QU "makers",QU "happenings"] [a,b,c,d,e] (QU "name")=some a:=by simp [bh]
theorem Px:QU "unused" ∉ cu:=Yp
def Py(CR CP CL:Yz):List Yw->(Yw->Prop)->Prop:=λds Q=>∃(R:Rn)(r:Rp)(line:List Pp),ds=[R.enc CR,r.enc CP,.list (line.map Pp.enc)]/\oJ R/\gU r/\uE line/\Q ((eX R r line).enc CL)
theorem Pz(T:Txt K mg t):aA P w K mg base CX0 8 t.a_m t.d_m ["self","paper","line"] (aU K (Py t.u_Round t.u_Paper t.u_Look)):=by
 have G_a:=@N0 P w _ _ base _ T;have G_b:=@N1 P w _ _ base _ T;have G_c:=@N6 P w _ _ base _ T;have G_l:=@Pu P w _ _ base _ T;have G_U:=@Om P w _ _ base _ T;have G_g:=@Pf P w _ _ base _ T;refine T.F_m.F.okD pL (λds Q h=>?_) (λ_ _ _ _ H O ds Q E hr h=>?_)
 ·obtain⟨R,r,line,rfl,_⟩:=h;rfl
 ·obtain⟨R,r,line,rfl,g,hr',lo,q⟩:=h;refine'⟨_,?A,?B⟩
  case A=>
   refine' ao ?C ?D
   case C=>
    refine' bg (i:=3) pL.nd rfl Yu ?E (hs:=qK)
    case E=>exact(PE.imp (aE G_a (hr.mono Yq) rfl T.F_a (aa (dv 1) (aa (cb (C:=t.u_Round) T.cl_Round T.na_Round_rules (dv 0)) (aa (cb (C:=t.u_Round) T.cl_Round T.na_Round_day (dv 0)) (aa (cb (C:=t.u_Round) T.cl_Round T.na_Round_gone (dv 0)) aj))))) aN)
   case' D=>refine' ao ?F ?G
   case F=>
    refine' bg (i:=4) pL.nd rfl Yu ?H (hs:=qK)
    case H=>exact(PE.imp (aE G_b (hr.mono Yq) rfl T.F_b (aa (dv 1) (aa (cb (C:=t.u_Round) T.cl_Round T.na_Round_rules (dv 0)) (aa (cb (C:=t.u_Round) T.cl_Round T.na_Round_day (dv 0)) (aa (cb (C:=t.u_Round) T.cl_Round T.na_Round_gone (dv 0)) aj))))) aN)
   case' G=>refine' ao ?I ?J
   case I=>exact(bg (i:=5) pL.nd rfl Yu (PE.imp (aE G_c (hr.mono Yq) rfl T.F_c (aa (cb (C:=t.u_Paper) T.cl_Paper T.na_Paper_kind (dv 1)) (aa (cb (C:=t.u_Round) T.cl_Round T.na_Round_rules (dv 0)) aj))) aN))
   case' J=>refine' ao ?K ?L
   case K=>
    refine' bg (i:=6) pL.nd rfl Yu ?M (hs:=KH)
    case M=>exact(qC (tq (dv 5)) (PE.imp (Bu (dv 0) T.cl_Round T.mt_Round_unused G_l (hr.mono Yq) T.F_l.b .nil fx (aa (cb (C:=t.u_Paper) T.cl_Paper T.na_Paper_kind (dv 1)) aj)) Mo) gE)
   case' L=>refine' ao ?N ?O
   case N=>exact(Dv (i:=7) pL.nd rfl Yu (nc rfl Au (df (dv 3)) (gJ (b0 aL (b0 aL gI))) vY Yq (λ_ _ _ _=>(gB (n:=2) rfl (bY (aK (i:=0) Au.nd rfl Yu) (bY (aK (i:=1) Au.nd rfl Yu) gA)))) (λ_ _ _ _=>dj) (λ_ _ _ _=>(bH (aa aX (aa (dv 0) (aa (dv 1) aj)))))))
   case' O=>refine' ao ?P ?Q
   case P=>exact(sY (i:=7) (pv 7) (j2 rfl Ga (df (PE.imp (aE G_U (hr.mono Yq) rfl T.F_U (aa (cb (C:=t.u_Round) T.cl_Round T.na_Round_holds (dv 0)) (aa (dv 2) aj))) aN)) aL bM Yq (λ_ _ _ _=>(aK (i:=0) Ga.nd rfl Yu)) (λ_ _ _ _=>dj) (λ_ _ _ _=>(bH (aa aX (aa (dv 0) aj))))))
   case' Q=>refine' ao ?R ?S
   case R=>
    refine' bJ ?T ?U bI
    case T=>exact(aQ qr qN (df (dv 6)) (df gE) (aF _))
    case' U=>refine' aw ?V
    case V=>exact(sY (i:=7) (pv 7) (eF rfl Gb (df (dv 5)) aL bM Yq (λ_ _ _ _=>(aK (i:=0) Gb.nd rfl Yu)) (λ_ _ _ _=>dj) (λ_ _ _ _=>(bH (aa aX (aa (dv 0) aj))))))
   case' S=>refine' aw ?W
   case' W=>refine' JM 7 ?X
   case' X=>refine' aR ?Y
   case Y=>exact(PE.imp (rX T.mk_Look G_g (hr.mono Yq) rfl T.c_Look T.F_g.b .nil fx (aa (cb (C:=t.u_Round) T.cl_Round T.na_Round_day (dv 0)) (aa (cb (C:=t.u_Paper) T.cl_Paper T.na_Paper_name (dv 1)) (aa (dv 3) (aa (dv 4) (aa (dv 7) (aa (dv 6) aj))))))) vZ)
  case B=>
  clear hr T G_a G_b G_c G_l G_U G_g;obtain⟨x1,x2,x3,x4,x5,x6⟩:=F8 (a:= .int R.n) (b:= .tuple (R.L.map cI)) (c:= .tuple (R.hs.map Hd.enc)) (d:= .list (R.lvs.map jF)) (e:=R.gn.enc) (f:=gb R.us (R.us.map λ_=>.bool true));have l1:=Av (r:=r) (n:=R.n) (g:=R.gn) g.rl;have l2:=Ge (line:=line) g.hd;have l3:=Gd (kd:=r.c.kd) g.rl;generalize hB:fg (iF 7 _) _=TB;have key:∀o,o=lO R r.c.kd->TB {nx:=λx=>Q UW,rt:=Q} [some (Sl.v (R.enc t.u_Round)),some (Sl.v (r.enc t.u_Paper)),some (Sl.v (.list (line.map Pp.enc))),some (Sl.v (.tuple ((iq r R.n R.gn R.L).map ck))),some (Sl.v (.tuple ((lJ r R.n R.gn R.L).map ck))),some (Sl.v (.list ((iu r.c.kd R.L).map .str))),some (Sl.v (iZ o)),none]:=λo ho=>by
   subst hB;generalize hF:jk 7 _=TF;walk_at "h";refine⟨by rw [QW];omega,iU (λ_=>true) uG (λz hz R' S h1 _=>?_) ?_⟩
   ·simp only [ck];walk_at "h";exact h1 rfl
   ·rw [fK];refine⟨cu,_,rfl,_,x3,R.hs,line,rfl,g.hd,lo,_,rfl,by rw [QW];omega,iU (λ_=>true) uH (λz hz R' S h1 _=>?_) ?_⟩
    ·walk_at "h";exact h1 rfl
    ·rw [fK];have fin:∀bars,bars=(eX R r line).bars->TF {nx:=λx=>Q UW,rt:=Q} [some (Sl.v (R.enc t.u_Round)),some (Sl.v (r.enc t.u_Paper)),some (Sl.v (.list (line.map Pp.enc))),some (Sl.v (.tuple ((iq r R.n R.gn R.L).map ck))),some (Sl.v (.tuple ((lJ r R.n R.gn R.L).map ck))),some (Sl.v (.list ((iu r.c.kd R.L).map .str))),some (Sl.v (iZ o)),some (Sl.o bars)]:=λbars hb=>by
      subst hF;walk_at "h";refine⟨cu,_,rfl,_,x1,[QU "name",QU "coming",QU "kind",QU "makers",QU "happenings"],_,rfl,_,Gg,_,_,_,_,_,_,rfl,?_⟩;rw [hb,ho];exact q
     refine⟨by rw [QW,QW];omega,?_⟩;have eb:(eX R r line).bars=(iq r R.n R.gn R.L).map uG++(gX R.hs line).map uH++(if lO R r.c.kd=none then(iu r.c.kd R.L).map uI else []):=rfl;rw [<-ho] at eb;cases o with
     | none=>
      rw [Yt (by rfl)];refine⟨by rw [QW];omega,iU (λ_=>true) uI (λz hz R' S h1 _=>?_) ?_⟩
      ·walk_at "h";exact h1 rfl
      ·rw [fK];refine⟨by rw [Ra,QW,QW,QW];omega,fin _ ?_⟩;rw [eb,Yt rfl]
     | some v=>
      rw [Ys (by simp [eO,iZ])];refine fin _ ?_;rw [eb,Ys Yv,RN]
  walk_at "h";refine⟨cu,_,rfl,_,x2,cu,_,rfl,_,x1,cu,_,rfl,_,x5,r,R.L,R.n,R.gn,rfl,hr',g.rl,?_⟩;refine⟨cu,_,rfl,_,x2,cu,_,rfl,_,x1,cu,_,rfl,_,x5,r,R.L,R.n,R.gn,rfl,hr',g.rl,?_⟩;refine⟨[QU "name",QU "coming",QU "kind",QU "makers",QU "happenings"],_,rfl,_,uu,cu,_,rfl,_,x2,r.c.kd,R.L,rfl,hr'.2.1,g.rl,?_⟩;have key2:∀o,o=lO R r.c.kd->TB {nx:=λx=>Q UW,rt:=Q} [some (Sl.v (R.enc t.u_Round)),some (Sl.v (r.enc t.u_Paper)),some (Sl.v (.list (line.map Pp.enc))),some (Sl.v (.tuple ((iq r R.n R.gn R.L).map ck))),some (Sl.v (.tuple ((lJ r R.n R.gn R.L).map ck))),some (Sl.v (.list ((iu r.c.kd R.L).map .str))),some (Sl.v (iZ o)),none]:=key;clear key;refine⟨_,rfl,?_⟩;unfold lO at key2;by_cases h0:(iu r.c.kd R.L).length=0
  ·rw [Ys (by rw [WG] at h0;rw [h0];simp)];exact key2 none (by rw [Yt h0])
  ·rw [Yt (by rw [List.isEmpty_eq_false_iff];intro z;exact h0 (by rw [<-QW (f:=QZ),z];rfl))];exact⟨cu,⟨_,rfl⟩,Px,[QU "name",QU "coming",QU "kind",QU "makers",QU "happenings"],_,rfl,_,uu,R,r.c.kd,rfl,g,hr'.2.1,key2 _ (by rw [Ys h0])⟩
end
local macro_rules | `(tactic| walk_at "h") =>rzT (rzS++" Sl.i.injEq Sl.r.injEq Sl.b.injEq exists_and_left pC wG wD wJ tG")
theorem Gh:bb (av t6) ["self","deeds","day","done","leaves","row"] ["deed","day"] 1 [2] ⟨Q3,[ (QX ".0",aab),(QX "deed",aab),(QX "day",Rb)],false,false,[]⟩:=⟨rfl,Yp,Yp,Yp,rfl,Yp,Yp,Yp,rfl⟩
section
variable {P:YI} {w:YJ} {K:QV} {mg:Str->Option Yx} {base:YK} {t:cg}
theorem Gi(T:Txt K mg t):aA P w K mg base CX0 1 t.a_k t.d_k ["self","row"] (wC K t.u_Round):=by
 refine T.F_k.F.ok MY (λvs H Q E h=>?_) (λcdv A outer s H vs Q E hr h=>?_)
 ·obtain⟨l,dx,fs,g,u,gv,uv,a,x,y,z,rfl,_⟩:=h;rfl
 ·obtain⟨l,dx,fs,g,u,gv,uv,a,x,y,z,rfl,hl,lg,lu,ne,hg,hu,sq,n1,n2,q⟩:=h;have un:=hr.units;refine⟨_,cO (vG (Vp (W6 (by decide:1<=64) _) hr.units) (rV (pv 0) rfl) (jL aG (pv 1) bL (λ_ _=>rfl)) (jL aG (pv 1) bL (λ_ _=>rfl)) rfl) (eY (oT (rJ (Ht (jL aG (pv 1) bL (λ_ _=>rfl)))) (eY (vG (Vp (W6 (by decide:1<=64) _) hr.units) (rV (pv 0) rfl) (jL aG (pv 1) bL (λ_ _=>rfl)) AJ rfl)) oR)),?_⟩;have gl:l≠g:=λe=>by rw [e,hg] at hl;cases hl
  have tk:∀{H':Hp},(∀b o,H b=some o->b≠g->H' b=some o)->aZ K H' a [.str x,y,z]:=λ{H'} k=>by
   rcases sq with(h | ⟨ob,h⟩) | h
   ·exact .inl (.inl (k _ _ h (λe=>by rw [e,hg] at h;cases h)))
   ·exact .inl (.inr ⟨ob,k _ _ h (λe=>by rw [e,hg] at h;cases h)⟩)
   ·exact .inr h
  simp only [uP,Ca];walk_at "a";refine je sq eM ⟨_,rfl,l,_,dx,fs,_,rfl,hl,T.cl_Round,T.na_Round_gone,lg,je sq dH ⟨g,rfl,_,oe.k (k:= .inr x) hg n1,?_⟩⟩;have sq2:aZ K (ah H g (.dK (putK gv (.inr x) y))) a [.str x,y,z]:=tk λb o e n=>by rw [az n];exact e
  simp only [AK];walk_at "a";refine je sq2 ib ?_;rcases q with⟨rfl,q⟩ | ⟨s,rfl,q⟩
  ·exact q
  ·rw [Yt (λz=>nomatch z)];refine⟨_,rfl,l,_,dx,fs,_,rfl,by rw [az gl];exact hl,T.cl_Round,T.na_Round_used,lu,?_⟩;walk_at "a";refine je sq2 ib ⟨_,oe.k (k:= .inr s) (by rw [az (Ne.symm ne)];exact hu) n2,q⟩
def nL(go:List (Str×Int))(k:Str)(d:Int):List (Str×Int):=if (go.any λp=>decide (p.1=k))=true then go.map (λp=>if p.1=k then(p.1,d) else p) else go++[(k,d)]
def oM(us:List Str)(s:Str):List Str:=if us.contains s=true then us else us++[s]
theorem Gj(go:List (Str×Int))(k:Str):((fo go).any λp=>decide (p.1=Sx k))=go.any λp=>decide (p.1=k):=by
 unfold fo;rw [VL];congr 1;funext p;simp only [T3,decide_eq_decide];exact jr
theorem Gk(go:List (Str×Int))(k:Str)(d:Int):fW (fo go) (.inr k) (.int d)=fo (nL go k d):=by
 unfold fW nL;rw [Gj];split
 ·unfold fo;rw [Rm,Rm];apply Tc;intro p _;simp only [T3];by_cases h:p.1=k
  ·rw [Yt (by rw [h]),Yt h]
  ·rw [Ys (λe=>h (jr.mp e)),Ys h]
 ·unfold fo;rw [Rq];rfl
theorem PB(us:List Str)(k:Str):((fM us).any λp=>decide (p.1=Sx k))=us.contains k:=by
 unfold fM;rw [VL]
 induction us with
 | nil=>rfl
 | cons u us ih=>
  rw [Se,VY,ih];congr 1;simp only [T3];by_cases h:u=k
  ·rw [h];simp
  ·rw [decide_eq_false (λe=>h (jr.mp e)),cf (λe=>h e.symm)]
theorem Gm(us:List Str)(k:Str):fW (fM us) (.inr k) (.bool true)=fM (oM us k):=by
 unfold fW oM;rw [PB];split
 ·unfold fM;rw [Rm];apply Tc;intro p _;simp only [T3];split <;> rfl
 ·unfold fM;rw [Rq];rfl
def cv(m:List (Str×Int)×List Str)(r:Ro):List (Str×Int)×List Str:=(nL m.1 r.nm r.d,match r.lv with
 | none=>m.2
 | some s=>oM m.2 s)
theorem Gq(go:List (Str×Int))(k:Str)(d:Int):(nL go k d).length<=go.length+1:=by
 unfold nL;split <;> simp
theorem Gr(us:List Str)(k:Str):(oM us k).length<=us.length+1:=by
 unfold oM;split <;> simp
theorem Aw:∀(rs:List Ro)(m:List (Str×Int)×List Str),(rs.foldl cv m).1.length<=m.1.length+rs.length/\(rs.foldl cv m).2.length<=m.2.length+rs.length
 | [],m=>⟨QY _,QY _⟩
 | r::rs,m=>by
  obtain⟨h1,h2⟩:=Aw rs (cv m r);have a:(cv m r).1.length<=m.1.length+1:=Gq _ _ _;have b:(cv m r).2.length<=m.2.length+1:=by
   unfold cv;cases r.lv with
   | none=>exact Sr _
   | some s=>exact Gr _ _
  rw [RX,Q8];exact⟨Yr,Yr⟩
def De.lv:De->Option Pp
 | .oth w d nm [.str kd]=>if (w==QU "leave")=true then some ⟨d,nm,kd,[]⟩ else none
 | _=>none
def p8(n:Int)(x:De):Bool:=x.w==QU "leave" && decide (x.d<=n)
def rC(xs:List De)(n:Int):List Pp:=bu ((xs.filterMap De.lv).filter λp=>decide (p.d<=n))
theorem Gs{n:Int}:∀{xs:List De},(∀d nm r,De.oth (QU "leave") d nm r∈xs->∃kd,r=[.str kd]/\Q2 kd=true)->(xs.filter (p8 n)).map De.enc=((xs.filterMap De.lv).filter λp=>decide (p.d<=n)).map jF
 | [],_=>rfl
 | x::xs,h=>by
  have ih:=Gs (n:=n) (xs:=xs) λd nm r z=>h d nm r (Ru _ z);by_cases hw:x.w=QU "leave"
  ·cases x with
   | pap p=>exact absurd hw (by show QU "paper"≠_;decide+kernel)
   | oth w d nm r=>
    have hw:w=QU "leave":=hw;subst hw;obtain⟨kd,rfl,_⟩:=h d nm r RK;have e1:De.lv (.oth (QU "leave") d nm [.str kd])=some ⟨d,nm,kd,[]⟩:=by simp [De.lv]
    have e2:p8 n (.oth (QU "leave") d nm [.str kd])=decide (d<=n):=by
     show((QU "leave"==QU "leave") && decide (d<=n))=_;rw [beq_self_eq_true,SA]
    rw [SD,e1,RQ,RQ,e2];by_cases hd:d<=n
    ·rw [Yt (by simpa using hd),Yt (by simpa using hd),Q0,Q0,ih];rfl
    ·rw [Ys (by simpa using hd),Ys (by simpa using hd),ih]
  ·have e1:De.lv x=none:=by
    cases x with
    | pap p=>rfl
    | oth w d nm r=>
     unfold De.lv;split
     ·rename_i e;cases e;rw [cf (show w≠QU "leave" from hw),Ys Q5]
     ·rfl
   have e2:p8 n x=false:=by unfold p8;rw [cf hw,U1]
   rw [SD,e1,RQ,e2,Ys Q5,ih]
theorem PD{ps:List Pp}{ds:List Yw}(nd:(ps.map (·.nm)).Nodup)(hp:ds.Perm (ps.map jF))(hs:ds.Pairwise λa b=>aY (gQ a) (gQ b)=true):ds=(bu ps).map jF:=by
 refine nJ (r:=λa b=>aY (gQ a) (gQ b)=true) (λa b z=>uo z) (hp.trans ((iQ ps).map jF).symm) hs ?_;rw [Sm];exact pQ nd
theorem uJ{xs:List De}{p:Pp}(h:p∈xs.filterMap De.lv):∃x∈xs,x= .oth (QU "leave") p.d p.nm [.str p.kd]:=by
 obtain⟨x,hx,e⟩:=UN.mp h;cases x with
 | pap q=>cases e
 | oth w d nm r=>
  unfold De.lv at e;split at e
  ·rename_i e2;cases e2;split at e
   ·rename_i hw;cases e;exact⟨_,hx,by rw [eq_of_beq hw]⟩
   ·cases e
  ·cases e
theorem Ax:∀{xs:List De},xs.Nodup->(∀x∈xs,∀y∈xs,x.w=QU "leave"->y.w=QU "leave"->x.nm=y.nm->x=y)->((xs.filterMap De.lv).map (·.nm)).Nodup
 | [],_,_=>by simp
 | x::xs,nd,h=>by
  rw [Sz] at nd;have ih:=Ax nd.2 λa ha b hb=>h a (Ru _ ha) b (Ru _ hb);rw [SD];cases e:De.lv x with
  | none=>exact ih
  | some p=>
   show(RZ (·.nm) (p::xs.filterMap De.lv)).Nodup;rw [Q0,Sz];refine⟨λhm=>?_,ih⟩;obtain⟨p',hp',en⟩:=Rf.mp hm;obtain⟨y,hy,ey⟩:=uJ hp';obtain⟨x',hx',ex⟩:=uJ (xs:=[x]) (p:=p) (by rw [SD,e];simp);rw [Rk] at hx';subst hx';have:=h x' RK y (Ru _ hy) (by rw [ex];rfl) (by rw [ey];rfl) (by rw [ex,ey];exact en.symm);rw [this] at nd;exact nd.1 hy
def cJ(xs:List De)(n:Int)(rows:List Ro):Rn:=⟨n,ik xs n,p5 xs n,rC xs n,(rows.foldl cv ([],[])).1,(rows.foldl cv ([],[])).2⟩
def PF:List Yw->List Yw->(List (Str×Yw)->List (aq×Yw)->List (aq×Yw)->Prop)->Prop:=λds es Q=>∃(xs:List De)(n:Int)(rows:List Ro),ds=[.tuple (xs.map De.enc),.int n]/\es=rows.map Ro.enc/\bO xs/\rows.length<=100000/\(oJ (cJ xs n rows)->Q (cJ xs n rows).fd (fo (cJ xs n rows).go) (fM (cJ xs n rows).us))
theorem Ay(R:Rn):gh (QU "mark") (R.fd.map (·.1))=true:=by
 show gh (QU "mark") [QU "day",QU "rules",QU "holds",QU "leaves"]=true;decide+kernel
theorem PH(T:Txt K mg t):aA P w K mg base CX0 5 t.a_j t.d_j ["self","deeds","day","done"] (tF K t.u_Round PF):=by
 have G_R:=@NR P w _ _ base _ T;have G_S:=@Oj P w _ _ base _ T;have G_J:=@y9 P w _ _ base _ T;have G_k:=@Gi P w _ _ base _ T;refine T.F_j.F.okRn xQ (λds es Q h=>?_) (λcdv A outer s H H1 O ds es Q E l hr h0 hX h=>?_)
 ·obtain⟨xs,n,rows,rfl,_⟩:=h;rfl
 ·obtain⟨xs,n,rows,rfl,rfl,g,rl,q⟩:=h;refine'⟨_,?A,?B⟩
  case A=>
   refine' ao ?C ?D
   case C=>exact(fI (C:=t.u_Round) (i:=0) T.cl_Round T.na_Round_day (pv 0) (dv 2))
   case' D=>refine' ao ?E ?F
   case E=>exact(fI (C:=t.u_Round) (i:=0) T.cl_Round T.na_Round_rules (pv 0) (PE.imp (aE G_R (hr.mono Yq) rfl T.F_R (aa (dv 1) (aa (dv 2) aj))) aN))
   case' F=>refine' ao ?G ?H
   case G=>exact(fI (C:=t.u_Round) (i:=0) T.cl_Round T.na_Round_holds (pv 0) (PE.imp (aE G_S (hr.mono Yq) rfl T.F_S (aa (dv 1) (aa (dv 2) aj))) aN))
   case' H=>refine' ao ?I ?J
   case I=>exact(ic (i:=4) xQ.nd rfl Yu (nc rfl Gh (df (dv 1)) aL bM Yq (λ_ _ _ _=>(aK (i:=0) Gh.nd rfl Yu)) (λ_ _ _ _=>(cZ (PW.pt (fC (aQ (cz hr) cA (df (ak aG aM (df (dv 0)) (df af))) (df aX) (aF _)) (fB (aQ lR di (df (ak aG aM (df (dv 0)) (df af))) (df (dv 1)) (aF _))))))) (λ_ _ _ _=>(dv 0))))
   case' J=>refine' ao ?K ?L
   case K=>exact(fI (C:=t.u_Round) (i:=0) T.cl_Round T.na_Round_leaves (pv 0) (fe (C4 gQ rfl G_J (bp.in1 (bp.in1 (hr.mono Yq))) T.F_J.b rfl T.F_J.m rfl T.n_sorted Tn (bj (df (dv 4)) br))))
   case' L=>refine' Mw (C:=t.u_Round) (i:=0) T.cl_Round T.na_Round_gone T.na_Round_used (pv 0) (pv 0) ?M
   case' M=>refine' aw ?N
   case' N=>refine' Mx (j:=3) h0 RU rfl (pv 3) ?O aL ?P
   case O=>exact(aK (i:=5) xQ.nd rfl Yu)
   case' P=>refine' aw ?Q
   case Q=>exact(DQ (C:=t.u_Round) (i:=0) hX (pv 0) T.cl_Round T.mt_Round_mark G_k (hr.mono Yq) T.F_k.b fx (dv 5))
  case B=>
  clear hr T G_R G_S G_J G_k h0 hX;simp only [wI,nv,Q0,RW,Sd,R7,VS,Q8,RR,SM,SN,Ri];have f1:∀a,dB (QU "day") a []=[(QU "day",a)]:=λa=>rfl;have f2:∀a b,dB (QU "rules") b [(QU "day",a)]=[(QU "day",a),(QU "rules",b)]:=λa b=>jE (ks:=[QU "day"]) rfl Yp;have f3:∀a b c,dB (QU "holds") c [(QU "day",a),(QU "rules",b)]=[(QU "day",a),(QU "rules",b),(QU "holds",c)]:=λa b c=>jE (ks:=[QU "day",QU "rules"]) rfl Yp;have f4:∀a b c d,dB (QU "leaves") d [(QU "day",a),(QU "rules",b),(QU "holds",c)]=[(QU "day",a),(QU "rules",b),(QU "holds",c),(QU "leaves",d)]:=λa b c d=>jE (ks:=[QU "day",QU "rules",QU "holds"]) rfl Yp;have lt:∀n:Nat,n < 10->n < 1000:=λn h=>by omega
  have lt9:∀n:Nat,n < 10->n < 900:=λn h=>by omega
  have xl:=g.gd.gx.ln;generalize hB:tG _ _ _=TB;walk_at "h";simp only [f1,f2,f3,f4];refine⟨xs,n,rfl,g.gd,λh1 h2=>⟨lt 1 Yq,xs,n,rfl,g,λh3=>⟨lt 2 Yq,by rw [QW];omega,cX (p8 n) De.enc (λx hx R S h=>?_) ?_⟩⟩⟩
  ·have h:if (x.w==QU "leave")=true then(if x.d<=n then R x.enc else S) else S:=by
    unfold p8 at h;by_cases e1:(x.w==QU "leave")=true
    ·rw [Yt e1];rw [e1,SA] at h;by_cases e2:x.d<=n
     ·rw [Yt e2];rw [Yt (by simpa using e2)] at h;exact h
     ·rw [Ys e2];rw [Ys (by simpa using e2)] at h;exact h
    ·rw [Ys e1];rw [Tp] at e1;rw [e1,U1,Ys Q5] at h;exact h
   cases x <;> simp only [De.enc,De.w,De.d,Pp.enc] at h⊢<;> walk_at "h" <;> exact h
  ·rw [Gs g.le];have nd:(((xs.filterMap De.lv).filter λp=>decide (p.d<=n)).map (·.nm)).Nodup:=(Ax g.gd.nd g.lv).sublist (U9.map _);have ll:((xs.filterMap De.lv).filter λp=>decide (p.d<=n)).length<=41:=by
    have a:=RJ (λp:Pp=>decide (p.d<=n)) (xs.filterMap De.lv);have b:=Vq De.lv xs;omega
   refine⟨λd hd R z=>?_,by rw [QW];omega,?_,λds' h5 h6=>⟨lt 3 Yq,?_,lt9 4 Yq,λga ua=>?_⟩⟩
   ·obtain⟨p,hp,rfl⟩:=Rf.mp hd;exact⟨.oth (QU "leave") p.d p.nm [.str p.kd],rfl,z⟩
   ·rw [Rm];exact EI nd
   ·show gh (QU "mark") [QU "day",QU "rules",QU "holds",QU "leaves"]=true;decide+kernel
   ·rw [PD nd h5 h6];have g5:oJ (cJ xs n rows):=by
     refine⟨N7 g.gd h1 h2,h3,?_,λp hp=>?_⟩
     ·show(bu _).length<=41;rw [iS];exact ll
     ·have hp:=(RP.mp (iR.mp hp)).1;obtain⟨x,hx,e⟩:=uJ hp;obtain⟨kd,e2,h⟩:=g.le p.d p.nm [.str p.kd] (by rw [<-e];exact hx);simp only [RO,Sj,and_true] at e2;rw [e2];exact h
    have q:=q g5;subst hB;walk_at "h";refine⟨λi δ=>∃o5,δ=[some (Sl.r l t.u_Round ga ua (cJ xs n rows).fd (fo ((rows.take i).foldl cv ([],[])).1) (fM ((rows.take i).foldl cv ([],[])).2)),some (Sl.v (RB (RZ De.enc xs))),some (Sl.v (Rv n)),some (Sl.b (RZ Ro.enc rows)),some (Sl.v (SI (((xs.filterMap De.lv).filter λp=>decide (p.d<=n)).map jF))),o5],⟨none,rfl⟩,?_,?_⟩
    ·rintro i z δ hz ⟨o5,rfl⟩;rw [Q9] at hz;cases hz':rows[i]? with
     | none=>rw [hz'] at hz;cases hz
     | some r=>
      rw [hz'] at hz;cases hz;have ts:(rows.take (i+1)).foldl cv ([],[])=cv ((rows.take i).foldl cv ([],[])) r:=by
       rw [RT,hz',Uu];rfl
      obtain⟨m1,m2⟩:=Aw (rows.take i) ([],[]);rw [RI] at m1 m2;simp only [RR] at m1 m2;simp only [ts,Ro.enc];walk_at "h";generalize hM:(rows.take i).foldl cv ([],[])=M at m1 m2;refine⟨rfl,Ay _,by unfold fo;rw [QW];omega,by unfold fM;rw [QW];omega,?_⟩;have e1:(cv M r).1=nL M.1 r.nm r.d:=rfl;rw [e1,Gk];cases hv:r.lv with
      | none=>
       have e2:(cv M r).2=M.2:=by unfold cv;rw [hv]
       rw [e2];exact .inl ⟨rfl,rfl,rfl,_,rfl⟩
      | some v=>
       have e2:(cv M r).2=oM M.2 v:=by unfold cv;rw [hv]
       rw [e2];exact .inr ⟨v,rfl,rfl,Gm _ _,_,rfl⟩
    ·rintro δ ⟨o5,rfl⟩;rw [QW,Rz (QY _)];exact⟨_,_,_,_,_,rfl,q⟩
end
local macro_rules | `(tactic| walk_at "h") =>rzT (rzS++" Sl.i.injEq Sl.r.injEq Sl.b.injEq exists_and_left pC wG wD wJ tG DU wH DV")
theorem Gu:bb (av t7) ["deeds"] ["name","deeds"] 1 [0] ⟨Q3,[ (QX ".0",aab),(QX "name",aab),(QX "Paper",RC),(QX "line_of",RC),(QX "deeds",Rb)],false,false,[]⟩:=⟨rfl,Yp,Yp,Yp,rfl,Yp,Yp,Yp,rfl⟩
section
variable {P:YI} {w:YJ} {K:QV} {mg:Str->Option Yx} {base:YK} {t:cg}
theorem PJ(T:Txt K mg t):t.u_Look≠t.u_Round:=λe=>by
 have h1:=T.mk_Look.init;have h2:=T.mk_Round.init;rw [e,h2] at h1;have h3:t.a_j=t.a_g:=by injection h1 with h1;injection h1 with h1;injection h1
 obtain⟨_,_,_,_,_,_,_,_,_,e1,k1,_⟩:=T.F_g.F.ex;obtain⟨_,_,_,_,_,_,_,_,_,e2,k2,_⟩:=T.F_j.F.ex;rw [<-h3,k2] at k1;simp only [Sn,Obj.mk.injEq,Data.func.injEq] at k1;have h4:t.d_j=t.d_g:=k1.2.2.1;rw [e1,e2] at h4;have h5:("Round.__init__":Str)="Look.__init__":=congrArg FuncData.qualname h4;exact absurd h5 Yp
abbrev Sf:=Rp×List Pp
def Sf.enc(C:Yz)(s:Sf):Yw:= .tuple [s.1.enc C,.list (s.2.map Pp.enc)]
def dM(xs:List De):List Sf:=(bu (aC xs)).map λc=>(eU xs c,jD (aC xs) c)
def Gv(s:Sf):Prop:=gU s.1/\uE s.2
def PK(C:Yz):List Yw->(Yw->Prop)->Prop:=λds Q=>∃xs:List De,ds=[.tuple (xs.map De.enc)]/\ij xs/\((∀s∈dM xs,Gv s)->Q (.list ((dM xs).map (Sf.enc C))))
theorem PL(T:Txt K mg t):aA P w K mg base CX0 9 t.a_n t.d_n ["deeds"] (aU K (PK t.u_Paper)):=by
 have G_I:=@EL P w _ _ base _ T;have G_M:=@z5 P w _ _ base _ T;have G_P:=@Pd P w _ _ base _ T;refine T.F_n.F.okD MZ (λds Q h=>?_) (λ_ _ _ _ H O ds Q E hr h=>?_)
 ·obtain⟨xs,rfl,_⟩:=h;rfl
 ·obtain⟨xs,rfl,gd,q⟩:=h;refine'⟨_,?A,?B⟩
  case A=>
   refine' aw ?C
   case' C=>refine' aR ?D
   case' D=>refine' fe ?E
   case E=>exact(j2 rfl Gu (df (PE.imp (aE G_M (hr.mono Yq) rfl T.F_M (aa (dv 0) aj)) aN)) aL bM Yq (λ_ _ _ _=>(aK (i:=0) Gu.nd rfl Yu)) (λ_ _ _ _=>dj) (λ_ _ _ _=>(bH (aa (PE.imp (rX T.mk_Paper G_I (hr.mono Yq) rfl T.c_Paper T.F_I.b .nil fx (aa (dv 1) (aa (dv 0) aj))) vZ) (aa (PE.imp (aE G_P (hr.mono Yq) rfl T.F_P (aa (dv 1) (aa (dv 0) aj))) aN) aj)))))
  case B=>
  clear hr T G_I G_M G_P;walk_at "d";have ln:=gd.gx.ln;have ol:=iS (ps:=aC xs);have pl:=gd.gx.gp.ln;refine⟨xs,rfl,gd.gx,_,rfl,by rw [QW,QW];omega,?_⟩;refine⟨λi acc=>acc=((bu (aC xs)).take i).map (λc=>Sf.enc t.u_Paper (eU xs c,jD (aC xs) c))/\∀c∈(bu (aC xs)).take i,gU (eU xs c),⟨rfl,Yv⟩,?_,?_⟩
  ·rintro i z acc hz ⟨rfl,hh⟩;rw [Q9,Q9] at hz;cases hz':(bu (aC xs))[i]? with
   | none=>rw [hz'] at hz;cases hz
   | some c=>
    rw [hz'] at hz;cases hz;walk_at "d";have hc:=iR.mp (RA hz');refine⟨xs,c,rfl,gd,hc,λh1 h2 h3=>⟨xs,c,rfl,gd.gx,hc,?_,λc' hc'=>?_⟩⟩
    ·rw [RT,hz',Rq];rfl
    ·rw [RT,hz'] at hc';rcases Rj.mp hc' with y | y
     ·exact hh c' y
     ·have y:c'=c:=by simpa using y
      rw [y];exact E5 gd hc h1 h3
  ·rintro acc ⟨rfl,hh⟩;simp only [QW,XG] at hh⊢;have e:(bu (aC xs)).map (λc=>Sf.enc t.u_Paper (eU xs c,jD (aC xs) c))=(dM xs).map (Sf.enc t.u_Paper):=by unfold dM;rw [Rm];rfl
   rw [e];refine q λs hs=>?_;obtain⟨c,hc,rfl⟩:=Rf.mp hs;exact⟨hh c hc,Pb gd.gx.gp (iR.mp hc)⟩
abbrev i3:=List (Str×Int)×List Str
def rD(go:List (Str×Int))(z:Str):Bool:=go.any λp=>decide (p.1=z)
def Rn.at(R:Rn)(m:i3):Rn:={R with go:=m.1,us:=m.2}
def dY(R:Rn)(st:i3×List Lk)(s:Sf):i3×List Lk:=
 if (decide (s.1.c.d<=R.n) && !rD st.1.1 s.1.c.nm)=true then((if (eX (R.at st.1) s.1 s.2).lets=true then cv st.1 (eX (R.at st.1) s.1 s.2).row else st.1),st.2++[eX (R.at st.1) s.1 s.2]) else st
def jG(R:Rn)(ss:List Sf):i3×List Lk:=ss.foldl (dY R) ((R.go,R.us),[])
def nM(xs:List De)(n:Int)(rows:List Ro)(ss:List Sf):List Lk:=(jG (cJ xs n rows) ss).2
theorem Az:∀{ds:List Yw},(∀d∈ds,cG d=true)->fJ ds=true
 | [],_=>rfl
 | d::ds,h=>by
  rw [fJ,h d RK,Az λx hx=>h x (Ru _ hx)];rfl
theorem Gw(o:Option Int):cG (bX o)=true:=by cases o <;> rfl
theorem PM(o:Option Str):cG (iZ o)=true:=by cases o <;> rfl
theorem PN{r:Rp}{n:Int}{g:Gn}{pt:Pt}{d:Yw}(h:pW r n g pt=some d):cG d=true:=by
 cases pt with
 | two w kd=>
  simp only [pW] at h;split at h
  ·rw [TC] at h;obtain⟨s,_,rfl⟩:=h;rfl
  ·cases h
 | five w kd s k u=>
  simp only [pW] at h;split at h
  ·cases h;exact Gw _
  ·cases h
theorem PQ{r:Rp}{n:Int}{g:Gn}{pt:Pt}{d:Yw}(h:pX r n g pt=some d):cG d=true:=by
 cases pt with
 | two w kd=>
  simp only [pX] at h;split at h
  ·rw [TC] at h;obtain⟨s,_,rfl⟩:=h;rfl
  ·cases h
 | five w kd s k u=>
  simp only [pX] at h;split at h
  ·cases h;exact Gw _
  ·cases h
theorem Gx{r:Rp}{n:Int}{g:Gn}{L:List (Str×Pt)}{z:Str×Yw}(h:z∈iq r n g L):cG z.2=true:=by
 obtain⟨y,_,hy⟩:=XH.mp h;unfold Ae at hy;rw [Xw,TC] at hy;obtain⟨b,hb,rfl⟩:=hy;exact PN hb
theorem PR{r:Rp}{n:Int}{g:Gn}{L:List (Str×Pt)}{z:Str×Yw}(h:z∈lJ r n g L):cG z.2=true:=by
 obtain⟨y,_,hy⟩:=XH.mp h;unfold Af at hy;rw [Xw,TC] at hy;obtain⟨b,hb,rfl⟩:=hy;exact PQ hb
theorem Gy{l:List (Str×Yw)}(h:∀z∈l,cG z.2=true):fJ (l.map ck)=true:=Az λd hd=>by
 obtain⟨z,hz,rfl⟩:=Rf.mp hd;show(true && (cG z.2 && true))=true;rw [h z hz];rfl
theorem PV{CR CL:Yz}(ne:CL≠CR)(R:Rn)(r:Rp)(line:List Pp):wA CR ((eX R r line).enc CL):=by
 refine .inr ⟨CL,_,_,ne,rfl,?_⟩;have h1:fJ ((iq r R.n R.gn R.L).map ck)=true:=Gy λz hz=>Gx hz;have h2:fJ ((lJ r R.n R.gn R.L).map ck)=true:=Gy λz hz=>PR hz;have h3:fJ (eX R r line).bars=true:=Az λd hd=>by
  have hd:d∈(iq r R.n R.gn R.L).map uG++(gX R.hs line).map uH++(if lO R r.c.kd=none then(iu r.c.kd R.L).map uI else []):=hd;rcases Rj.mp hd with hd | hd
  ·rcases Rj.mp hd with hd | hd
   ·obtain⟨z,hz,rfl⟩:=Rf.mp hd;show(true && (true && (cG z.2 && true)))=true;rw [Gx hz];rfl
   ·obtain⟨z,hz,rfl⟩:=Rf.mp hd;rfl
  ·split at hd
   ·obtain⟨z,hz,rfl⟩:=Rf.mp hd;rfl
   ·cases hd
 show(true && (true && (fJ ((iq r R.n R.gn R.L).map ck) && (fJ ((lJ r R.n R.gn R.L).map ck) && (fJ (eX R r line).bars && (cG (iZ (eX R r line).lv) && true))))))=true;rw [h1,h2,h3,PM];rfl
theorem PX(R:Rn)(st:i3×List Lk)(s:Sf):(dY R st s).1.1.length<=st.1.1.length+1/\(dY R st s).1.2.length<=st.1.2.length+1/\(dY R st s).2.length<=st.2.length+1:=by
 unfold dY;split
 ·refine⟨?_,?_,Yv⟩
  ·show(if _ then _ else _:i3).1.length<=_;split
   ·exact Gq _ _ _
   ·exact Sr _
  ·show(if _ then _ else _:i3).2.length<=_;split
   ·unfold cv;cases (eX (R.at st.1) s.1 s.2).row.lv with
    | none=>exact Sr _
    | some v=>exact Gr _ _
   ·exact Sr _
 ·exact⟨Sr _,Sr _,Sr _⟩
theorem AA(R:Rn):∀(ss:List Sf)(st:i3×List Lk),(ss.foldl (dY R) st).1.1.length<=st.1.1.length+ss.length/\(ss.foldl (dY R) st).1.2.length<=st.1.2.length+ss.length/\(ss.foldl (dY R) st).2.length<=st.2.length+ss.length
 | [],st=>⟨QY _,QY _,QY _⟩
 | s::ss,st=>by
  obtain⟨h1,h2,h3⟩:=AA R ss (dY R st s);obtain⟨a1,a2,a3⟩:=PX R st s;rw [RX,Q8];exact⟨Yr,Yr,Yr⟩
theorem Gz(R:Rn)(g:oJ R):∀(ss:List Sf)(st:i3×List Lk),(∀k∈st.2,lN k)->∀k∈(ss.foldl (dY R) st).2,lN k
 | [],st,h=>h
 | s::ss,st,h=>by
  rw [RX];refine Gz R g ss _ λk hk=>?_;unfold dY at hk;split at hk
  ·rcases Rj.mp hk with z | z
   ·exact h k z
   ·rw [Rk] at z;rw [z];exact Gf ⟨g.rl,g.hd,g.ll,g.lk⟩
  ·exact h k hk
theorem PY(go:List (Str×Int))(z:Str):(fH (fo go) (.inr z)).isSome=rD go z:=by
 unfold fH rD;rw [Vu,<-Gj,UO,List.find?_isSome,Ua]
theorem PZ(R:Rn):gh (QU "look") (R.fd.map (·.1))=true:=by
 show gh (QU "look") [QU "day",QU "rules",QU "holds",QU "leaves"]=true;decide+kernel
theorem GA:QU "lets_go" ∉ cn:=Yp
theorem GB:QU "as_row" ∉ cn:=Yp
def P0(xs:List De)(ss:List Sf)(n:Int)(rows:List Ro)(l CR CP CL ga ua:Yz)(R:Rn)(st:i3×List Lk)(δ:Dl):Prop:=∃(o6 o7 o8:Option Sl),δ=[some (Sl.v (RB (RZ De.enc xs))),some (Sl.v (SI (RZ (Sf.enc CP) ss))),some (Sl.v (Rv n)),some (Sl.b (RZ Ro.enc rows)),some (Sl.r l CR ga ua R.fd (fo st.1.1) (fM st.1.2)),some (Sl.o (st.2.map (Lk.enc CL))),o6,o7,o8]
def P1(CP CL:Yz):List Yw->List Yw->(Yw->Prop)->Prop:=λds es Q=>∃(xs:List De)(ss:List Sf)(n:Int)(rows:List Ro),ds=[.tuple (xs.map De.enc),.list (ss.map (Sf.enc CP)),.int n]/\es=rows.map Ro.enc/\bO xs/\rows.length<=100000/\ss.length<=41/\(∀s∈ss,Gv s)/\((∀k∈nM xs n rows ss,lN k)->Q (.list ((nM xs n rows ss).map (Lk.enc CL))))
theorem P2(T:Txt K mg t):aA P w K mg base CX0 9 t.a_o t.d_o ["deeds","shelf","day","done"] (tE K (P1 t.u_Paper t.u_Look)):=by
 have G_j:=@PH P w _ _ base _ T;have G_k:=@Gi P w _ _ base _ T;have G_m:=@Pz P w _ _ base _ T;have G_h:=@F6 P w _ _ base _ T;have G_i:=@F7 P w _ _ base _ T;have two:=PJ T;refine T.F_o.F.okB pM (λds es Q h=>?_) (λcdv A outer s H O ds es Q E hr h0 h=>?_)
 ·obtain⟨xs,ss,n,rows,rfl,_⟩:=h;rfl
 ·obtain⟨xs,ss,n,rows,rfl,rfl,g,rl,sl,so,q⟩:=h;have hX:∀b,H b=none->∀o z,H b≠some (.frz o z):=λb hb o z e=>by
   rw [hb] at e;cases e
  refine'⟨_,?A,?B⟩
  case A=>
   refine' ao ?C ?D
   case C=>exact(Mv (C:=t.u_Round) (i:=4) (j:=3) pM.nd rfl Yu T.mk_Round G_j (hr.mono Yq) rfl T.c_Round T.F_j.b fx (dv 0) (dv 2) (pv 3))
   case' D=>refine' ao ?E ?F
   case E=>exact(iG (i:=5) pM.nd rfl Yu (bV aj))
   case' F=>refine' ao ?G ?H
   case G=>
    refine' nY RU rfl (dv 1) ?I (gJ (b0 aL (b0 aL gI))) ?J
    case I=>exact(gB (n:=2) rfl (bY (aK (i:=6) pM.nd rfl Yu) (bY (aK (i:=7) pM.nd rfl Yu) gA)))
    case' J=>refine' aw ?K
    case' K=>refine' bJ ?L ?M bI
    case L=>exact(PW.pt (fC (aQ lR di (df (cb (C:=t.u_Paper) T.cl_Paper T.na_Paper_coming (dv 6))) (df (dv 2)) (aF _)) (fB (Mt (C:=t.u_Round) (i:=4) hr.units T.cl_Round T.na_Round_gone (pv 4) (cb (C:=t.u_Paper) T.cl_Paper T.na_Paper_name (dv 6))))))
    case' M=>refine' ao ?N ?O
    case N=>exact(bg (i:=8) pM.nd rfl Yu (PE.imp (Bu (pv 4) T.cl_Round T.mt_Round_look G_m (hr.mono Yq) T.F_m.b .nil fx (aa (dv 6) (aa (dv 7) aj))) Mr))
    case' O=>refine' ao ?P ?Q
    case P=>exact(lU (i:=5) (pv 5) (dv 8))
    case' Q=>refine' aw ?R
    case' R=>refine' bJ ?S ?T bI
    case S=>exact(jf (PE.imp (rW (dv 8) T.cl_Look T.mt_Look_lets_go G_h (hr.mono Yq) T.F_h.b .nil fx) tw))
    case' T=>refine' aw ?U
    case U=>exact(DQ (C:=t.u_Round) (i:=4) hX (pv 4) T.cl_Round T.mt_Round_mark G_k (hr.mono Yq) T.F_k.b fx (PE.imp (rW (dv 8) T.cl_Look T.mt_Look_as_row G_i (hr.mono Yq) T.F_i.b .nil fx) tw))
   case' H=>refine' aw ?V
   case V=>exact(qD (pv 5))
  case B=>
  clear hr T G_j G_k G_m G_h G_i h0 hX;simp only [nv,Q0,RW,Sd,R7,VS,Q8,RR,SM,SN,Ri];walk_at "h";refine⟨xs,n,rows,rfl,rfl,g,rl,λgR l ga ua=>?_⟩;have q:Q (.list ((jG (cJ xs n rows) ss).2.map (Lk.enc t.u_Look))):=q (Gz _ gR ss _ (λk hk=>nomatch hk));obtain⟨m1,m2⟩:=Aw rows ([],[]);have m1:(cJ xs n rows).go.length<=100000:=by
   have:(cJ xs n rows).go.length<=0+rows.length:=m1;omega
  have m2:(cJ xs n rows).us.length<=100000:=by
   have:(cJ xs n rows).us.length<=0+rows.length:=m2;omega
  generalize hE:dP.mk _ _ _ _=EE;have eN:EE.nx=iE 5 {nx:=λx=>Q UW,rt:=Q}:=by rw [<-hE]
  have hn:(cJ xs n rows).n=n:=rfl;clear hE rl;generalize cJ xs n rows=R at*;refine⟨λi=>P0 xs ss n rows l t.u_Round t.u_Paper t.u_Look ga ua R (jG R (ss.take i)),⟨none,none,none,rfl⟩,?_,?_⟩
  ·rintro i z δ hz ⟨o6,o7,o8,rfl⟩;rw [Q9] at hz;cases hz':ss[i]? with
   | none=>rw [hz'] at hz;cases hz
   | some s=>
    rw [hz'] at hz;cases hz;have ts:jG R (ss.take (i+1))=dY R (jG R (ss.take i)) s:=by
     unfold jG;rw [RT,hz',Uu];rfl
    obtain⟨b1,b2,b3⟩:=AA R (ss.take i) ((R.go,R.us),[]);have b1:(jG R (ss.take i)).1.1.length<=R.go.length+(ss.take i).length:=b1;have b2:(jG R (ss.take i)).1.2.length<=R.us.length+(ss.take i).length:=b2;have b3:(jG R (ss.take i)).2.length<=0+(ss.take i).length:=b3;rw [RI] at b1 b2 b3;obtain⟨so1,so2⟩:=so s (RA hz');simp only [ts];generalize jG R (ss.take i)=st at b1 b2 b3;simp only [Sf.enc];walk_at "h";have no:(decide (s.1.c.d<=R.n) && !rD st.1.1 s.1.c.nm)=false->dY R st s=st:=λh=>by
     unfold dY;rw [Ys (by rw [h];exact Q5)]
    refine⟨[QU "name",QU "coming",QU "kind",QU "makers",QU "happenings"],_,rfl,_,ur,_,rfl,?_⟩;by_cases hd:s.1.c.d<=n
    ·rw [Yt hd];refine⟨[QU "name",QU "coming",QU "kind",QU "makers",QU "happenings"],_,rfl,_,Gg,_,rfl,Ay R,?_⟩;rw [PY];by_cases hg:rD st.1.1 s.1.c.nm=false
     ·rw [Yt hg];have eS:dY R st s=((if (eX (R.at st.1) s.1 s.2).lets=true then cv st.1 (eX (R.at st.1) s.1 s.2).row else st.1),st.2++[eX (R.at st.1) s.1 s.2]):=by
       unfold dY;rw [Yt (by rw [hn,decide_eq_true hd,hg];rfl)]
      have gR':oJ (R.at st.1):=⟨gR.rl,gR.hd,gR.ll,gR.lk⟩;refine⟨PZ R,st.1.1.map (·.1),by unfold fo;rw [Rm,Rm];rfl,st.1.2,by unfold fM;rw [Rm];rfl,?_⟩;refine⟨R.at st.1,s.1,s.2,by rw [<-Pq];rfl,gR',so1,so2,PV two _ _ _,by rw [QW];omega,cn,⟨_,rfl⟩,GA,eX (R.at st.1) s.1 s.2,rfl,Gf gR',_,rfl,?_⟩;rw [eS];generalize eX (R.at st.1) s.1 s.2=k;by_cases hl:k.lets=true
      ·rw [Yt hl,Yt hl];refine⟨rfl,Ay R,cn,⟨_,rfl⟩,GB,k,rfl,k.nm,.int k.d,iZ k.lv,rfl,by unfold fo;rw [QW];omega,by unfold fM;rw [QW];omega,?_⟩;have e3:st.2.map (Lk.enc t.u_Look)++[k.enc t.u_Look]=(st.2++[k]).map (Lk.enc t.u_Look):=by rw [Rq];rfl
       rw [Gk,e3];cases hv:k.lv with
       | none=>
        have e2:cv st.1 k.row=(nL st.1.1 k.nm k.d,st.1.2):=by
         unfold cv;rw [show k.row.lv=none from hv];rfl
        exact .inl ⟨rfl,_,_,_,by rw [e2]⟩
       | some v=>
        have e2:cv st.1 k.row=(nL st.1.1 k.nm k.d,oM st.1.2 v):=by
         unfold cv;rw [show k.row.lv=some v from hv];rfl
        exact .inr ⟨v,rfl,_,_,_,by rw [Gm,e2]⟩
      ·rw [Ys hl,Ys hl];exact⟨_,_,_,by rw [Rq];rfl⟩
     ·rw [Ys hg,no (by rw [Wj] at hg;rw [hg,X5];rfl)];exact⟨_,_,_,rfl⟩
    ·rw [Ys hd,no (by rw [hn,decide_eq_false hd];rfl)];exact⟨_,_,_,rfl⟩
  ·rintro δ ⟨o6,o7,o8,rfl⟩;rw [eN,QW,Rz (QY _)];walk_at "h";exact q
end
theorem GC:bb (av t8) ["looks"] ["look"] 1 [] ⟨Q3,[(QX ".0",aab),(QX "look",aab)],false,false,[]⟩:=⟨rfl,Yp,Yp,Yp,rfl,Yp,Yp,Yp,rfl⟩
section
variable {P:YI} {w:YJ} {K:QV} {mg:Str->Option Yx} {base:YK} {t:cg}
def lP(ks:List Lk):List Ro:=(ks.filter Lk.lets).map Lk.row
def P4(CL:Yz):List Yw->(Yw->Prop)->Prop:=λds Q=>∃ks:List Lk,ds=[.list (ks.map (Lk.enc CL))]/\(∀k∈ks,lN k)/\ks.length<=100000/\Q (.list ((lP ks).map Ro.enc))
theorem GF(T:Txt K mg t):aA P w K mg base CX0 2 t.a_q t.d_q ["looks"] (aU K (P4 t.u_Look)):=by
 have G_h:=@F6 P w _ _ base _ T;have G_i:=@F7 P w _ _ base _ T;refine T.F_q.F.okD M3 (λds Q h=>?_) (λ_ _ _ _ H O ds Q E hr h=>?_)
 ·obtain⟨ks,rfl,_⟩:=h;rfl
 ·obtain⟨ks,rfl,ok,le,q⟩:=h;refine'⟨_,?A,?B⟩
  case A=>
   refine' aw ?C
   case' C=>refine' aR ?D
   case' D=>refine' fe ?E
   case E=>exact(eF rfl GC (df (dv 0)) aL bM Yq (λ_ _ _ _=>(aK (i:=0) GC.nd rfl Yu)) (λ_ _ _ _=>(cZ (jf (PE.imp (rW (dv 0) T.cl_Look T.mt_Look_lets_go G_h (hr.mono Yq) T.F_h.b .nil fx) tw)))) (λ_ _ _ _=>(PE.imp (rW (dv 0) T.cl_Look T.mt_Look_as_row G_i (hr.mono Yq) T.F_i.b .nil fx) tw)))
  case B=>
  clear hr T G_h G_i;walk_at "h";refine⟨by rw [QW];omega,cX Lk.lets (λk=>k.row.enc) (λk hk R S h=>?_) ?_⟩
  ·walk_at "h";refine⟨cn,⟨_,rfl⟩,GA,k,rfl,ok k hk,_,rfl,?_⟩;by_cases hl:k.lets=true
   ·rw [Yt hl] at h⊢;exact⟨cn,⟨_,rfl⟩,GB,k,rfl,h⟩
   ·rw [Ys hl] at h⊢;exact h
  ·have e:(ks.filter Lk.lets).map (λk=>k.row.enc)=(lP ks).map Ro.enc:=by unfold lP;rw [Rm];rfl
   rw [e];exact q
def nN(xs:List De)(ss:List Sf)(st:List Ro×List Lk)(n:Int):List Ro×List Lk:=(st.1++lP (nM xs n st.1 ss),st.2++nM xs n st.1 ss)
def fq(xs:List De)(ss:List Sf)(ns:List Int):List Ro×List Lk:=ns.foldl (nN xs ss) ([],[])
theorem P5{xs:List De}(g:ij xs):(dM xs).length<=41:=by
 unfold dM;rw [QW,iS];exact g.gx.gp.ln
theorem P6(xs:List De)(n:Int)(rows:List Ro)(ss:List Sf):(nM xs n rows ss).length<=ss.length:=by
 have h:=(AA (cJ xs n rows) ss (((cJ xs n rows).go,(cJ xs n rows).us),[])).2.2;rw [RR,T1] at h;exact h
theorem GG(ks:List Lk):(lP ks).length<=ks.length:=by
 unfold lP;rw [QW];exact RJ _ _
theorem P7{xs:List De}{ss:List Sf}{ns:List Int}{i:Nat}{n:Int}(h:ns[i]?=some n):fq xs ss (ns.take (i+1))=nN xs ss (fq xs ss (ns.take i)) n:=by
 unfold fq;rw [RT,h,Uu];rfl
def P8(xs:List De)(ss:List Sf)(ns:List Int)(CP CL:Yz)(i:Nat)(st:List Ro×List Lk)(δ:Dl):Prop:=∃(o6 o7:Option Sl),st.1.length<=41*i/\st.2.length<=41*i/\(∀k∈st.2,lN k)/\δ=[some (Sl.v (RB (RZ De.enc xs))),some (Sl.v (RB (RZ Rv ns))),some (Sl.v (SI [])),some (Sl.v (SI (ss.map (Sf.enc CP)))),some (Sl.o (st.1.map Ro.enc)),some (Sl.o (st.2.map (Lk.enc CL))),o6,o7]
def F_p(CL:Yz):List Yw->(Yw->Prop)->Prop:=λds Q=>∃(xs:List De)(ns:List Int),ds=[.tuple (xs.map De.enc),.tuple (ns.map .int),.list []]/\bO xs/\ns.length < 64/\((∀k∈(fq xs (dM xs) ns).2,lN k)->(fq xs (dM xs) ns).2.length<=100000->Q (.list ((fq xs (dM xs) ns).2.map (Lk.enc CL))))
theorem P9(T:Txt K mg t):aA P w K mg base CX0 10 t.a_p t.d_p ["deeds","days","done"] (aU K (F_p t.u_Look)):=by
 have G_n:=@PL P w _ _ base _ T;have G_o:=@P2 P w _ _ base _ T;have G_q:=@GF P w _ _ base _ T;refine T.F_p.F.okD pN (λds Q h=>?_) (λ_ _ _ _ H O ds Q E hr h=>?_)
 ·obtain⟨xs,ns,rfl,_⟩:=h;rfl
 ·obtain⟨xs,ns,rfl,g,nl,q⟩:=h;refine'⟨_,?A,?B⟩
  case A=>
   refine' ao ?C ?D
   case C=>exact(bg (i:=3) pN.nd rfl Yu (PE.imp (aE G_n (hr.mono Yq) rfl T.F_n (aa (dv 0) aj)) aN))
   case' D=>refine' ao ?E ?F
   case E=>exact(iG (i:=4) pN.nd rfl Yu (JW rfl T.n_list Jz (bj (df (dv 2)) br)))
   case' F=>refine' ao ?G ?H
   case G=>exact(iG (i:=5) pN.nd rfl Yu (bV aj))
   case' H=>refine' ao ?I ?J
   case I=>
    refine' ph RU rfl (dv 1) ?K aL ?L
    case K=>exact(aK (i:=6) pN.nd rfl Yu)
    case' L=>refine' ao ?M ?N
    case M=>exact(bg (i:=7) pN.nd rfl Yu (My (j:=4) G_o (hr.mono Yq) rfl T.F_o.m T.F_o.kp T.F_o.b fx (dv 0) (dv 3) (dv 6) (pv 4)))
    case' N=>refine' ao ?O ?P
    case O=>exact(wj (i:=4) (pv 4) (PE.imp (aE G_q (hr.mono Yq) rfl T.F_q (aa (dv 7) aj)) aN))
    case' P=>refine' aw ?Q
    case Q=>exact(wj (i:=5) (pv 5) (dv 7))
   case' J=>refine' aw ?R
   case R=>exact(qD (pv 5))
  case B=>
  clear hr T G_n G_o G_q;walk_at "h";refine⟨xs,rfl,g.gd,λso=>?_⟩;have sl:=P5 g.gd;generalize dM xs=ss at*;generalize hE:dP.mk _ _ _ _=EE;have eN:EE.nx=iE 5 {nx:=λx=>Q UW,rt:=Q}:=by rw [<-hE]
  clear hE;refine⟨λi=>P8 xs ss ns t.u_Paper t.u_Look i (fq xs ss (ns.take i)),⟨none,none,RL _,RL _,(λk hk=>nomatch hk),rfl⟩,?_,?_⟩
  ·rintro i z δ hz ⟨o6,o7,l1,l2,ok,rfl⟩;rw [Q9] at hz;cases hz':ns[i]? with
   | none=>rw [hz'] at hz;cases hz
   | some n=>
    rw [hz'] at hz;cases hz;have hi:=(Q7.mp hz').1;simp only [P7 hz'];generalize fq xs ss (ns.take i)=st at*;walk_at "h";have k1:=P6 xs n st.1 ss;have k2:=GG (nM xs n st.1 ss);refine⟨xs,ss,n,st.1,rfl,rfl,g,Yr,sl,so,λkok=>⟨nM xs n st.1 ss,rfl,kok,Yr,_,rfl,by rw [QW,QW];omega,_,rfl,by rw [QW,QW];omega,?_⟩⟩;have a1:(nN xs ss st n).1.length<=41*(i+1):=by
     show(st.1++_).length<=_;rw [Ra];omega
    have a2:(nN xs ss st n).2.length<=41*(i+1):=by
     show(st.2++_).length<=_;rw [Ra];omega
    refine⟨_,_,a1,a2,λk hk=>?_,by rw [<-Rq,<-Rq];rfl⟩;rcases Rj.mp hk with z | z
    ·exact ok k z
    ·exact kok k z
  ·rintro δ ⟨o6,o7,l1,l2,ok,rfl⟩;rw [QW,Rz (QY _)] at l2 ok;rw [eN,QW,Rz (QY _)];walk_at "h";exact q ok Yr
def Qa(CL:Yz):List Yw->(Yw->Prop)->Prop:=λds Q=>∃xs:List De,ds=[.tuple (xs.map De.enc)]/\bO xs/\oH xs/\((∀k∈(fq xs (dM xs) (eV xs)).2,lN k)->(fq xs (dM xs) (eV xs)).2.length<=100000->Q (.list ((fq xs (dM xs) (eV xs)).2.map (Lk.enc CL))))
theorem Qb(T:Txt K mg t):aA P w K mg base CX0 11 t.a_r t.d_r ["deeds"] (aU K (Qa t.u_Look)):=by
 have G_p:=@P9 P w _ _ base _ T;have G_f:=@Fq P w _ _ base _ T;refine T.F_r.F.okD M4 (λds Q h=>?_) (λ_ _ _ _ H O ds Q E hr h=>?_)
 ·obtain⟨xs,rfl,_⟩:=h;rfl
 ·obtain⟨xs,rfl,g,few,q⟩:=h;refine'⟨_,?A,?B⟩
  case A=>
   refine' aw ?C
   case' C=>refine' aR ?D
   case D=>exact(PE.imp (aE G_p (hr.mono Yq) rfl T.F_p (aa (dv 0) (aa (PE.imp (aE G_f (hr.mono Yq) rfl T.F_f (aa (dv 0) aj)) aN) (aa (fe (bV aj)) aj)))) aN)
  case B=>
  clear hr T G_p G_f;walk_at "h";exact⟨xs,rfl,g.gd,λ_=>few,λ_ tl=>⟨xs,eV xs,rfl,g,tl,q⟩⟩
end
theorem GH:bb (av ub) ["deeds","rows","row"] ["name","rows"] 1 [1] ⟨Q3,[ (QX ".0",aab),(QX "name",aab),(QX "rows",Rb)],false,false,[]⟩:=⟨rfl,Yp,Yp,Yp,rfl,Yp,Yp,Yp,rfl⟩
theorem GI:bb (av qW) ["deeds","day","days","come"] ["coming","day"] 1 [1] ⟨Q3,[ (QX ".0",aab),(QX "coming",aab),(QX "day",Rb)],false,false,[]⟩:=⟨rfl,Yp,Yp,Yp,rfl,Yp,Yp,Yp,rfl⟩
theorem GJ:bb (av qW) ["deeds","day","days","come"] ["name","day","days"] 1 [1,2] ⟨Q3,[ (QX ".0",aab),(QX "name",aab),(QX "day",Rb),(QX "days",Rb)],false,false,[]⟩:=⟨rfl,Yp,Yp,Yp,rfl,Yp,Yp,Yp,rfl⟩
section
variable {P:YI} {w:YJ} {K:QV} {mg:Str->Option Yx} {base:YK} {t:cg}
def dE{α:Type}(m:List (Str×α))(k:Str)(v:α):List (Str×α):=if (m.any λp=>decide (p.1=k))=true then m.map (λp=>if p.1=k then(p.1,v) else p) else m++[(k,v)]
def gm{α:Type}(f:α->Yw)(m:List (Str×α)):List (aq×Yw):=m.map λp=>(Sx p.1,f p.2)
def i4{α:Type}(m:List (Str×α))(z:Str):Option α:=(m.find? λp=>decide (p.1=z)).map (·.2)
theorem GK{α:Type}(f:α->Yw)(m:List (Str×α))(k:Str)(v:α):fW (gm f m) (.inr k) (f v)=gm f (dE m k v):=by
 have e:((gm f m).any λp=>decide (p.1=Sx k))=m.any λp=>decide (p.1=k):=by
  unfold gm;rw [VL];congr 1;funext p;simp only [T3,decide_eq_decide];exact jr
 unfold fW dE;rw [e];split
 ·unfold gm;rw [Rm,Rm];apply Tc;intro p _;simp only [T3];by_cases h:p.1=k
  ·rw [Yt (by rw [h]),Yt h]
  ·rw [Ys (λe=>h (jr.mp e)),Ys h]
 ·unfold gm;rw [Rq];rfl
theorem Qc{α:Type}(m:List (Str×α))(k:Str)(v:α):(dE m k v).length<=m.length+1:=by
 unfold dE;split <;> simp
theorem Qe{α:Type}(m:List (Str×α))(k:Str)(v:α)(z:Str):i4 (dE m k v) z=if k=z then some v else i4 m z:=by
 unfold dE i4;by_cases h:(m.any λp=>decide (p.1=k))=true
 ·rw [Yt h]
  induction m with
  | nil=>cases h
  | cons p m ih=>
   rw [Q0,Sa,Sa];by_cases hp:p.1=k
   ·rw [Yt hp];by_cases hz:k=z
    ·rw [Yt hz,hp,hz];simp
    ·rw [Ys hz];have e1:decide (p.1=z)=false:=decide_eq_false (λe=>hz (by rw [<-hp,e]));simp only [e1];have key:∀l:List (Str×α),(l.map λp=>if p.1=k then(p.1,v) else p).find? (λp=>decide (p.1=z))=l.find? λp=>decide (p.1=z):=λl=>by
      induction l with
      | nil=>rfl
      | cons a l ih=>
       rw [Q0,Sa,Sa,ih];by_cases ha:a.1=k
       ·rw [Yt ha];have e2:decide (a.1=z)=false:=decide_eq_false (λe=>hz (by rw [<-ha,e]));simp only [e2]
       ·rw [Ys ha]
     rw [key]
   ·rw [Ys hp];rw [Se,decide_eq_false hp,S6] at h;have ih:=ih h;by_cases hz:p.1=z
    ·rw [decide_eq_true hz,Ys (λe=>hp (by rw [hz,e]))]
    ·simp only [decide_eq_false hz];exact ih
 ·rw [Ys h,Xv];have no:∀p∈m,p.1≠k:=λp hp e=>h (Ua.mpr ⟨p,hp,by rw [e];simp⟩);by_cases hz:k=z
  ·rw [Yt hz,Vl.mpr (λp hp=>by rw [<-hz];simpa using no p hp),hz];simp
  ·rw [Ys hz,Sa,decide_eq_false hz];simp
theorem uK{α:Type}(f:α->Yw):∀(m:List (Str×α))(z:Str),bh (m.map (·.1)) (m.map λp=>f p.2) z=(i4 m z).map f
 | [],_=>rfl
 | p::m,z=>by
  have ih:=uK f m z;unfold i4 at ih⊢;rw [Q0,Q0,bh,Sa];by_cases h:p.1=z
  ·rw [Yt h,decide_eq_true h];rfl
  ·rw [Ys h,decide_eq_false h];exact ih
theorem GL{α:Type}(f:α->Yw)(m:List (Str×α)):(gm f m).map (·.1)=(m.map (·.1)).map Sx:=by
 unfold gm;rw [Rm,Rm];rfl
theorem GN{α:Type}(f:α->Yw)(m:List (Str×α)):(gm f m).map (·.2)=m.map λp=>f p.2:=by
 unfold gm;rw [Rm];rfl
def nO(rs:List Ro):List (Str×Ro):=rs.foldl (λm r=>dE m r.nm r) []
theorem AB{α β:Type}(kf:β->Str)(vf:β->α):∀(rs:List β)(m:List (Str×α)),(rs.foldl (λm r=>dE m (kf r) (vf r)) m).length<=m.length+rs.length
 | [],m=>QY _
 | r::rs,m=>by
  have h:=AB kf vf rs (dE m (kf r) (vf r));have h2:=Qc m (kf r) (vf r);rw [RX,Q8];omega
theorem AD{α β:Type}(kf:β->Str)(vf:β->α)(z:Str):∀(rs:List β)(m:List (Str×α)),i4 (rs.foldl (λm r=>dE m (kf r) (vf r)) m) z=rs.foldl (λo r=>if kf r=z then some (vf r) else o) (i4 m z)
 | [],m=>rfl
 | r::rs,m=>by
  rw [RX,RX,AD kf vf z rs,Qe]
def jH(xs:List De):List Ro:=lP (fq xs (dM xs) (eV xs)).2
structure Pl where
 nm:Str
 d:Option Int
 lv:Option Str
def Pl.enc(p:Pl):Yw:= .tuple [.str p.nm,bX p.d,iZ p.lv]
def Ro.pl(r:Ro):Pl:=⟨r.nm,some r.d,r.lv⟩
def oN(rs:List Ro)(z:Str):Option Ro:=rs.foldl (λo r=>if r.nm=z then some r else o) none
def cB(xs:List De):List Pl:=(bu (aC xs)).map λc=>((oN (jH xs) c.nm).map Ro.pl).getD ⟨c.nm,none,none⟩
def F_s:List Yw->(Yw->Prop)->Prop:=λds Q=>∃xs:List De,ds=[.tuple (xs.map De.enc)]/\bO xs/\oH xs/\Q (.tuple ((cB xs).map Pl.enc))
theorem GO(T:Txt K mg t):aA P w K mg base CX0 12 t.a_s t.d_s ["deeds"] (aU K F_s):=by
 have G_r:=@Qb P w _ _ base _ T;have G_q:=@GF P w _ _ base _ T;have G_M:=@z5 P w _ _ base _ T;refine T.F_s.F.okD xR (λds Q h=>?_) (λ_ _ _ _ H O ds Q E hr h=>?_)
 ·obtain⟨xs,rfl,_⟩:=h;rfl
 ·obtain⟨xs,rfl,g,few,q⟩:=h;refine'⟨_,?A,?B⟩
  case A=>
   refine' ao ?C ?D
   case C=>exact(vP (i:=1) xR.nd rfl Yu vO)
   case' D=>refine' ao ?E ?F
   case E=>
    refine' nY RU rfl (PE.imp (aE G_q (hr.mono Yq) rfl T.F_q (aa (PE.imp (aE G_r (hr.mono Yq) rfl T.F_r (aa (dv 0) aj)) aN) aj)) aN) ?G aL ?H
    case G=>exact(aK (i:=2) xR.nd rfl Yu)
    case' H=>refine' aw ?I
    case I=>exact(vQ (i:=1) hr.units (pv 1) (ak aG aM (df (dv 2)) (df af)) (dv 2))
   case' F=>refine' aw ?J
   case' J=>refine' C6 1 ?K
   case' K=>refine' aR ?L
   case L=>exact(PE.imp (cU fP rfl T.n_tuple fR (bj (df (fe (j2 rfl GH (df (PE.imp (aE G_M (hr.mono Yq) rfl T.F_M (aa (dv 0) aj)) aN)) aL bM Yq (λ_ _ _ _=>(aK (i:=0) GH.nd rfl Yu)) (λ_ _ _ _=>dj) (λ_ _ _ _=>(Mg hr.units (dv 1) (dv 0) (bH (aa (dv 0) (aa gE (aa gE aj)))) ⟨rfl,rfl,rfl,rfl⟩))))) br)) (bz fV))
  case B=>
  clear hr T G_r G_q G_M;walk_at "h";refine⟨xs,rfl,g,few,λkok kl=>⟨_,rfl,kok,kl,_,rfl,?_⟩⟩;have rl:(jH xs).length<=100000:=Rx (GG _) kl;have q:Q (.tuple ((bu (aC xs)).map λc=>(((oN (jH xs) c.nm).map Ro.pl).getD ⟨c.nm,none,none⟩).enc)):=by
   have q:Q (.tuple ((cB xs).map Pl.enc)):=q;unfold cB at q;rw [Rm] at q;exact q
  have eR:lP (fq xs (dM xs) (eV xs)).2=jH xs:=rfl;rw [eR];clear kok kl few eR;generalize jH xs=rs at*;refine⟨λi δ=>∃o2,δ=[some (Sl.v (RB (RZ De.enc xs))),some (Sl.k (gm Ro.enc (nO (rs.take i)))),o2],⟨none,rfl⟩,?_,?_⟩
  ·rintro i z δ hz ⟨o2,rfl⟩;rw [Q9] at hz;cases hz':rs[i]? with
   | none=>rw [hz'] at hz;cases hz
   | some r=>
    rw [hz'] at hz;cases hz;have ts:nO (rs.take (i+1))=dE (nO (rs.take i)) r.nm r:=by
     unfold nO;rw [RT,hz',Uu];rfl
    have ml:(nO (rs.take i)).length<=0+(rs.take i).length:=AB (λr:Ro=>r.nm) (λr=>r) (rs.take i) [];rw [RI] at ml;simp only [ts];generalize nO (rs.take i)=M at*;simp only [Ro.enc];walk_at "h";exact⟨by unfold gm;rw [QW];omega,GK Ro.enc M r.nm r,_,rfl⟩
  ·rintro δ ⟨o2,rfl⟩;rw [QW,Rz (QY _)];have ma:∀z,i4 (nO rs) z=oN rs z:=λz=>AD (λr:Ro=>r.nm) (λr=>r) z rs [];generalize nO rs=M at*;walk_at "h";have pl:=g.gd.gx.gp.ln;refine⟨M.map (·.1),GL _ _,xs,rfl,g.gd.gx,_,rfl,by rw [QW,QW,iS];omega,?_⟩;rw [GN];refine iU (λ_=>true) (λz=>(((oN rs z).map Ro.pl).getD ⟨z,none,none⟩).enc) (λz hz R S h1 _=>?_) ?_
   ·walk_at "h";have h:=h1 rfl;refine⟨_,_,rfl,?_⟩;rw [uK Ro.enc,ma]
    revert h
    cases oN rs z with
    | none=>exact id
    | some r=>exact id
   ·rw [fK,Rm];exact q
def rE(xs:List De):List (Str×Option Int):=(cB xs).foldl (λm p=>dE m p.nm p.d) []
def AE{α:Type}(f:α->Yw)(m:List (Str×α)):Yw:=gb (m.map (·.1)) (m.map λp=>f p.2)
def Qf:List Yw->(Yw->Prop)->Prop:=λds Q=>∃xs:List De,ds=[.tuple (xs.map De.enc)]/\bO xs/\oH xs/\Q (AE bX (rE xs))
theorem Qg{xs:List De}(g:bO xs):(cB xs).length<=41:=by
 unfold cB;rw [QW,iS];exact g.gd.gx.gp.ln
theorem Qh(T:Txt K mg t):aA P w K mg base CX0 13 t.a_t t.d_t ["deeds"] (aU K Qf):=by
 have G_s:=@GO P w _ _ base _ T;refine T.F_t.F.okD qX (λds Q h=>?_) (λ_ _ _ _ H O ds Q E hr h=>?_)
 ·obtain⟨xs,rfl,_⟩:=h;rfl
 ·obtain⟨xs,rfl,g,few,q⟩:=h;refine'⟨_,?A,?B⟩
  case A=>
   refine' ao ?C ?D
   case C=>exact(vP (i:=1) qX.nd rfl Yu vO)
   case' D=>refine' ao ?E ?F
   case E=>
    refine' ph RU rfl (PE.imp (aE G_s (hr.mono Yq) rfl T.F_s (aa (dv 0) aj)) aN) ?G (gJ (b0 aL (b0 aL (b0 aL gI)))) ?H
    case G=>exact(gB (n:=3) rfl (bY (aK (i:=2) qX.nd rfl Yu) (bY (aK (i:=3) qX.nd rfl Yu) (bY (aK (i:=4) qX.nd rfl Yu) gA))))
    case' H=>refine' aw ?I
    case I=>exact(vQ (i:=1) hr.units (pv 1) (dv 2) (dv 3))
   case' F=>refine' aw ?J
   case' J=>refine' C6 1 ?K
   case K=>exact(aR (dv 1))
  case B=>
  clear hr T G_s;walk_at "h";have pl:=Qg g;have q:Q (AE bX ((cB xs).foldl (λm p=>dE m p.nm p.d) [])):=q;refine⟨xs,rfl,g,few,_,rfl,?_⟩;generalize cB xs=ps at*;refine⟨λi δ=>∃(o2 o3 o4:Option Sl),δ=[some (Sl.v (RB (RZ De.enc xs))),some (Sl.k (gm bX ((ps.take i).foldl (λm p=>dE m p.nm p.d) []))),o2,o3,o4],⟨none,none,none,rfl⟩,?_,?_⟩
  ·rintro i z δ hz ⟨o2,o3,o4,rfl⟩;rw [Q9] at hz;cases hz':ps[i]? with
   | none=>rw [hz'] at hz;cases hz
   | some r=>
    rw [hz'] at hz;cases hz;have ts:(ps.take (i+1)).foldl (λm p=>dE m p.nm p.d) []=dE ((ps.take i).foldl (λm p=>dE m p.nm p.d) []) r.nm r.d:=by
     rw [RT,hz',Uu];rfl
    have ml:((ps.take i).foldl (λm p=>dE m p.nm p.d) []).length<=0+(ps.take i).length:=AB (λr:Pl=>r.nm) (λr=>r.d) (ps.take i) [];rw [RI] at ml;simp only [ts];generalize (ps.take i).foldl (λm p=>dE m p.nm p.d) []=M at*;simp only [Pl.enc];walk_at "h";refine⟨by unfold gm;rw [QW];omega,GK bX M r.nm r.d,?_⟩;exact⟨_,rfl⟩
  ·rintro δ ⟨o2,o3,o4,rfl⟩;rw [QW,Rz (QY _)];generalize ps.foldl (λm p=>dE m p.nm p.d) []=M at*;walk_at "h";refine⟨M.map (·.1),GL _ _,?_⟩;rw [GN];exact q
def oO(ps:List Pl)(z:Str):Option (Option Int):=ps.foldl (λo p=>if p.nm=z then some p.d else o) none
def p9(n:Int):Option (Option Int)->Bool
 | some (some d)=>decide (d > n)
 | _=>true
theorem AF{z:Str}:∀(rs:List Ro)(o:Option Ro),(∀r,o=some r->r.nm=z)->∀r,rs.foldl (λo r=>if r.nm=z then some r else o) o=some r->r.nm=z
 | [],o,h,r,e=>h r e
 | a::rs,o,h,r,e=>by
  rw [RX] at e;refine AF rs _ (λr' e'=>?_) r e;by_cases ha:a.nm=z
  ·rw [Yt ha] at e';cases e';exact ha
  ·rw [Ys ha] at e';exact h r' e'
theorem GP{z:Str}:∀(ps:List Pl)(o:Option (Option Int)),(o.isSome=true\/∃p∈ps,p.nm=z)->(ps.foldl (λo p=>if p.nm=z then some p.d else o) o).isSome=true
 | [],o,h=>by
  rcases h with h | ⟨p,hp,_⟩
  ·exact h
  ·cases hp
 | a::ps,o,h=>by
  rw [RX];refine GP ps _ ?_;by_cases ha:a.nm=z
  ·rw [Yt ha];exact .inl rfl
  ·rw [Ys ha];rcases h with h | ⟨p,hp,e⟩
   ·exact .inl h
   ·rcases Q4.mp hp with y | y
    ·exact absurd (by rw [<-y];exact e) ha
    ·exact .inr ⟨p,y,e⟩
theorem Qi{xs:List De}{c:Pp}(h:c∈bu (aC xs)):∃p∈cB xs,p.nm=c.nm:=by
 refine⟨_,Rf.mpr ⟨c,h,rfl⟩,?_⟩;cases e:oN (jH xs) c.nm with
 | none=>rfl
 | some r=>exact AF _ none (λr h=>nomatch h) r e
theorem Qj{xs:List De}{c:Pp}(h:c∈bu (aC xs)):∃o,i4 (rE xs) c.nm=some o/\oO (cB xs) c.nm=some o:=by
 have e:i4 (rE xs) c.nm=oO (cB xs) c.nm:=AD (λr:Pl=>r.nm) (λr=>r.d) c.nm (cB xs) [];have s:(oO (cB xs) c.nm).isSome=true:=GP (cB xs) none (.inr (Qi h));obtain⟨o,ho⟩:=UB.mp s;exact⟨o,e.trans ho,ho⟩
def lQ(xs:List De)(n:Int):List Str:=(((bu (aC xs)).filter λc=>decide (c.d<=n)).map (·.nm)).filter λz=>p9 n (oO (cB xs) z)
theorem Qk{xs:List De}{n:Int}{Q:Yw->Prop}(q:Q (.tuple ((lQ xs n).map .str))):jm (iH 0) (jg (c7 (cC jq (iO (bZ 2) (bZ 0)) (dC UW))) (c7 (cC (dI λi j=>UT (decide (j < i))) (iO (bZ 2) (bZ 0)) (bZ 1)))) (bZ 0) [none,some (Sl.v (Rv n)),some (Sl.v (AE bX (rE xs)))] ((Ue (λc:Pp=>decide (c.d<=n)) (bu (aC xs))).map (λc=>QZ c.nm)) λds=>Q (RB ds):=by
 have e1:(Ue (λc:Pp=>decide (c.d<=n)) (bu (aC xs))).map (λc=>QZ c.nm)=((Ue (λc:Pp=>decide (c.d<=n)) (bu (aC xs))).map (·.nm)).map QZ:=by rw [Rm];rfl
 rw [e1];have key:∀z∈(Ue (λc:Pp=>decide (c.d<=n)) (bu (aC xs))).map (·.nm),∃o,i4 (rE xs) z=some o/\oO (cB xs) z=some o:=λz hz=>by
  obtain⟨c,hc,rfl⟩:=Rf.mp hz;exact Qj (RP.mp hc).1
 have q:Q (.tuple ((((Ue (λc:Pp=>decide (c.d<=n)) (bu (aC xs))).map (·.nm)).filter λz=>p9 n (oO (cB xs) z)).map .str)):=q;generalize (Ue (λc:Pp=>decide (c.d<=n)) (bu (aC xs))).map (·.nm)=cs at*;refine cX (enc:=QZ) (λz=>p9 n (oO (cB xs) z)) QZ (λz hz R S h=>?_) q;obtain⟨o,h1,h2⟩:=key z hz;rw [h2] at h;walk_at "h";refine⟨_,_,rfl,bX o,by rw [uK bX,h1];rfl,?_⟩;cases o with
 | none=>
  rw [Yt (by rfl)];rw [Yt (by rfl)] at h;exact h
 | some d=>
  rw [Ys (by simp [eO,bX])];refine⟨_,_,rfl,bX (some d),by rw [uK bX,h1];rfl,d,rfl,?_⟩;by_cases hd:n < d
  ·rw [Yt hd];rw [Yt (show p9 n (some (some d))=true from decide_eq_true hd)] at h;exact h
  ·rw [Ys hd];rw [Ys (show ¬p9 n (some (some d))=true by rw [show p9 n (some (some d))=false from decide_eq_false hd];exact Q5)] at h;exact h
def F_u:List Yw->(Yw->Prop)->Prop:=λds Q=>∃(xs:List De)(n:Int),ds=[.tuple (xs.map De.enc),.int n]/\bO xs/\oH xs/\Q (.tuple ((lQ xs n).map .str))
theorem Ql(T:Txt K mg t):aA P w K mg base CX0 14 t.a_u t.d_u ["deeds","day"] (aU K F_u):=by
 have G_t:=@Qh P w _ _ base _ T;have G_K:=@z3 P w _ _ base _ T;refine T.F_u.F.okD xS (λds Q h=>?_) (λ_ _ _ _ H O ds Q E hr h=>?_)
 ·obtain⟨xs,n,rfl,_⟩:=h;rfl
 ·obtain⟨xs,n,rfl,g,few,q⟩:=h;refine'⟨_,?A,?B⟩
  case A=>
   refine' ao ?C ?D
   case C=>exact(bg (i:=2) xS.nd rfl Yu (PE.imp (aE G_t (hr.mono Yq) rfl T.F_t (aa (dv 0) aj)) aN))
   case' D=>refine' ao ?E ?F
   case E=>exact(ic (i:=3) xS.nd rfl Yu (sQ rfl GI (df (PE.imp (aE G_K (hr.mono Yq) rfl T.F_K (aa (dv 0) aj)) aN)) aL bM Yq (λ_ _ _ _=>(aK (i:=0) GI.nd rfl Yu)) (λ_ _ _ _=>(cZ (aQ lR di (df (ak aG aM (df (dv 0)) (df af))) (df (dv 1)) (aF _)))) (λ_ _ _ _=>(ak aG aM (df (dv 0)) (df af)))))
   case' F=>refine' aw ?G
   case' G=>refine' aR ?H
   case H=>exact(PE.imp (cU fP rfl T.n_tuple fR (bj (df (fe (eF rfl GJ (df (dv 3)) aL bM Yq (λ_ _ _ _=>(aK (i:=0) GJ.nd rfl Yu)) (λ_ _ _ _=>(cZ (PW.pt (sI (aQ qr qN (df (C7 hr.units (dv 2) (dv 0) (λ_ _=>rfl))) (df gE) (aF _)) (sH (aQ jJ di (df (C7 hr.units (dv 2) (dv 0) (λ_ _=>rfl))) (df (dv 1)) (aF _))))))) (λ_ _ _ _=>(dv 0))))) br)) (bz fV))
  case B=>
  clear hr T G_t G_K;walk_at "h";have pl:=g.gd.gx.gp.ln;refine⟨xs,rfl,g,few,xs,.inr rfl,g.gd.gx,_,rfl,by rw [QW,iS];omega,?_⟩;refine cX (enc:=Pp.enc) (λc=>decide (c.d<=n)) (λc=>.str c.nm) (λc hc R S h=>?_) ?_
  ·simp only [Pp.enc];walk_at "h";by_cases hd:c.d<=n
   ·rw [Yt hd];rw [Yt (by simpa using hd)] at h;exact h
   ·rw [Ys hd];rw [Ys (by simpa using hd)] at h;exact h
  ·have fl:=RJ (λc:Pp=>decide (c.d<=n)) (bu (aC xs));rw [iS] at fl;exact⟨by rw [QW];omega,Qk q⟩
end
section
variable {xs ys:List De}
theorem bO.perm(g:bO xs)(h:ys.Perm xs):bO ys:=by
 obtain⟨⟨gx,d2,d3,d4,d5,d6⟩,n2,n3,n4,n5⟩:=g;exact⟨⟨gx.perm h,λd nm r z=>d2 d nm r (h.mem_iff.mp z),λd nm r z=>d3 d nm r (h.mem_iff.mp z),h.nodup_iff.mpr d4,λx hx=>d5 x (h.mem_iff.mp hx),λx hx y hy=>d6 x (h.mem_iff.mp hx) y (h.mem_iff.mp hy)⟩,λd nm r z=>n2 d nm r (h.mem_iff.mp z),λd nm r z=>n3 d nm r (h.mem_iff.mp z),λx hx y hy=>n4 x (h.mem_iff.mp hx) y (h.mem_iff.mp hy),λx hx y hy=>n5 x (h.mem_iff.mp hx) y (h.mem_iff.mp hy)⟩
theorem GQ(h:ys.Perm xs):(aC ys).Perm (aC xs):=h.filterMap _
theorem rF(g:bO xs)(h:ys.Perm xs):bu (aC ys)=bu (aC xs):=Ey g.gd.gx.gp.nd (GQ h)
theorem GR(g:bO xs)(h:ys.Perm xs)(c:Pp):eT (aC ys) c=eT (aC xs) c:=by
 unfold eT;rw [rF g h]
theorem GS{ps qs:List Pp}(h:∀c,eT qs c=eT ps c):∀(f:Nat)(l:List Pp)(i:Nat),gZ qs f l i=gZ ps f l i
 | 0,_,_=>rfl
 | f+1,l,i=>by
  unfold gZ;cases l[i]? with
  | none=>rfl
  | some c=>
   show gZ qs f (l++lM qs l c) (i+1)=gZ ps f (l++lM ps l c) (i+1);rw [show lM qs l c=lM ps l c by unfold lM;rw [h],GS h f]
theorem Qm(g:bO xs)(h:ys.Perm xs)(c:Pp):jD (aC ys) c=jD (aC xs) c:=by
 unfold jD;rw [(GQ h).length_eq];exact GS (GR g h) _ _ _
theorem GU(g:bO xs)(h:ys.Perm xs)(c:Pp):eU ys c=eU xs c:=by
 unfold eU;rw [GR g h,NA (l:=dW ys c.nm) (l':=dW xs c.nm) ((h.filter _).map _)]
theorem Qn(h:ys.Perm xs)(n:Int):ik ys n=ik xs n:=by
 have e:∀L,iX ys n L↔iX xs n L:=λL=>by
  unfold iX Ab;simp only [h.mem_iff]
 by_cases z:∃L,iX xs n L
 ·obtain⟨L,z⟩:=z;rw [<-Ac z,<-Ac ((e L).mpr z)]
 ·have z':¬ ∃L,iX ys n L:=λ⟨L,y⟩=>z ⟨L,(e L).mp y⟩;unfold ik;rw [dif_neg z,dif_neg z']
theorem GV{ws:List Str}{n:Int}{us vs:List Rw}(h:vs.Perm us){res:List Rw}(z:fk ws n us res):fk ws n vs res:=
 ⟨z.up,z.nd,λx hx=>let ⟨a,b,c⟩:=z.it x hx;⟨h.mem_iff.mpr a,b,λy hy=>c y (h.mem_iff.mp hy)⟩,λy hy=>z.al y (h.mem_iff.mp hy),by rw [h.length_eq];exact z.le⟩
theorem Qo(g:bO xs)(h:ys.Perm xs)(n:Int):p5 ys n=p5 xs n:=by
 unfold p5;have p:(ys.map De.rw).Perm (xs.map De.rw):=h.map _;by_cases z:∃r,fk lK n (xs.map De.rw) r
 ·obtain⟨r,z⟩:=z;rw [<-Aj (Ak g) z,<-Aj (Ak (g.perm h)) (GV p z)]
 ·have z':¬ ∃r,fk lK n (ys.map De.rw) r:=λ⟨r,y⟩=>z ⟨r,GV p.symm y⟩;unfold uD;rw [dif_neg z,dif_neg z']
theorem Qp(g:bO xs)(h:ys.Perm xs)(n:Int):rC ys n=rC xs n:=by
 unfold rC;exact Ey ((Ax g.gd.nd g.lv).sublist (U9.map _)) ((h.filterMap _).filter _)
theorem Qq(g:bO xs)(h:ys.Perm xs)(n:Int)(rows:List Ro):cJ ys n rows=cJ xs n rows:=by
 unfold cJ;rw [Qn h,Qo g h,Qp g h]
theorem Qr(g:bO xs)(h:ys.Perm xs):dM ys=dM xs:=by
 unfold dM;rw [rF g h];refine Tc λc _=>?_;rw [GU g h,Qm g h]
theorem Qs(g:bO xs)(h:ys.Perm xs)(ss:List Sf)(ns:List Int):fq ys ss ns=fq xs ss ns:=by
 have e:nN ys ss=nN xs ss:=by
  funext st n;unfold nN nM;rw [Qq g h]
 unfold fq;rw [e]
theorem Qt(g:bO xs)(h:ys.Perm xs):cN ys=cN xs:=by
 unfold cN;rw [rF g h];exact Tc λc _=>GU g h c
theorem Qu(g:bO xs)(h:ys.Perm xs):cm ys=cm xs:=by
 funext x;unfold cm;rw [Qt g h]
theorem Qv(g:bO xs)(h:ys.Perm xs):(gW ys).Perm (gW xs):=by
 unfold gW;rw [Qu g h];exact(h.map _).append (h.flatMap_right _)
theorem GW(g:bO xs)(h:ys.Perm xs):eV ys=eV xs:=by
 have e:∀ns,jA ys ns↔jA xs ns:=λns=>by
  unfold jA;simp only [(Qv g h).mem_iff]
 by_cases z:∃ns,jA xs ns
 ·obtain⟨ns,z⟩:=z;rw [<-Ai z,<-Ai ((e ns).mpr z)]
 ·have z':¬ ∃ns,jA ys ns:=λ⟨L,y⟩=>z ⟨L,(e L).mp y⟩;unfold eV;rw [dif_neg z,dif_neg z']
theorem GX(g:bO xs)(h:ys.Perm xs):cB ys=cB xs:=by
 unfold cB jH;rw [rF g h,Qr g h,GW g h,Qs g h]
theorem Qw(g:bO xs)(h:ys.Perm xs)(n:Int):lQ ys n=lQ xs n:=by
 unfold lQ;rw [rF g h,GX g h]
end
local macro_rules | `(tactic| walk_at "g") =>rzT (rzS++" K24.atI_c5 K24.atI_c6 K24.atI_c7 K24.atI_c8 K24.day_iff K24.cell_iff K24.numbers_iff true_and DW")
theorem GY:bb (av uf) ["_law_deeds_here","_law_days"] ["_law_day_here","_law_deeds_here"] 1 [0] ⟨Q3,[ (QX ".0",aab),(QX "_law_day_here",aab),(QX "there",RC),(QX "_law_deeds_here",Rb)],false,false,[]⟩:=⟨rfl,Yp,Yp,Yp,rfl,Yp,Yp,Yp,rfl⟩
section
variable {P:YI} {w:YJ} {K:QV} {mg:Str->Option Yx} {base:YK} {t:cg}
def Qx:List Yw->(Yw->Prop)->Prop:=λds Q=>∃(xs:List De)(n:Int),ds=[.tuple (xs.map De.enc),.int n]/\xs.length<=20/\∀ys:List De,ys.Perm xs->Q (.tuple (ys.map De.enc))
theorem Qy(T:Txt K mg t):aA P w K mg base CX0 1 t.a_AJ t.d_AJ ["_law_deeds_here","_law_number"] (aU K Qx):=by
 refine T.F_AJ.F.okD pO (λds Q h=>?_) (λ_ _ _ _ H O ds Q E hr h=>?_)
 ·obtain⟨xs,n,rfl,_⟩:=h;rfl
 ·obtain⟨xs,n,rfl,xl,q⟩:=h;refine'⟨_,?A,?B⟩
  case A=>
   refine' ao ?C ?D
   case C=>exact(iG (i:=2) pO.nd rfl Yu (bV aj))
   case' D=>refine' ao ?E ?F
   case E=>
    refine' MH RU rfl rfl T.n_enumerate (aa (dv 0) aj) ?G (gJ (b0 aL (b0 aL gI))) ?H
    case G=>exact(gB (n:=2) rfl (bY (aK (i:=3) pO.nd rfl Yu) (bY (aK (i:=4) pO.nd rfl Yu) gA)))
    case' H=>refine' ao ?I ?J
    case I=>exact(BX (PE.imp (bU HU rfl T.n_divmod Jy (bj (df (dv 1)) (bj (df (ar bA bN (df (dv 3)) (df af))) br))) (bz LX)) (gB (n:=2) rfl (bY (aK (i:=1) pO.nd rfl Yu) (bY (aK (i:=5) pO.nd rfl Yu) gA))) (gJ (b0 aL (b0 aL gI))))
    case' J=>refine' aw ?K
    case K=>exact(Me (i:=2) (pv 2) (dv 5) (dv 4))
   case' F=>refine' aw ?L
   case L=>exact(aR (PE.imp (cU fP rfl T.n_tuple fR (bj (dw 2) br)) (bz fV)))
  case B=>
  clear hr T;walk_at "g";refine⟨λi δ=>∃(ys:List De)(m:Int)(o3 o4 o5:Option Sl),ys.Perm (xs.take i)/\δ=[some (Sl.v (RB (RZ De.enc xs))),some (Sl.v (Rv m)),some (Sl.o (ys.map De.enc)),o3,o4,o5],⟨[],n,none,none,none,.refl _,rfl⟩,?_,?_⟩
  ·rintro i z δ hz ⟨ys,m,o3,o4,o5,pm,rfl⟩;rw [pA,Q9] at hz;cases hz':xs[i]? with
   | none=>rw [hz'] at hz;cases hz
   | some x=>
    rw [hz'] at hz;cases hz;have hi:=(Q7.mp hz').1;have yl:ys.length=i:=by
     rw [pm.length_eq,RI];omega
    walk_at "g";have m0:0<=m % ((i:Int)+1):=T2 _ Yr;have m1:m % ((i:Int)+1) < (i:Int)+1:=To _ Yr;have pm2:(gf ys (m % ((i:Int)+1)).toNat x).Perm (xs.take (i+1)):=by
     rw [RT,hz'];exact(DH _ _ _).trans ((pm.cons x).trans (WW (l₁:=[x]) (l₂:=xs.take i)))
    exact⟨Yr,Yr,(m % ((i:Int)+1)).toNat,Yr,by rw [QW];omega,by rw [QW];omega,gf ys (m % ((i:Int)+1)).toNat x,pm2,(L9 _ _ _ _).symm,_,rfl⟩
  ·rintro δ ⟨ys,m,o3,o4,o5,pm,rfl⟩;rw [qS,QW,Rz (QY _)] at pm;walk_at "g";exact q ys pm
def Qz:List Yw->(Yw->Prop)->Prop:=λds Q=>∃(xs:List De)(ns:List Int),ds=[.tuple (xs.map De.enc),.list (ns.map .int)]/\ns.length<=100/\bO xs/\oH xs/\Q (.list (.tuple ((eV xs).map .int):: .tuple ((cB xs).map Pl.enc)::ns.map λn=>.tuple ((lQ xs n).map .str)))
theorem QA(T:Txt K mg t):aA P w K mg base CX0 15 t.a_AK t.d_AK ["_law_deeds_here","_law_days"] (aU K Qz):=by
 have G_f:=@Fq P w _ _ base _ T;have G_s:=@GO P w _ _ base _ T;have G_u:=@Ql P w _ _ base _ T;refine T.F_AK.F.okD M8 (λds Q h=>?_) (λ_ _ _ _ H O ds Q E hr h=>?_)
 ·obtain⟨xs,ns,rfl,_⟩:=h;rfl
 ·obtain⟨xs,ns,rfl,nl,g,fw,q⟩:=h;refine'⟨_,?A,?B⟩
  case A=>
   refine' aw ?C
   case' C=>refine' aR ?D
   case' D=>refine' fe ?E
   case' E=>refine' nZ (df ?F) (df ?G)
   case F=>
    refine' fe ?H
    case' H=>refine' bV ?I
    case' I=>refine' aa ?J ?K
    case J=>exact(PE.imp (aE G_f (hr.mono Yq) rfl T.F_f (aa (dv 0) aj)) aN)
    case' K=>refine' aa ?L aj
    case L=>exact(PE.imp (aE G_s (hr.mono Yq) rfl T.F_s (aa (dv 0) aj)) aN)
   case' G=>refine' fe ?M
   case M=>exact(eF rfl GY (df (dv 1)) aL bM Yq (λ_ _ _ _=>(aK (i:=0) GY.nd rfl Yu)) (λ_ _ _ _=>dj) (λ_ _ _ _=>(PE.imp (aE G_u (hr.mono Yq) rfl T.F_u (aa (dv 1) (aa (dv 0) aj))) aN)))
  case B=>
  clear hr T G_f G_s G_u;walk_at "g";refine⟨xs,rfl,g.gd,λ_=>fw,λ_ tl=>⟨xs,rfl,g,fw,by rw [QW];omega,iU (λ_=>true) (λn:Int=>.tuple ((lQ xs n).map .str)) (λn hn R S h1 _=>?_) ?_⟩⟩
  ·walk_at "g";exact⟨xs,n,rfl,g,fw,h1 rfl⟩
  ·rw [fK];exact⟨by rw [QW];omega,q⟩
end
section
def uL(k:Lk):Prop:=∀v,k.lv=some v->Q2 v=true
theorem GZ{R:Rn}(h:∀p∈R.lvs,Q2 p.nm=true):∀(ss:List Sf)(st:i3×List Lk),(∀k∈st.2,uL k)->∀k∈(ss.foldl (dY R) st).2,uL k
 | [],st,z=>z
 | s::ss,st,z=>by
  rw [RX];refine GZ h ss _ λk hk=>?_;unfold dY at hk;split at hk
  ·rcases Rj.mp hk with y | y
   ·exact z k y
   ·rw [Rk] at y;subst y;intro v hv;have hv:lO (R.at st.1) s.1.c.kd=some v:=hv;unfold lO at hv;split at hv
    ·cases hv
    ·unfold oK at hv;rw [TC] at hv;obtain⟨p,hp,rfl⟩:=hv;exact h p (Wl hp)
  ·exact z k hk
theorem QB{xs:List De}(g:bO xs)(n:Int):∀p∈rC xs n,Q2 p.nm=true:=λp hp=>by
 have hp:=(RP.mp (iR.mp hp)).1;obtain⟨x,hx,e⟩:=uJ hp;have:=g.gd.gx.nm x hx;rw [e] at this;exact this
theorem G0{xs:List De}(g:bO xs)(ss:List Sf):∀(ns:List Int)(st:List Ro×List Lk),(∀k∈st.2,uL k)->∀k∈(ns.foldl (nN xs ss) st).2,uL k
 | [],_,h=>h
 | n::ns,st,h=>by
  rw [RX];refine G0 g ss ns _ λk hk=>?_;rcases Rj.mp hk with y | y
  ·exact h k y
  ·exact GZ (R:=cJ xs n st.1) (QB g n) ss (((cJ xs n st.1).go,(cJ xs n st.1).us),[]) (λk hk=>nomatch hk) k y
theorem G1{z:Str}:∀(rs:List Ro)(o:Option Ro)(r:Ro),rs.foldl (λo r=>if r.nm=z then some r else o) o=some r->r∈rs\/o=some r
 | [],o,r,e=>.inr e
 | a::rs,o,r,e=>by
  rw [RX] at e;rcases G1 rs _ r e with h | h
  ·exact .inl (Ru _ h)
  ·by_cases ha:a.nm=z
   ·rw [Yt ha] at h;cases h;exact .inl RK
   ·rw [Ys ha] at h;exact .inr h
theorem QC{xs:List De}(g:bO xs):∀p∈cB xs,Q2 p.nm=true/\∀v,p.lv=some v->Q2 v=true:=λp hp=>by
 obtain⟨c,hc,rfl⟩:=Rf.mp hp;have hn:=g.gd.gx.gp.nm c (iR.mp hc);cases e:oN (jH xs) c.nm with
 | none=>exact⟨hn,λv h=>nomatch h⟩
 | some r=>
  refine⟨?_,λv hv=>?_⟩
  ·show Q2 r.nm=true;rw [AF _ none (λr h=>nomatch h) r e];exact hn
  ·have hm:r∈jH xs:=(G1 _ _ r e).resolve_right (λh=>nomatch h);unfold jH lP at hm;obtain⟨k,hk,rfl⟩:=Rf.mp hm;exact G0 g (dM xs) (eV xs) ([],[]) (λk hk=>nomatch hk) k (RP.mp hk).1 v hv
theorem G2:bQ 1 .none:=⟨by simp [RS],by simp [U3]⟩
theorem QD{ps:List Pl}(h:∀p∈ps,Q2 p.nm=true/\∀v,p.lv=some v->Q2 v=true):bQ 3 (.tuple (ps.map Pl.enc)):=by
 refine fh λd hd=>?_;obtain⟨p,hp,rfl⟩:=Rf.mp hd;obtain⟨h1,h2⟩:=h p hp;refine fh (bR (iL h1) (bR ?_ (bR ?_ fF)))
 ·cases p.d with
  | none=>exact G2
  | some d=>exact qI
 ·cases e:p.lv with
  | none=>exact G2
  | some v=>exact iL (h2 v e)
theorem QE(ns:List Int):bQ 2 (.tuple (ns.map .int)):=fh λd hd=>by
 obtain⟨n,_,rfl⟩:=Rf.mp hd;exact qI
theorem QF{xs:List De}(g:bO xs)(n:Int):bQ 2 (.tuple ((lQ xs n).map .str)):=fh (sS λz hz=>by
 obtain⟨c,hc,rfl⟩:=Rf.mp (RP.mp hz).1;exact g.gd.gx.gp.nm c (iR.mp (RP.mp hc).1))
theorem QG{n:Nat}{ds:List Yw}(h:∀d∈ds,bQ n d):bQ (n+1) (.list ds):=by
 obtain⟨a,b⟩:=qJ h;refine⟨by simpa [RS] using a,?_⟩;rw [U3];omega
def i5(xs:List De)(ns:List Int):Yw:= .list (.tuple ((eV xs).map .int):: .tuple ((cB xs).map Pl.enc)::ns.map λn=>.tuple ((lQ xs n).map .str))
theorem QH{xs:List De}(g:bO xs)(ns:List Int):bQ 4 (i5 xs ns):=by
 refine QG λd hd=>?_;rcases Q4.mp hd with e | hd
 ·rw [e];exact(QE _).mono Yq
 rcases Q4.mp hd with e | hd
 ·rw [e];exact QD (QC g)
 ·obtain⟨n,_,rfl⟩:=Rf.mp hd;exact(QF g n).mono Yq
theorem QI{xs ys:List De}(g:bO xs)(h:ys.Perm xs)(ns:List Int):i5 ys ns=i5 xs ns:=by
 unfold i5;rw [GW g h,GX g h];congr 3;exact Tc λn _=>by rw [Qw g h]
end
theorem G3:bb (av oA) ["_law_script","_law_deeds_here","_law_xs","_law_more","_law_at","_law_days","_law_sets","_law_due","_law_number","_law_turn","_law_k","_law_some"] ["_law_deed_here"] 1 [] ⟨Q3,[(QX ".0",aab),(QX "_law_deed_here",aab)],false,false,[]⟩:=⟨rfl,Yp,Yp,Yp,rfl,Yp,Yp,Yp,rfl⟩
theorem G4:bb (av oA) ["_law_script","_law_deeds_here","_law_xs","_law_more","_law_at","_law_days","_law_sets","_law_due","_law_number","_law_turn","_law_k","_law_some"] ["_law_deed_here","_law_deeds_here"] 1 [1] ⟨Q3,[ (QX ".0",aab),(QX "_law_deed_here",W7),(QX "any",RC),(QX "_law_deeds_here",Rb)],false,false,[]⟩:=⟨rfl,Yp,Yp,Yp,rfl,Yp,Yp,Yp,rfl⟩
theorem G5:bb ⟨Q3,[ (QX ".0",aab),(QX "_law_deed_here",W7),(QX "any",RC),(QX "_law_deeds_here",Rb)],false,false,[]⟩ ["_law_deed_here","_law_deeds_here"] ["_law_other","_law_deed_here"] 1 [0] ⟨Q3,[ (QX ".0",aab),(QX "_law_other",aab),(QX "_law_quarrel",RC),(QX "_law_deed_here",Rb)],false,false,[]⟩:=⟨rfl,Yp,Yp,Yp,rfl,Yp,Yp,Yp,rfl⟩
theorem G6:bb (av oA) ["_law_script","_law_deeds_here","_law_xs","_law_more","_law_at","_law_days","_law_sets","_law_due","_law_number","_law_turn","_law_k","_law_some"] ["_law_deed_here"] 1 [] ⟨Q3,[(QX ".0",aab),(QX "_law_deed_here",aab)],false,false,[]⟩:=⟨rfl,Yp,Yp,Yp,rfl,Yp,Yp,Yp,rfl⟩
theorem G7:bb (av oA) ["_law_script","_law_deeds_here","_law_xs","_law_more","_law_at","_law_days","_law_sets","_law_due","_law_number","_law_turn","_law_k","_law_some"] ["_law_some","_law_days"] 1 [5] ⟨Q3,[ (QX ".0",aab),(QX "_law_some",aab),(QX "_law_all",RC),(QX "_law_days",Rb)],false,false,[]⟩:=⟨rfl,Yp,Yp,Yp,rfl,Yp,Yp,Yp,rfl⟩
section
variable {P:YI} {w:YJ} {K:QV} {mg:Str->Option Yx} {base:YK} {t:cg}
def QJ:List Yw->(Yw->Prop)->Prop:=λds Q=>∃(ns:List Int)(k:Int),ds=[fS (ns.map .int),.int k]/\0<=k/\k<=100/\∀b:Bool,Q (.bool b)
theorem QK(T:Txt K mg t):aA P w K mg base CX0 2 t.a_AI t.d_AI ["_law_script","_law_at"] (aU K QJ):=by
 have G_v:=@Al P w _ _ base _ T;have G_w:=@Am P w _ _ base _ T;refine T.F_AI.F.okD M7 (λds Q h=>?_) (λ_ _ _ _ H O ds Q E hr h=>?_)
 ·obtain⟨ns,k,rfl,_⟩:=h;rfl
 ·obtain⟨ns,k,rfl,k0,k1,q⟩:=h;refine'⟨_,?A,?B⟩
  case A=>
   refine' aw ?C
   case' C=>refine' aR ?D
   case D=>exact(dG (cD hr.units) cE (df (ar aW aD (df (ak aP aS (df (PE.imp (aE G_w (hr.mono Yq) rfl T.F_w (aa (PE.imp (aE G_v (hr.mono Yq) rfl T.F_v (aa (dv 0) (aa (dv 1) aj))) aN) (aa af aj))) aN)) (df af))) (df af))) (df af) (aF _))
  case B=>
  clear hr T G_v G_w;walk_at "g";refine⟨Yr,Yr,λc ms ml mn=>?_⟩;obtain⟨a0,a1,a2,a3,rfl⟩:=FT ml;walk_at "d";exact q _
theorem QL{ns:List Int}(h:(ns.length:Int)=6):∃a b c d e f,ns=[a,b,c,d,e,f]:=by
 match ns,(show ns.length=6 by omega) with
 | [a,b,c,d,e,f],_=>exact⟨_,_,_,_,_,_,rfl⟩
theorem Dr.sub{np nr nh:Nat}{xs ys:List De}(d:Dr np nr nh xs)(h:ys.Sublist xs):Dr (np+1) (nr+1) (nh+1) ys:=
 ⟨λx hx=>d.it x (h.mem hx),d.pw.sublist h,Rx h.length_le d.ln,U0 (Rx (h.filterMap _).length_le d.cP),U0 (Rx (h.filter _).length_le d.cR),U0 (Rx (h.filter _).length_le d.cH)⟩
theorem Dr.add{np nr nh:Nat}{xs:List De}(d:Dr np nr nh xs)(xl:xs.length<=19){z:De}(gz:jC z)(h:∀x∈xs,gY z x):Dr (np+1) (nr+1) (nh+1) (xs++[z]):=by
 refine⟨λx hx=>?_,U6.mpr ⟨d.pw,Vt _ _,λa ha b hb=>?_⟩,by rw [Ra];exact Wy xl,?_,?_,?_⟩
 ·rcases Rj.mp hx with y | y
  ·exact d.it x y
  ·rw [Rk.mp y];exact gz
 ·rw [Rk.mp hb];exact(h a ha).symm
 ·unfold aC;rw [VG,Ra];exact VT d.cP (Vq _ _)
 ·rw [VZ,Ra];exact VT d.cR (RJ _ _)
 ·rw [VZ,Ra];exact VT d.cH (RJ _ _)
theorem QM{xs:List De}{k:Nat}(h:k<=xs.length):cW (xs.map De.enc) none (some (k:Int))=(xs.take k).map De.enc:=by
 rw [sO Yr (by rw [QW];omega),T4];rfl
theorem QN{xs:List De}{k:Nat}:cW (xs.map De.enc) (some ((k:Int)+1)) none=(xs.drop (k+1)).map De.enc:=by
 unfold cW;rw [show((k:Int)+1)=((k+1:Nat):Int) from rfl,HT.sIx_nat,rZ,Rz (by rw [TH];exact QY _),<-V8,QW];congr 1;rcases Nat.le_total (k+1) xs.length with z | z
 ·rw [XR z]
 ·rw [Nat.min_eq_right z,US (QY _),US z]
def rG(z:List De):Yw:= .tuple (z.map De.enc)
def G8(v0 v1 v2 v3 v4 v5 v6 v7:Yw)(δ:Dl):Prop:=∃(m:Int)(o9 o10 o11:Option Sl),δ=[some (.v v0),some (.v v1),some (.v v2),some (.v v3),some (.v v4),some (.v v5),some (.v v6),some (.v v7),some (.v (.int m)),o9,o10,o11]
def rH(x:De):Bool:=[QU "paper",QU "happens",QU "rule"].any λz=>z==x.w
def F_AL:List Yw->(Yw->Prop)->Prop:=λds Q=>∃ns:List Int,ds=[fS (ns.map .int)]/\ns.length<=63/\(∀z∈ns,SE z<=1048576)/\Q (.bool true)
def sp_law(K:QV):Sp:=aU K F_AL
theorem start_law{K:QV}{H:Hp}{a:Yz}{ns:List Int}(hl:ns.length<=63)(hb:∀z∈ns,SE z<=1048576)(hS:bo K H a (ns.map V.int)):sp_law K [.ref a] H (λv _=>v= .bl true) λ_ _ _=>False:=
 ⟨λ_=>False,[fS (ns.map .int)],λd=>d= .bool true,λ_ z=>z.elim,.cons (.scr (by
  rcases hS with h | h
  ·exact .inl ⟨h,λz=>z⟩
  ·exact .inr (.inr h)) (ai.ints ns)) .nil,⟨ns,rfl,hl,hb,rfl⟩,λd v H' e _ r=>by subst e;cases r;rfl⟩
theorem ok_law(T:Txt K mg t):aA P w K mg base CX0 20 t.a_AL t.d_AL ["_law_script"] (sp_law K):=by
 have G_v:=@Al P w _ _ base _ T;have G_w:=@Am P w _ _ base _ T;have G_AH:=@O5 P w _ _ base _ T;have G_AI:=@QK P w _ _ base _ T;have G_AD:=@FN P w _ _ base _ T;have G_AJ:=@Qy P w _ _ base _ T;have G_AK:=@QA P w _ _ base _ T;refine T.F_AL.F.okD gi (λds Q h=>?_) (λ_ _ _ _ H O ds Q E hr h=>?_)
 ·obtain⟨ns,rfl,_⟩:=h;rfl
 ·obtain⟨ns,rfl,_,_,q⟩:=h;refine'⟨_,?A,?B⟩
  case A=>
   refine' ao ?C ?D
   case C=>
    refine' bg (i:=1) gi.nd rfl Yu ?E (hs:=qK)
    case E=>exact(PE.imp (aE G_AH (hr.mono Yq) rfl T.F_AH (aa (dv 0) (aa af (aa (PE.imp (aE G_AI (hr.mono Yq) rfl T.F_AI (aa (dv 0) (aa af aj))) aN) aj)))) aN)
   case' D=>refine' ao ?F ?G
   case F=>exact(bg (i:=2) gi.nd rfl Yu (PE.imp (aE G_w (hr.mono Yq) rfl T.F_w (aa (PE.imp (aE G_v (hr.mono Yq) rfl T.F_v (aa (dv 0) (aa af aj))) aN) (aa af aj))) aN))
   case' G=>refine' ao ?H ?I
   case H=>exact(ic (i:=3) gi.nd rfl Yu (nc rfl G3 (df (PE.imp (aE G_AH (hr.mono Yq) rfl T.F_AH (aa (dv 0) (aa af (aa (PE.imp (aE G_AI (hr.mono Yq) rfl T.F_AI (aa (dv 0) (aa af aj))) aN) aj)))) aN)) aL bM Yq (λ_ _ _ _=>(aK (i:=0) G3.nd rfl Yu)) (λ_ _ _ _=>(cZ (aQ (oj hr) om (df (ak aG aM (df (dv 0)) (df af))) (df (bH (l4 (ds:=[.str "paper",.str "happens",.str "rule"]) (by rfl)))) rfl))) (λ_ _ _ _=>(dv 0))))
   case' I=>refine' ao ?J ?K
   case J=>exact(ic (i:=3) gi.nd rfl Yu (sQ rfl G4 (df (dv 3)) aL bM Yq (λ_ _ _ _=>(aK (i:=0) G4.nd rfl Yu)) (λ_ _ _ _=>(cZ (pd (jf (PE.imp (bU (vz rfl) rfl T.n_any vA (bj (df (fe (j2 rfl G5.rel (df (dv 1)) aL bM Yq (λ_ _ _ _=>(aK (i:=0) G5.nd rfl Yu)) (λ_ _ _ _=>dj) (λ_ _ _ _=>(PE.imp (aE G_AD (hr.mono Yq) rfl T.F_AD (aa (dv 1) (aa (dv 0) aj))) aN))))) br)) (bz vE)))))) (λ_ _ _ _=>(dv 0))))
   case' K=>refine' ao ?L ?M
   case L=>
    refine' bg (i:=4) gi.nd rfl Yu ?N (hs:=iM)
    case N=>exact(ar aW aD (df (ak aP aS (df (dv 2)) (df af))) (df (ar bA bN (df (PE.imp (bU dO rfl T.n_len R9 (bj (df (dv 1)) br)) (bz eG))) (df af))))
   case' M=>refine' ao ?O ?P
   case O=>
    refine' bg (i:=5) gi.nd rfl Yu ?Q (hs:=iM)
    case' Q=>refine' fe ?R
    case' R=>refine' nZ (df ?S) (df ?T)
    case S=>
     refine' fe ?U
     case U=>exact(j2 rfl G6 (df (oh (df (dv 1)) ia (cq af))) aL bM Yq (λ_ _ _ _=>(aK (i:=0) G6.nd rfl Yu)) (λ_ _ _ _=>dj) (λ_ _ _ _=>(ak aG aM (df (dv 0)) (df af))))
    case T=>exact(fe (bV (aa (ar aW aD (df (ak aP aS (df (dv 2)) (df af))) (df af)) aj)))
   case' P=>refine' ao ?V ?W
   case V=>
    refine' bg (i:=6) gi.nd rfl Yu ?X (hs:=KC)
    case' X=>refine' fe ?Y
    case' Y=>refine' bV ?Z
    case' Z=>refine' aa (dv 1) ?a
    case' a=>refine' aa ?b ?c
    case b=>
     refine' ar C9 Dc (df ?d) (df ?e)
     case d=>exact(oh (df (dv 1)) ia (cq (dv 4)))
     case e=>exact(oh (df (dv 1)) (cq (ar bA bN (df (dv 4)) (df af))) ia)
    case' c=>refine' aa ?f aj
    case' f=>refine' ar C9 Dc (df (dv 1)) (df ?g)
    case g=>exact(PE.imp (cU fP rfl T.n_tuple fR (bj (df (fe (iK (df (dv 3)) ia (cq af)))) br)) (bz fV))
   case' W=>refine' ao ?h ?i
   case h=>exact(ic (i:=7) gi.nd rfl Yu (sQ rfl G7 (df (dv 6)) aL bM Yq (λ_ _ _ _=>(aK (i:=0) G7.nd rfl Yu)) (λ_ _ _ _=>dj) (λ_ _ _ _=>(PE.imp (aE G_AK (hr.mono Yq) rfl T.F_AK (aa (dv 0) (aa (dv 1) aj))) aN))))
   case' i=>refine' ao ?j ?k
   case j=>
    generalize hG38:Wo _ _ _ _=eg38;refine' bg (i:=8) gi.nd rfl Yu ?l (hs:=by subst hG38;exact iM)
    case' l=>subst hG38
    exact(ar bA bN (df (ar bA bN (df (ar d9 aD (df (ar d9 aD (df (ak aP aS (df (dv 2)) (df af))) (df af))) (df af))) (df (ar d9 aD (df (ak aP aS (df (dv 2)) (df af))) (df af))))) (df (ak aP aS (df (dv 2)) (df af))))
   case' k=>refine' ao ?m ?n
   case m=>
    refine' BY RU rfl rfl T.n_range (aa af aj) ?o aL ?p
    case o=>exact(aK (i:=9) gi.nd rfl Yu)
    case' p=>refine' aw ?q
    case' q=>refine' Dq RU rfl rfl T.n_enumerate (aa (dv 6) aj) ?r (gJ (b0 aL (b0 aL gI))) ?s
    case r=>exact(gB (n:=2) rfl (bY (aK (i:=10) gi.nd rfl Yu) (bY (aK (i:=11) gi.nd rfl Yu) gA)))
    case' s=>refine' ao ?t ?u
    case t=>
     refine' bg (i:=8) gi.nd rfl Yu ?v (hs:=iM)
     case v=>exact(ar aW aD (df (ar d9 aD (df (dv 8)) (df af))) (df (ar bA bN (df (ar A9 aD (df af) (df af))) (df af))))
    case' u=>refine' aw ?w
    case' w=>refine' bJ ?x ?y bI
    case x=>exact(aQ (JO hr.units) JP (df (PE.imp (aE G_AK (hr.mono Yq) rfl T.F_AK (aa (PE.imp (aE G_AJ (hr.mono Yq) rfl T.F_AJ (aa (dv 11) (aa (dv 8) aj))) aN) (aa (dv 5) aj))) aN)) (df (ak aP aS (df (dv 7)) (df (dv 10)))) (aF _))
    case y=>refine' aw (aR vD)
   case n=>refine' aw (aR vD)
  case B=>
  clear hr T G_v G_w G_AH G_AI G_AD G_AJ G_AK;generalize hA:fg (fU 4 _) _=TA;walk_at "g";refine⟨ns,0,rfl,Yq,Yq,λb1=>⟨ns,0,b1,rfl,Yq,Yq,λxs dr xl=>λc ms ml mn=>?_⟩⟩;obtain⟨m0,m1,m2,m3,m4,m5,rfl⟩:=QL ml;clear ml mn;refine⟨ns,0,rfl,Yq,Yq,λb2=>⟨ns,21,b2,rfl,Yq,Yq,λys dr' yl=>⟨_,rfl,by rw [QW];omega,?_⟩⟩⟩;refine cX (enc:=De.enc) rH De.enc (λx hx R S h=>?_) ?_
  ·rw [nK];walk_at "g";rw [nK] at h;simpa [rH] using h
  ·have fl:=RJ rH ys;refine⟨by rw [QW];omega,λi acc=>∃zs:List De,acc=zs.map De.enc/\zs.length<=i/\∀z∈zs,z∈ys.filter rH/\∀x∈xs,gY z x,⟨[],rfl,QY _,Yv⟩,?_,?_⟩
   ·rintro i z acc hz ⟨zs,rfl,zl,hq⟩;rw [Q9] at hz;cases hz':(ys.filter rH)[i]? with
    | none=>rw [hz'] at hz;cases hz
    | some y=>
     rw [hz'] at hz;cases hz;have hy:=RA hz';walk_at "g";refine⟨by rw [QW];omega,λi acc=>∃bs:List Bool,acc=bs.map .bool/\bs.length=i/\∀j:Nat,bs[j]?=some false->∀x,xs[j]?=some x->gY y x,⟨[],rfl,rfl,Yv⟩,?_,?_⟩
     ·rintro j z acc hz ⟨bs,rfl,bl,hb⟩;rw [Q9] at hz;cases hx':xs[j]? with
      | none=>rw [hx'] at hz;cases hz
      | some x=>
       rw [hx'] at hz;cases hz;walk_at "d";refine⟨y,x,rfl,dr'.it y (RP.mp hy).1,dr.it x (RA hx'),λb hb2=>⟨bs++[b],by rw [Rq];rfl,by rw [Ra,bl];rfl,λn hn x' hx2=>?_⟩⟩;rcases Tf n bs.length with h | h
       ·rw [R4 h] at hn;exact hb n hn x' hx2
       ·rw [Ss h] at hn;have n0:n - bs.length=0:=by
         rcases VW (n - bs.length) with h0 | h0
         ·exact h0
         ·rw [SF (by rw [Td];omega)] at hn;cases hn
        rw [n0] at hn;have ek:n=j:=Yr
        rw [ek,hx'] at hx2;cases hx2;exact hb2 (by simpa using hn)
     ·rintro acc ⟨bs,rfl,bl,hb⟩;rw [QW] at bl;refine⟨bs,rfl,?_⟩;split
      ·rename_i hany;refine⟨zs++[y],by rw [Rq];rfl,by rw [Ra];exact Wy zl,λz hz=>?_⟩;rcases Rj.mp hz with h | h
       ·exact hq z h
       ·rw [Rk.mp h];refine⟨hy,λx hx=>?_⟩;obtain⟨j,hj⟩:=W2 hx;have jl:j < bs.length:=by rw [bl];exact(Q7.mp hj).1
        refine hb j ?_ x hj;have:bs[j]=false:=by simpa using Wc.mp hany bs[j] (Tg jl)
        rw [RF jl,this]
      ·exact⟨zs,rfl,U0 zl,hq⟩
   ·rintro acc ⟨zs,rfl,zl,hq⟩;rw [QW] at zl;have lm:(RZ De.enc xs).length=xs.length:=QW _;subst hA;generalize hB:fg (fU 8 _) _=TB;walk_at "g";have d2:Dr 6 6 4 (xs++zs.take 1):=by
     cases zs with
     | nil=>rw [show xs++([]:List De).take 1=xs from RN _];exact dr.sub (.refl _)
     | cons z zs=>exact dr.add xl (dr'.it z (RP.mp (hq z RK).1).1) (hq z RK).2
    obtain⟨a,ha⟩:=SY (T2 m0 (show((RZ De.enc xs).length:Int)+1≠0 by omega));have al:=To m0 (show(0:Int) < ((RZ De.enc xs).length:Int)+1 by omega);rw [ha] at al⊢;have d1:Dr 6 6 4 (xs.take a++xs.drop (a+1)):=dr.sub (by
     have:=List.Sublist.append (Xu (xs.take a)) (List.drop_sublist_drop_left xs (Sr a))
     rwa [TQ] at this)
    have d0:Dr 6 6 4 xs:=dr.sub (.refl _);rw [uB,uB,QM Yr,QN,<-T4,<-T4,<-Rq,<-Rq];refine⟨Yr,by rw [QW,RI];omega,iU (λ_=>true) (λx:De=>.int x.d) (λx hx R S h1 _=>?_) ?_⟩
    ·cases x <;> simp only [De.enc,Pp.enc] <;> walk_at "g" <;> exact h1 rfl
    rw [fK,show(xs.take 1).map (λx:De=>Rv x.d)++[Rv (m1 % 100)]=((xs.take 1).map De.d++[m1 % 100]).map Rv by rw [Rq,Rm];rfl];have tl:((xs.take 1).map De.d++[m1 % 100]).length<=2:=by rw [Ra,QW,RI];show _+1<=2;omega
    generalize (xs.take 1).map De.d++[m1 % 100]=dys at*;have sg:∀z∈[xs,xs.take a++xs.drop (a+1),xs++zs.take 1],Dr 6 6 4 z:=by
     intro z hz;simp only [Q4,Rt,or_false] at hz;rcases hz with rfl | rfl | rfl
     ·exact d0
     ·exact d1
     ·exact d2
    refine⟨by rw [QW,RI];omega,by rw [QW,QW,RI,TH];omega,by rw [QW,QW,RI];omega,?_⟩;rw [show [RB (RZ De.enc xs),RB (RZ De.enc (List.take a xs++List.drop (a+1) xs)),RB (RZ De.enc (xs++List.take 1 zs))]=[xs,xs.take a++xs.drop (a+1),xs++zs.take 1].map rG from rfl];have sl:[xs,xs.take a++xs.drop (a+1),xs++zs.take 1].length=3:=rfl;generalize [xs,xs.take a++xs.drop (a+1),xs++zs.take 1]=sts at*;clear d0 d1 d2 hq fl zl;generalize zs.map De.enc=zz;generalize xs.map De.enc=xx at*;refine iU (λ_=>true) (λz=>i5 z dys) (λz hz R S h1 _=>?_) ?_
    ·unfold rG;walk_at "g";exact⟨z,dys,rfl,Yr,(sg z hz).good,(sg z hz).few Yq,h1 rfl⟩
    rw [fK];subst hB;walk_at "g";generalize fS (RZ Rv ns)=v0;generalize SI [Rv m0,Rv m1,Rv m2,Rv m3,Rv m4,Rv m5]=v2;refine⟨λi=>G8 v0 (.tuple xx) v2 (.list zz) (.int a) (.list (dys.map .int)) (.list (sts.map rG)) (.list (sts.map λz=>i5 z dys)),⟨_,none,none,none,rfl⟩,?_,?_⟩
    ·rintro i z δ hz ⟨m,o9,o10,o11,rfl⟩;obtain⟨hi,rfl⟩:=qF hz;clear hz;walk_at "g";refine⟨λi=>G8 v0 (.tuple xx) v2 (.list zz) (.int a) (.list (dys.map .int)) (.list (sts.map rG)) (.list (sts.map λz=>i5 z dys)),⟨m,_,_,_,rfl⟩,?_,λδ h=>h⟩;rintro k z δ hz ⟨m,o9,o10,o11,rfl⟩;rw [pA,Q9] at hz;cases hs:sts[k]? with
     | none=>rw [hs] at hz;cases hz
     | some y=>
      rw [hs] at hz;cases hz;have dy:=sg y (RA hs);unfold rG;walk_at "g";have gy:=dy.good;have ly:=QH gy dys;refine⟨Yq,Yp,y,_,rfl,dy.ln,λys' pm=>⟨ys',dys,rfl,Yr,gy.perm pm,(dy.perm pm).few Yq,i5 y dys,fO (by rw [Q9,hs];rfl),?_⟩⟩;show Tz (i5 ys' dys)=true/\_/\if (i5 ys' dys).eqv (i5 y dys)=false then _ else _
      rw [QI gy pm,Ao _ ly.can,Ys Yq];exact⟨ly.shp Yq,ly.shp Yq,_,_,_,_,rfl⟩
    ·rintro δ ⟨m,o9,o10,o11,rfl⟩;walk_at "g";exact q
end
end K24
namespace PySem.W.Fast
def tw12464375948353926796:=0
def tw4187440506625194203:=0
def tw14127881214359559474:=0
def tw11204913709637894390:=0
def tw15021986810142294063:=0
def tw7739164521694022885:=0
def tw11497386573775018039:=0
def tw7554510468900617593:=0
def tw6319017272396354088:=0
def tw2465301866415196850:=0
def tw6888091446521220786:=0
def tw5629968645723090682:=0
def tw1993311544822194047:=0
def tw4251093428752369488:=0
def tw5286432591400678369:=0
def tw18246116665543450544:=0
def tw9481946664503014106:=0
def tw2376134048324907777:=0
def tw16924103988556281886:=0
def tw2262874131786603370:=0
def tw2708218899257786039:=0
def tw1080870184228819070:=0
def tw2036339184510777209:=0
def tw3299967935516640493:=0
def tw2462872670261008500:=0
def tw2805591875521993913:=0
def tw13647907101462154307:=0
def tw4670287255314822836:=0
def tw16181459509943242654:=0
def tw7797279088193235307:=0
def tw13157387342745210956:=0
def tw10847153105895401000:=0
def tw9651073606363304735:=0
def tw18002170104257800412:=0
def tw2483932608035115334:=0
def tw734091315854710161:=0
def tw15114941909671628452:=0
def tw8581775804404282133:=0
def tw4384268352274154808:=0
def tw5755934552001595942:=0
def tw4868966649653733780:=0
def tw95479477918198621:=0
def tw1343609196247235512:=0
def tw14803878950620873735:=0
def tw733191192132164646:=0
def tw5764224671172328984:=0
def tw5715648870062478607:=0
def tw2601312592918950731:=0
def tw13211939313193403531:=0
def tw15303746574431421027:=0
def tw9526732301338700222:=0
def tw2482863407891829003:=0
def tw5576405331513602141:=0
def tw1669567619312645669:=0
def tw6694068135701243317:=0
def tw14437639974638038788:=0
def tw11817343846720540178:=0
def tw13955669794373199859:=0
def tw1576954208823637196:=0
def tw7429176963447603030:=0
def tw1455623770585238860:=0
def tw8674478414327598991:=0
def tw13870322837355734744:=0
def tw9067815649368090207:=0
def tw4984925428951070320:=0
def tw9217315749999418753:=0
def tw5783890666380387676:=0
def tw7214623857315456096:=0
def tw15599488156804031420:=0
def tw12306344432445604813:=0
def tw4104750062716041243:=0
def tw382077209708962083:=0
def tw10027380756270197929:=0
def tw11984401405397129303:=0
def tw7252303903217897103:=0
def tw7339785671083406939:=0
def tw10308825280371688266:=0
def tw5835035044822714456:=0
def tw15200022287636528395:=0
def tw6821865688887370326:=0
def tw4053205105532984738:=0
def tw1110492060330875198:=0
def tw14576162071451691757:=0
def tw8240701228918172925:=0
def tw4338425009800231784:=0
def tw10273389844105260044:=0
def tw2910468753184108608:=0
def tw18346473848502303278:=0
def tw10111540336378738620:=0
def tw1945930709126559487:=0
def tw3084230125289366556:=0
def tw3798858947081752511:=0
def tw1434027024658712230:=0
def tw17859918114419823588:=0
def tw13137829400470321335:=0
def tw15916420710087940267:=0
def tw15800478720375201352:=0
def tw16875944447962926439:=0
def tw13376251027598762303:=0
def tw240031256368454998:=0
def tw4332976546202831258:=0
def tw760562180385349249:=0
def tw5837355170920638911:=0
def tw963347951689542118:=0
def tw6334811529975142188:=0
def tw1979690427175715888:=0
def tw564060770680330350:=0
def tw1211797420479797047:=0
def tw10102442810759847717:=0
def tw12936090321242273974:=0
def tw906736811274291031:=0
def tw10132424799868028149:=0
def tw2327096004970122808:=0
def tw10344850688709512703:=0
def tw4636173573606702071:=0
def tw11884025314275608443:=0
def tw9441153684221611161:=0
def tw7812690990654924866:=0
def tw5917927443841625233:=0
def tw4644611432053199447:=0
def tw14283465080404244601:=0
def tw13616014155737258715:=0
def tw6843716092536427757:=0
def tw4214159366016988735:=0
def tw4504935490828546760:=0
def tw11426016240699080733:=0
def tw9846112983706193924:=0
def tw15686079514699914221:=0
def tw326248933532362352:=0
def tw12356720294289789983:=0
def tw13957162535091881767:=0
def tw17143599385206137864:=0
def tw9896978907818741470:=0
def tw17357630637676393296:=0
def tw9922991954523875173:=0
def tw8487338502692672411:=0
def tw17513663898584727690:=0
def tw6476730908284098447:=0
def tw931408166184912482:=0
def tw10756251573179401913:=0
def tw11168109082128733711:=0
def tw9515054337688247072:=0
def tw15301226555497397263:=0
def tw10084663396551638669:=0
def tw11680173637258486431:=0
def tw11884145993234061722:=0
def tw4372534062147026573:=0
def tw4465389956199582467:=0
def tw5388244998949874598:=0
def tw14731272188597769948:=0
def tw13298985025767604914:=0
def tw15944681126563210563:=0
def tw5433704119728176857:=0
def tw5121374287298898962:=0
def tw7423307437287315352:=0
def tw15290706509925775856:=0
def tw9776789175283964985:=0
def tw7164090617731996487:=0
def tw7148093074988770630:=0
def tw1639477727448533885:=0
def tw16834881856968790352:=0
def tw9157348896765205255:=0
def tw7796900222656430174:=0
def tw15584126858607619873:=0
def tw4149148743220249157:=0
def tw1282528154404030740:=0
def tw11375265826791549615:=0
def tw1699053409498470815:=0
def tw12749998247207067687:=0
def tw17518115393171570158:=0
def tw6979182042919353465:=0
def tw8403568219429504344:=0
def tw12465069479479532199:=0
def tw7402460666881562774:=0
def tw11313086083970033160:=0
def tw1866803984249142594:=0
def tw1749544675794531520:=0
def tw1665483639040966390:=0
def tw9184331232976016371:=0
def tw4117957384293466610:=0
def tw16327342953119754543:=0
def tw16729551016666297359:=0
def tw14614623901810476006:=0
def tw18025896634393964183:=0
def tw1136426504521738273:=0
def tw5809111475457880548:=0
def tw17808446096414831410:=0
def tw14492172625154615844:=0
def tw14723661592079965587:=0
def tw5292354479094345897:=0
def tw12873072286957662992:=0
def tw4738431933203867764:=0
def tw8769575489778029003:=0
def tw5770529689659985465:=0
def tw18176283181809672165:=0
def tw5880736773050428686:=0
def tw16725381109386413693:=0
def tw7873485275837403250:=0
def tw4333681831846093814:=0
def tw7485579720857767722:=0
def tw3722581989304087106:=0
def tw13233123452545006247:=0
def tw11357843016109592346:=0
def tw6940089372871264556:=0
def tw8652577061312263173:=0
def tw7478417271658327552:=0
def tw3107610109861243051:=0
def tw1904426386152105144:=0
def tw1641394626754230080:=0
def tw16349779985652242967:=0
def tw16114062136172489998:=0
def tw11571029988941794878:=0
def tw302009653107204363:=0
def tw2815856326425515922:=0
def tw7225144950167306619:=0
def tw6305034468505000134:=0
def tw6241773211029046518:=0
def tw8195256997891539835:=0
def tw591752657346557203:=0
def tw1524398173287258980:=0
def tw3403468947441528433:=0
def tw987051333278563159:=0
def tw7366583521996042696:=0
def tw636562022871652212:=0
def tw18264415379915247838:=0
def tw3571807883441094569:=0
def tw16640864531338768450:=0
def tw15966042677313161082:=0
def tw9047599693469780847:=0
def tw7204494955991428237:=0
def tw16734472834808837764:=0
def tw1026095015029136699:=0
def tw8513137077298998497:=0
def tw15070226108376767929:=0
def tw1355504661094845348:=0
def tw3765573701128939261:=0
def tw9258903646629641563:=0
def tw8936153198229205298:=0
def tw9679490492868930912:=0
def tw17274254473920687272:=0
def tw8174199695807268178:=0
def tw15269435804919488338:=0
def tw13162459866362155410:=0
def tw7922418168823282974:=0
def tw9476489205183142109:=0
def tw4509529712366956965:=0
def tw2652409427197675774:=0
def tw18214984104002909104:=0
def tw8105822824337053473:=0
def tw17827201697684344740:=0
def tw578766836930968980:=0
def tw16829373584840589779:=0
def tw18260089031923815927:=0
def tw11296114049946606732:=0
def tw11397783203608924817:=0
def tw16901872762261728363:=0
def tw10450669988090523756:=0
def tw14420080318276260831:=0
def tw9806846565818001382:=0
def tw3637634239461716006:=0
def tw7354110948312800189:=0
def tw346752660299314107:=0
def tw5036573278660277527:=0
def tw7361171721322893128:=0
def tw8890218619666569411:=0
def tw3241476759752417803:=0
def tw11980432383058970697:=0
def tw16996518848118063487:=0
def tw9978174354415378501:=0
def tw15990729277041505679:=0
def tw14929769094244992246:=0
def tw16930032286419489163:=0
def tw15870066801049510180:=0
def tw14494133638956329001:=0
def tw17664041970647510996:=0
def tw13891046216946434200:=0
def tw365661960560642889:=0
def tw16788936364643761838:=0
def tw16320694275472386354:=0
def tw10024017079624904678:=0
def tw16706966475041631027:=0
def tw8225239144968963799:=0
def tw14541499896740481859:=0
def tw13777263017400288411:=0
def tw12983590884969799783:=0
def tw10638963979234653642:=0
def tw12872786426586176091:=0
def tw5961354386030926560:=0
def tw17229083715970156251:=0
def tw6346225570437974481:=0
def tw17130452224582008052:=0
def tw11285829074214942647:=0
def tw2487742989183931992:=0
def tw5968654888024938901:=0
def tw4363806979994782248:=0
def tw203731337228450928:=0
def tw1794446787378195884:=0
def tw6134230048330437987:=0
def tw16868735794533464394:=0
def tw8956482206699354269:=0
def tw8045096370614063479:=0
def tw24113752122244630:=0
def tw15100186067755605045:=0
def tw13472037604913091835:=0
def tw10531923836413058837:=0
def tw8058493847361861961:=0
def tw7345426627155658843:=0
def tw45118533557067713:=0
def tw3972377066621251504:=0
def tw2129125411525027416:=0
def tw7360733435786777491:=0
def tw6386008195560431527:=0
def tw8237765902873381801:=0
def tw543329843393007710:=0
def tw4308603993159260877:=0
def tw3672802249223818178:=0
def tw17556531961084071943:=0
def tw9964033480008061746:=0
def tw9916505187778522958:=0
def tw987061490273505007:=0
def tw9834852895420949992:=0
def tw9714470735684002333:=0
def tw9556163263391812015:=0
def tw9156751444809048173:=0
def tw908853150194181287:=0
def tw908242749228785960:=0
def tw8888238693026107375:=0
def tw8755890141629766680:=0
def tw8444274877802128641:=0
def tw8258935041862943952:=0
def tw7897465393201869277:=0
def tw7363676758443360763:=0
def tw7348323819183787758:=0
def tw7343783994775499844:=0
def tw73339701175595509:=0
def tw7212155477000671475:=0
def tw714198026113756155:=0
def tw7059763341368261422:=0
def tw689318457283076445:=0
def tw6625493347852207657:=0
def tw6555205634798296180:=0
def tw6228642742488868453:=0
def tw6142984336958746247:=0
def tw6134925960246501808:=0
def tw6011120620467355396:=0
def tw593025257742150581:=0
def tw5788100167802451257:=0
def tw5629603259186447626:=0
def tw5515142833939632818:=0
def tw5360119666933432196:=0
def tw5304151820440214414:=0
def tw5302079760472333954:=0
def tw5300261140066744902:=0
def tw4759138089891529241:=0
def tw4644526321226657359:=0
def tw461875491284864935:=0
def tw4575655812038337020:=0
def tw4571525294197559849:=0
def tw4518431937253289437:=0
def tw4501759901014772771:=0
def tw4437212825353762188:=0
def tw423823392986973182:=0
def tw4004760556395657516:=0
def tw3984742088881761578:=0
def tw3874006347700442515:=0
def tw3555135196363797720:=0
def tw3485906760064332925:=0
def tw3065949678613213535:=0
def tw3060224851413605879:=0
def tw2765794549769733014:=0
def tw2653732471364014894:=0
def tw2533781902215273216:=0
def tw2275900025011910334:=0
def tw18305523814894448589:=0
def tw18243862386985471460:=0
def tw17824523184557449582:=0
def tw17617871648860320000:=0
def tw17506112437202586537:=0
def tw17289828372636195115:=0
def tw17249235541112735738:=0
def tw17213493143779338937:=0
def tw17071529124064031145:=0
def tw16813195012918760732:=0
def tw16564216952851172730:=0
def tw16415073548054270891:=0
def tw15695968608839466863:=0
def tw15412495046246465496:=0
def tw152966903842238214:=0
def tw15233871592775614140:=0
def tw14841723282506827761:=0
def tw14685086214699759777:=0
def tw14251551204492807942:=0
def tw1412629029456740187:=0
def tw13987311625640924622:=0
def tw13746223888958103455:=0
def tw13574594125259090763:=0
def tw13224810791847109396:=0
def tw13023892338593475782:=0
def tw12980168479121772830:=0
def tw12974637442627401073:=0
def tw12953136795176955548:=0
def tw12904592588831354015:=0
def tw12694165466075499691:=0
def tw12574901727264692341:=0
def tw12571201153621330501:=0
def tw12225826586389876125:=0
def tw12116194142247258342:=0
def tw1206659750452236270:=0
def tw11634220735917870381:=0
def tw1159174114500398696:=0
def tw11471515091426271865:=0
def tw1134390435481203603:=0
def tw11196240776001187464:=0
def tw1104619940277838403:=0
def tw11002916642043533889:=0
def tw10932052651419066939:=0
def tw10869409439282593927:=0
def tw1079928118648568600:=0
def tw10726961322151387502:=0
def tw10618955712591342682:=0
def tw10516714795978442709:=0
def tw10478256121547399427:=0
def tw10433615198419203317:=0
def tw10375341301281520054:=0
def tw10276913361324552278:=0
def tw10083081788133722353:=0
end PySem.W.Fast
open PySem PySem.W PyProof.Rows
local macro_rules | `(tactic| walk_at "f")=>`(tactic| (refine' L2.DfT.of ?a ?l ?c ?k;(case a=>k_is);(case l=>k_is);(case c=>k_is);(case k=>k_is)))
local macro_rules | `(tactic| walk_at "m")=>`(tactic| (refine' L2.DmT.of ?a ?i ?l ?c ?k;(case a=>k_is);(case i=>k_is);(case l=>k_is);(case c=>k_is);(case k=>k_is)))
local macro_rules | `(tactic| walk_at "c")=>`(tactic| (refine'⟨⟨?a,?i,?l,?c⟩,?m,?k⟩;(case a=>k_is);(case i=>k_is);(case l=>k_is);(case c=>k_is);(case m=>k_is);(case k=>k_is)))
set_option maxRecDepth 100000 in
theorem PySem.Challenge.cw_goneday_k24_whatever_the_order_holds : PySem.Challenge.rw_goneday_k24_whatever_the_order.Holds := by
 w_on;o_law;k_head;(case hw=>w_witness2)
 k_fill
 refine L2.walk_ofBK (l:=PySem.Challenge.rw_goneday_k24_whatever_the_order) (n:=63) (k:=20) (x:="_law_script") (CX:=L2.CX0) (sp:=K24.sp_law) rfl Yq rfl ⟨rfl,Yq,Yq⟩ (λw h Y=>PySem.W.kIn_of Y) ?F ?S ?C
 case F=>
  intro w mg fa h KX G hmg;have T:∃t,K24.Txt (L2.KOf KX) mg t:=by
   dsimp only [L2.KOf];refine' K24.txt_mk KX G ?za ?zb ?zc ?zd ?ze ?zf ?zg ?zh ?zi ?zj ?zk ?zl ?zm ?zn ?zo ?zp ?zq ?zr ?zs ?zt ?zu ?zv ?zw ?zx ?zy ?zz ?zA ?zB ?zC ?zD ?zE ?zF ?zG ?zH ?zI ?zJ ?zK ?zL ?zM ?zN ?zO ?zP ?zQ ?zR ?zS ?zT ?zU ?zV ?zW ?zX ?zY ?zZ ?ya ?yb ?yc ?yd ?ye ?yf ?yg ?yh ?yi ?yj ?yk ?yl ?ym ?yn ?yo ?yp ?yq ?yr ?ys ?yt ?yu ?yv ?yw ?yx ?yy ?yz ?yA ?yB ?yC ?yD ?yE ?yF ?yG ?yH ?yI ?yJ ?yK ?yL ?yM ?yN ?yO ?yP ?yQ ?yR ?yS ?yT ?yU ?yV ?yW ?yX ?yY ?yZ ?xa ?xb ?xc ?xd ?xe ?xf ?xg ?xh
   (case za | zb | zc | zd | ze | zf | zg | zh | zj | zk | zl | zm | zn | zo | zp | zq | zr | zs | zt | zu | zv | zw | zx | zy | zz | zA | zB | zC | zD | zE | zF | zN | zO | zP | zQ | zR | zS | zT | zU | zV | zW | zX | zY | zZ | ya | yb | yc | yd | ye | yf | yg | yh | yi | yj | yk | yl=>walk_at "f")
   (case ym | yn=>k_is)
   (case yo=>first | (repeat (first | exact .nil | refine .cons ⟨_,rfl⟩ ?_)))
   (case yp=>decide)
   (case yq=>k_is)
   (case yr=>exact⟨_,rfl⟩)
   (case ys=>k_is)
   (case yt=>exact⟨_,rfl⟩)
   (case yu=>k_is)
   (case yv=>exact⟨_,rfl⟩)
   (case yw | yx | yy | yz=>k_is)
   (case yA=>walk_at "c")
   (case yB | yC | yD | yE | yF=>unfold L2.NoAttr;k_is)
   (case yG=>walk_at "c")
   (case yH | yI | yJ | yK | yL | yM=>unfold L2.NoAttr;k_is)
   (case yN=>walk_at "c")
   (case yO | yP | yQ | yR | yS | yT=>unfold L2.NoAttr;k_is)
   (case yU | yV | yW | yX | yY | yZ | xa | xb | xc | xd | xe | xf | xg | xh=>k_is)
   (case zi | zG | zH | zI | zJ | zK | zL | zM=>walk_at "m")
  obtain⟨t,T⟩:=T;have e0:=hmg.symm.trans T.F_AL.m;cases e0;exact⟨t.d_AL,T.bt_AL,λbase kb nb=>K24.ok_law T⟩
 case S=>exact λK H a ns hl hb hO hS=>K24.start_law hl hb hS
 case C=>exact λ_ _ _ _ z=>z
